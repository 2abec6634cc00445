import PyProof.Rows.All
import Wide.All
import OpenK.AllK
import Wide.FinOn
import HandS.ForMost
import HandS.AnyAll
import PyProof.TupleOfGen
import PyProof.WalksMore
import HandS.Zip
import KE.GoesEnum
import HandS.Deep
import PyProof.Rows.RegFStrParts
import HandS.SortInts
import HandS.TupSets
import HandS.EndBits
import KE.KNest
import KE.DatumIndex
import HandS.GenList
import HandS.Wide
import HandS.Codes
import HandS.Conv
import HandS.TupAny
import HandS.IsInst
import HandS.Style
import KE.DataMinMax
import HandS.RevRange
import HandS.Small
import HandS.Dict
import HandS.Iter
import KE.SortData
import PySem.Challenge.RW_redraw_k42_whole_trees_of_runs
set_option Elab.async false
set_option linter.all false
set_option maxRecDepth 100000
set_option maxHeartbeats 4000000
/-! generator expressions over a list or a tuple whose element keeps the heap: tuple(..), all(..), any(..) -/
namespace Gv
open PySem PySem.Spec PyProof.Rows L2
/-- a list or a tuple of these -/
def Sq (K : PySem.W.Frag) (H : Hp) (a : Addr) (xs : List V) : Prop := SqL K H a xs ∨ SqT K H a xs
section
variable {X : Cx} {pins : List (Addr × Obj)} {σ : L2.St} {H : Hp} {s : Shared}
/-- iter(a): its items, and a walk over them that writes its own new cell alone -/
theorem iter_sq {a : Addr} {xs : List V} (I : Inv X pins σ H s) (h : Sq X.K H a xs) :
    ∃ its : List Value, Vals xs its ∧ xs.length ≤ sizeLine ∧ a < s.heap.objs.size ∧ ∀ (Q : Value → Shared → Prop) (E : Value → Shared → Prop),
      (∀ (o : Obj) (St : Nat → Heap → Prop), (∀ A' : Around, A'.handled = none → Walks X.prog X.w A' s.heap.objs.size [s.heap.objs.size, a] [s.heap.objs.size] its.length (fun i v => its[i]? = some v) St) → St 0 (s.heap.push o) →
        Q (.ref s.heap.objs.size) { s with heap := s.heap.push o }) → wpAny (model X.prog X.w) X.A (pyIter (.ref a)) Q E s := by
  rcases h with h | h
  · obtain ⟨its, rv, pl, hz⟩ := I.list h
    have hL := pl.isList
    have hlt : a < s.heap.objs.size := let ⟨_, e, _⟩ := hL; Heap.lt_size e
    refine ⟨its, rv, hz, hlt, fun Q E k => wpAny_pyIter_list hL (k _ (fun i h => h.IsListIter s.heap.objs.size a i ∧ h.IsList a its.toArray) (fun A' hA => ?_) ⟨⟨_, Heap.get?_push_size _ rfl, rfl, rfl⟩, ?_⟩)⟩
    · have W := Walks.list (prog := X.prog) (w := X.w) hA s.heap.objs.size a (Nat.ne_of_lt hlt) its.toArray
      simpa using W
    · obtain ⟨o, e, r⟩ := hL
      exact ⟨o, Heap.get?_push_of_some _ e, r⟩
  · obtain ⟨its, rv, pl, hz⟩ := I.tuple h
    have hlt : a < s.heap.objs.size := pl.lt
    refine ⟨its, rv, hz, hlt, fun Q E k => wpAny_pyIter_tuple (show s.heap.IsTuple a its.toArray from pl) (k _ (fun i h => h.IsTupleIter s.heap.objs.size a i ∧ h.IsTuple a its.toArray) (fun A' hA => ?_) ⟨⟨_, Heap.get?_push_size _ rfl, rfl, rfl⟩, ?_⟩)⟩
    · have W := Walks.tuple (prog := X.prog) (w := X.w) hA s.heap.objs.size a (Nat.ne_of_lt hlt) its.toArray
      simpa using W
    · exact pl.push _
/-- the element, of the item x0 the value y0, with all that stood kept -/
def EltV (X : Cx) (pins : List (Addr × Obj)) (σ : L2.St) (scope : Scope) (x : Str) (elt : Expr) (P : Addr) (H1 : Hp) (xs ys : List V) : Prop :=
  ∀ (s1 t : Shared) (C : Addr) (code : Value) (bi : Addr) (A' : Around) (E' : Value → Shared → Prop) (i : Nat) (x0 : V) (u : Value) (m : Str → Option Value),
    Inv X pins σ H1 s1 → A'.handled = none → A'.units ≤ X.A.units + 8 → xs[i]? = some x0 → RelV x0 u → t.heap.Ns C m → m x = some u → (∀ b o, b ≠ P → s1.heap.get? b = some o → t.heap.get? b = some o) →
    wpAny (model X.prog X.w) A' (eval elt (genEnv scope (cloFrom X.env.cells scope.names []) C code bi X.env)) (fun y t' => (∃ y0, ys[i]? = some y0 ∧ RelV y0 y) ∧ Keeps t t') E' t
/-- the generator at g, about to give out the values ys -/
def Ready (X : Cx) (pins : List (Addr × Obj)) (σ : L2.St) (H1 : Hp) (P : Addr) (ys : List V) (g : Addr) (s5 : Shared) : Prop :=
  ∃ (fp wr : List Addr) (G : Array GenState → Array GenState → Prop) (F : Nat → Value → Prop) (St : Nat → Shared → Prop),
    WalksS X.prog X.w X.A.in4 g fp wr G ys.length F St ∧ St 0 s5 ∧ (∀ b ∈ fp, b < s5.heap.objs.size) ∧ g ∈ fp ∧ (∀ i s9, St i s9 → s9.TypeIs (.ref g) "generator") ∧
    (∀ j v, F j v → ∃ y, ys[j]? = some y ∧ RelV y v) ∧ ∀ s', Moved wr G s5 s' → ∃ H2, GxR.Tabbed P H1 H2 ∧ Inv X pins σ H2 s'
theorem gen_sq {c P : Addr} {elt iter : Expr} {x : Str} {px gpos : Pos} {scope : Scope} {te : TE} {k : Nat} {Q' : Value → Shared → Prop} {R : List V → Hp → Prop}
    (hr : Room k X.A) (TB : GxR.TabB X.base X.mg c P) (hcode : X.env.code = .ref c) (S : GxR.GenS X.env scope x) (hi : PE X iter te) (hs : ∀ v, genFold iter X.env v = pure v) (I : Inv X pins σ H s)
    (h : te σ H fun v H1 => ∃ (a : Addr) (xs ys : List V), v = .ref a ∧ Sq X.K H1 a xs ∧ ys.length = xs.length ∧ (∀ pins, EltV X pins σ scope x elt P H1 xs ys) ∧ GxR.TabG H1 P ∧ R ys H1)
    (hQ : ∀ ys H1 g s5, ys.length ≤ sizeLine → R ys H1 → Ready X pins σ H1 P ys g s5 → Q' (.ref g) s5) :
    wpAny (model X.prog X.w) X.A (eval (.GeneratorExp elt [⟨.Name x px, iter, [], 0⟩] scope gpos) X.env) Q' X.xe s := by
  refine wpAny_GeneratorExp_walksQD hr.hd S.co (closure_ok S.free) S.cell S.dot S.loc S.kind (by have := hr.dp; omega) (thn (hi.run pins s σ H _ I h) fun xv s1 ⟨v, H1, I1, r1, q1⟩ => ?_) hs
  obtain ⟨a, xs, ys, rfl, hsq, hyl, hel, ⟨ps, hP, ht⟩, q1⟩ := q1
  cases (show xv = Value.ref a from r1)
  obtain ⟨its, rv, hz, hlt, go⟩ := iter_sq I1 hsq
  refine go _ _ fun o St W st0 => ⟨I1.nolimit.push o, ?_⟩
  have tabS : s1.heap.get? P = some { cls := .none, data := .fields ps } := I1.hok P _ hP
  have ltP : P < s1.heap.objs.size := Heap.lt_size tabS
  have tab2 : (s1.heap.push o).get? P = some { cls := .none, data := .fields ps } := Heap.get?_push_of_some _ tabS
  have hd : PySem.W.CodeHd (s1.heap.push o) c P := TB.code.keeps fun b u e => Heap.get?_push_of_some _ (I1.bk b u e)
  have neI : s1.heap.objs.size ≠ P := fun z => Nat.lt_irrefl _ (z ▸ ltP)
  -- the code object of the expression, its table perhaps longer behind it
  have key : ∀ (REST : Value → Shared → Prop), (∀ (cv : Value) (h3 : Heap) (tk : Nat) (more : Array Value), Heap.ExtBut P (s1.heap.push o) h3 → (s1.heap.push o).objs.size ≤ h3.objs.size → h3.get? P = some { cls := .none, data := .fields (ps ++ more) } → TriplesOk (ps ++ more).toList → REST cv { s1 with heap := h3, toks := tk }) →
      wpAny (model X.prog X.w) X.A (genexprCode X.env gpos (X.env.qual ++ "<genexpr>") scope) REST X.xe { s1 with heap := s1.heap.push o } := fun REST fin => by
    cases hf : codeAmong gpos ps.toList with
    | some cv =>
      have e : ps = ps ++ #[] := by simp
      exact wpAny_genexprCode_hit hcode (hd.code tab2 ht) hf (fin cv _ s1.toks #[] (Heap.ExtBut.refl _ _) (Nat.le_refl _) (e ▸ tab2) (e ▸ ht))
    | none =>
      refine wpAny_genexprCodeX hcode (hd.code tab2 ht) (hd.tab tab2) hf fun c' h3 tk ex ge lt ic _ ta _ => ?_
      obtain ⟨_, _, _, _, _, _, _, _, _, _, _, _, _, _, _, _, _, _, _, tr, _⟩ := ic
      exact fin _ h3 tk _ ex (Nat.le_trans ge (Nat.le_of_lt lt)) ta.2 tr
  refine key _ fun cv h3 tk more ex ge tab3 tr3 => ?_
  obtain ⟨bm, ob, b1, b2, b3, b4, b5, b6, b7, b8⟩ := TB.bm
  have up : ∀ b u, b ≠ P → s1.heap.get? b = some u → h3.get? b = some u := fun b u n e => ex b u n (Heap.get?_push_of_some _ e)
  have sz : s1.heap.objs.size + 1 ≤ h3.objs.size := by rw [← Heap.size_push s1.heap o]; exact ge
  have nlS : cStatics ≠ P ∧ cStatics < s1.heap.objs.size := by
    obtain ⟨_, ns, _⟩ := I1.nolimit
    refine ⟨fun z => ?_, ns.lt⟩
    obtain ⟨o', es, ep, ho, hdd, _⟩ := ns
    rw [z, tabS] at ho
    cases ho
    cases hdd
  refine wpAny_builtinsFor (m := X.mg) (by rw [I1.ok.glob]; exact ((I1.mod.glob.keeps I1.bk).push o).extBut ex TB.gP) b1 b2 (up _ _ b4 (I1.bk _ _ b5)) b6 b7 b8 ?_
  refine ⟨s1.heap.objs.size, [s1.heap.objs.size, a], [s1.heap.objs.size], its.length, (fun i v => its[i]? = some v), St, (fun _ => true), (fun i y => ∃ y0, ys[i]? = some y0 ∧ RelV y0 y), rfl, W, ?_, ?_, (I1.nolimit.push o).extBut ex nlS.1, ?_, ?_, ?_⟩
  · refine (W X.A hr.hd).frame _ _ _ st0 fun b hb u e => ex b u (fun z => ?_) e
    rcases List.mem_cons.mp hb with q | q
    · exact neI (q.symm.trans z)
    · have q2 : b = a := by simpa using q
      exact absurd (q2.symm.trans z) (by
        intro az
        rcases hsq with hh | hh
        · obtain ⟨its', _, pl, _⟩ := I1.list hh
          obtain ⟨oo, _, e1, _, _, d1⟩ := pl
          rw [az, tabS] at e1
          cases e1
          cases d1
        · obtain ⟨its', _, pl, _⟩ := I1.tuple hh
          obtain ⟨oo, e1, _, _, d1⟩ := pl
          rw [az, tabS] at e1
          cases e1
          cases d1)
  · intro b hb
    show b < h3.objs.size
    rcases List.mem_cons.mp hb with q | q
    · rw [q]; exact Nat.lt_of_succ_le sz
    · have q2 : b = a := by simpa using q
      rw [q2]; exact Nat.lt_of_lt_of_le hlt (Nat.le_of_succ_le sz)
  · intro z
    have z2 : cStatics = s1.heap.objs.size := by simpa using z
    exact Nat.ne_of_lt nlS.2 z2
  · intro href hk
    refine ⟨fun A' E' i v t m hA _ _ hv hn hm hkp => ?_, fun A' E' i v t m hA _ hU hv _ hn hm hkp => ?_⟩
    · simp only [List.forIn_nil]
      exact wpAny_pure ⟨rfl, GxR.keeps_refl _⟩
    · have li : i < xs.length := by rw [rv.length]; exact (List.getElem?_eq_some_iff.mp hv).1
      obtain ⟨u, hu, ru⟩ := rv.get (List.getElem?_eq_getElem li)
      rw [hv] at hu
      cases hu
      refine wpAny_mono (hel pins s1 t _ cv _ A' E' i _ v m I1 hA hU (List.getElem?_eq_getElem li) ru hn hm fun b u n e => ?_) (fun y t' r => r) fun _ _ e => e
      have e3 := up b u n e
      refine hkp b (List.mem_range.mpr (Heap.lt_size e3)) (fun z => ?_) u (hk b u e3)
      have z2 : b = s1.heap.objs.size := by simpa using z
      exact Nat.lt_irrefl _ (z2 ▸ Heap.lt_size e)
  · intro g h5 tk5 gs hgb hag hsz5 hk5 W5 hat
    have el : its.length = ys.length := by rw [hyl, ← rv.length]
    simp only [GxR.passing_true, List.length_range, el] at W5 hat
    refine hQ ys H1 g _ (by rw [hyl]; exact hz) q1 ⟨_, _, _, _, _, W5, hat, ?_, List.mem_cons_self, fun i s9 st => st.1.typeIs, ?_, fun s' mv => ?_⟩
    · intro b hb
      show b < h5.objs.size
      rw [hsz5]
      rcases List.mem_cons.mp hb with q | q
      · rw [q]; exact Nat.lt_succ_self _
      · rcases List.mem_cons.mp q with q | q
        · rw [q]; exact Nat.lt_succ_of_lt hag
        · exact Nat.lt_succ_of_lt (Nat.lt_trans (List.mem_range.mp q) hag)
    · intro j v hv
      obtain ⟨i, hij, y0, hy, r⟩ := hv
      obtain ⟨hj, ej⟩ := List.getElem?_eq_some_iff.mp hij
      rw [List.getElem_range] at ej
      subst ej
      exact ⟨y0, hy, r⟩
    · have out : ∀ b u, s1.heap.get? b = some u → b ∉ h3.objs.size :: [s1.heap.objs.size] := fun b u e hb => by
        have l := Heap.lt_size e
        rcases List.mem_cons.mp hb with q | q
        · rw [q] at l
          exact absurd l (Nat.not_lt.mpr (Nat.le_of_succ_le sz))
        · have q2 : b = s1.heap.objs.size := by simpa using q
          exact Nat.lt_irrefl _ (q2 ▸ l)
      have J := GxR.inv_tab (more := more) (h' := s'.heap) (g' := s'.gens) (d' := s'.drawn) (t' := s'.toks) I1 hP (fun b u n e => mv.heap b u (out b u e) (hk5 b u (up b u n e))) (mv.heap P _ (out P _ tabS) (hk5 P _ tab3)) (AllBare.movedS (I1.bare.push hgb) mv)
      rw [GxR.sh_eta s1 s' mv.os] at J
      exact ⟨_, ⟨⟨ps ++ more, upd_same, tr3⟩, fun b hb => upd_ne hb⟩, J⟩
/-- tuple(elt for x in e) -/
def tTupG (X : Cx) (scope : Scope) (x : Str) (elt : Expr) (P : Addr) (te : TE) : TE := fun σ H Q => te σ H fun v H1 => ∃ (a : Addr) (xs ys : List V), v = .ref a ∧ Sq X.K H1 a xs ∧ ys.length = xs.length ∧ (∀ pins, EltV X pins σ scope x elt P H1 xs ys) ∧ GxR.TabG H1 P ∧
  ∀ H2, GxR.Tabbed P H1 H2 → ∀ p, H2 p = none → Q (.ref p) (upd H2 p (.tup ys))
theorem items_vals {ys : List V} {F : Nat → Value → Prop} {acc : Array Value} {n : Nat} (hn : ys.length = n) (hF : ∀ j v, F j v → ∃ y, ys[j]? = some y ∧ RelV y v) (h : ItemsOf F acc n) : Vals ys acc.toList := by
  have gen : ∀ (l : List Value) (zs : List V), zs.length = l.length → (∀ (j : Nat) (v : Value), l[j]? = some v → ∃ y, zs[j]? = some y ∧ RelV y v) → Vals zs l := by
    intro l
    induction l with
    | nil => intro zs e _; cases zs with
      | nil => exact .nil
      | cons z r => cases e
    | cons v r ih => intro zs e k; cases zs with
      | nil => cases e
      | cons z q =>
        obtain ⟨y, hy, ry⟩ := k 0 v rfl
        cases hy
        exact .cons ry (ih q (by simpa using e) fun j v hv => k (j + 1) v hv)
  refine gen acc.toList ys (by rw [hn, ← h.1]; simp) fun j v hv => hF j v (h.2 j v (by simpa using hv))
theorem pe_tupG {c P : Addr} {elt iter : Expr} {x : Str} {px p pos gpos : Pos} {scope : Scope} {te : TE} {k : Nat}
    (hr : Room k X.A) (hg : Gl X "tuple") (hm : X.mg "tuple" = none) (TB : GxR.TabB X.base X.mg c P) (hcode : X.env.code = .ref c) (S : GxR.GenS X.env scope x) (hi : PE X iter te) (hs : ∀ v, genFold iter X.env v = pure v)
    (he : starEach [.GeneratorExp elt [⟨.Name x px, iter, [], 0⟩] scope gpos] X.env = (false, eval (.GeneratorExp elt [⟨.Name x px, iter, [], 0⟩] scope gpos) X.env) :: starEach [] X.env := by rfl) :
    PE X (.Call (.Name "tuple" p) [.GeneratorExp elt [⟨.Name x px, iter, [], 0⟩] scope gpos] [] pos) (tTupG X scope x elt P te) := by
  refine ⟨fun pins s σ H Q I h => ?_⟩
  refine wpAny_Call_Name_kw (ld_blt I hg hm boot_tuple (PyProof.Rows.callWith_type1 ?_ he (by rfl)))
  rw [he]
  show wpAny _ _ (spliced ((false, _) :: backTo pos (starEach [] X.env))) _ _ s
  unfold tTupG at h
  refine Calls.spliced_cons (gen_sq (te := te) (R := fun ys H1 => ∀ H2, GxR.Tabbed P H1 H2 → ∀ p, H2 p = none → Q (.ref p) (upd H2 p (.tup ys))) hr TB hcode S hi hs I (H := H) h fun ys H1 g s5 hz hR hG => ?_)
  · obtain ⟨fp, wr, G, F, St, W, st, hfp, hgf, hty, hF, hI⟩ := hG
    refine Calls.spliced_nil (call_tuple_gen W.in4_3 hty st hfp hgf (fun s' acc mv ia => ?_) hz)
    obtain ⟨H2, hT, J⟩ := hI s' mv
    have rv := items_vals rfl hF ia
    refine ⟨.ref s'.heap.objs.size, _, J.laid (t' := s'.toks) (o := .tup ys) (fun b u e => Heap.get?_push_of_some _ e) (Nat.le_refl _) ⟨hz, acc.toList, rv, ?_⟩, rfl, hR H2 hT _ (J.hok.fresh (Nat.le_refl _))⟩
    have z := IsTup.new s'.heap acc
    simpa using z
/-- all(elt for x in e), any(elt for x in e), the element True or False -/
def tAllG (X : Cx) (scope : Scope) (x : Str) (elt : Expr) (P : Addr) (te : TE) : TE := fun σ H Q => te σ H fun v H1 => ∃ (a : Addr) (xs ys : List V), v = .ref a ∧ Sq X.K H1 a xs ∧ ys.length = xs.length ∧ (∀ pins, EltV X pins σ scope x elt P H1 xs ys) ∧ GxR.TabG H1 P ∧
  ∃ bs : List Bool, ys = bs.map V.bl ∧ ∀ H2, GxR.Tabbed P H1 H2 → Q (.bl (bs.all id)) H2
def tAnyG (X : Cx) (scope : Scope) (x : Str) (elt : Expr) (P : Addr) (te : TE) : TE := fun σ H Q => te σ H fun v H1 => ∃ (a : Addr) (xs ys : List V), v = .ref a ∧ Sq X.K H1 a xs ∧ ys.length = xs.length ∧ (∀ pins, EltV X pins σ scope x elt P H1 xs ys) ∧ GxR.TabG H1 P ∧
  ∃ bs : List Bool, ys = bs.map V.bl ∧ ∀ H2, GxR.Tabbed P H1 H2 → Q (.bl (bs.any id)) H2
theorem truth_bls {A : Around} {bs : List Bool} {F : Nat → Value → Prop} (hF : ∀ j v, F j v → ∃ y, (bs.map V.bl)[j]? = some y ∧ RelV y v) : TruthOf X.prog X.w A F (fun j => bs.getD j false) := by
  intro j v t Q E hv hq
  obtain ⟨y, hy, r⟩ := hF j v hv
  rw [List.getElem?_map] at hy
  cases e : bs[j]? with
  | none => rw [e] at hy; cases hy
  | some b =>
    rw [e] at hy
    cases hy
    cases (show v = Value.bool b from r)
    have e2 : bs.getD j false = b := by rw [List.getD_eq_getElem?_getD, e]; rfl
    exact wpAny_truthy_bool (by rw [← e2]; exact hq)
theorem all_range (bs : List Bool) : (List.range bs.length).all (fun j => bs.getD j false) = bs.all id := by
  rw [Bool.eq_iff_iff, List.all_eq_true, List.all_eq_true]
  constructor
  · intro h b hb
    obtain ⟨j, hj, e⟩ := List.getElem_of_mem hb
    have q := h j (List.mem_range.mpr hj)
    rw [List.getD_eq_getElem?_getD, List.getElem?_eq_getElem hj, e] at q
    exact q
  · intro h j hj
    have hj' := List.mem_range.mp hj
    rw [List.getD_eq_getElem?_getD, List.getElem?_eq_getElem hj']
    exact h _ (List.getElem_mem hj')
theorem any_range (bs : List Bool) : (List.range bs.length).any (fun j => bs.getD j false) = bs.any id := by
  rw [Bool.eq_iff_iff, List.any_eq_true, List.any_eq_true]
  constructor
  · intro ⟨j, hj, q⟩
    have hj' := List.mem_range.mp hj
    rw [List.getD_eq_getElem?_getD, List.getElem?_eq_getElem hj'] at q
    exact ⟨_, List.getElem_mem hj', q⟩
  · intro ⟨b, hb, q⟩
    obtain ⟨j, hj, e⟩ := List.getElem_of_mem hb
    refine ⟨j, List.mem_range.mpr hj, ?_⟩
    rw [List.getD_eq_getElem?_getD, List.getElem?_eq_getElem hj, e]
    exact q
theorem pe_allG {c P : Addr} {elt iter : Expr} {x : Str} {px p pos gpos : Pos} {scope : Scope} {te : TE} {k : Nat}
    (hr : Room k X.A) (hg : Gl X "all") (hm : X.mg "all" = none) (TB : GxR.TabB X.base X.mg c P) (hcode : X.env.code = .ref c) (S : GxR.GenS X.env scope x) (hi : PE X iter te) (hs : ∀ v, genFold iter X.env v = pure v)
    (he : starEach [.GeneratorExp elt [⟨.Name x px, iter, [], 0⟩] scope gpos] X.env = (false, eval (.GeneratorExp elt [⟨.Name x px, iter, [], 0⟩] scope gpos) X.env) :: starEach [] X.env := by rfl) :
    PE X (.Call (.Name "all" p) [.GeneratorExp elt [⟨.Name x px, iter, [], 0⟩] scope gpos] [] pos) (tAllG X scope x elt P te) := by
  refine ⟨fun pins s σ H Q I h => ?_⟩
  refine wpAny_Call_Name_kw (ld_blt I hg hm boot_all (PyProof.Rows.callWith_builtin1 ?_ he (by rfl)))
  rw [he]
  show wpAny _ _ (spliced ((false, _) :: backTo pos (starEach [] X.env))) _ _ s
  unfold tAllG at h
  refine Calls.spliced_cons (gen_sq (te := te) (R := fun ys H1 => ∃ bs : List Bool, ys = bs.map V.bl ∧ ∀ H2, GxR.Tabbed P H1 H2 → Q (.bl (bs.all id)) H2) hr TB hcode S hi hs I (H := H) h fun ys H1 g s5 hz hR hG => ?_)
  obtain ⟨bs, rfl, hR⟩ := hR
  obtain ⟨fp, wr, G, F, St, W, st, hfp, hgf, hty, hF, hI⟩ := hG
  refine Calls.spliced_nil (call_all_walkS (W.in4_1.self 0 _ _ _ st ⟨g, fp, wr, G, _, F, St, _, rfl, W.in4_1, st, truth_bls hF, fun s' mv => ?_⟩))
  obtain ⟨H2, hT, J⟩ := hI s' mv
  refine ⟨.bl _, H2, J, rfl, ?_⟩
  rw [List.length_map, all_range]
  exact hR H2 hT
theorem pe_anyG {c P : Addr} {elt iter : Expr} {x : Str} {px p pos gpos : Pos} {scope : Scope} {te : TE} {k : Nat}
    (hr : Room k X.A) (hg : Gl X "any") (hm : X.mg "any" = none) (TB : GxR.TabB X.base X.mg c P) (hcode : X.env.code = .ref c) (S : GxR.GenS X.env scope x) (hi : PE X iter te) (hs : ∀ v, genFold iter X.env v = pure v)
    (he : starEach [.GeneratorExp elt [⟨.Name x px, iter, [], 0⟩] scope gpos] X.env = (false, eval (.GeneratorExp elt [⟨.Name x px, iter, [], 0⟩] scope gpos) X.env) :: starEach [] X.env := by rfl) :
    PE X (.Call (.Name "any" p) [.GeneratorExp elt [⟨.Name x px, iter, [], 0⟩] scope gpos] [] pos) (tAnyG X scope x elt P te) := by
  refine ⟨fun pins s σ H Q I h => ?_⟩
  refine wpAny_Call_Name_kw (ld_blt I hg hm boot_any (PyProof.Rows.callWith_builtin1 ?_ he (by rfl)))
  rw [he]
  show wpAny _ _ (spliced ((false, _) :: backTo pos (starEach [] X.env))) _ _ s
  unfold tAnyG at h
  refine Calls.spliced_cons (gen_sq (te := te) (R := fun ys H1 => ∃ bs : List Bool, ys = bs.map V.bl ∧ ∀ H2, GxR.Tabbed P H1 H2 → Q (.bl (bs.any id)) H2) hr TB hcode S hi hs I (H := H) h fun ys H1 g s5 hz hR hG => ?_)
  obtain ⟨bs, rfl, hR⟩ := hR
  obtain ⟨fp, wr, G, F, St, W, st, hfp, hgf, hty, hF, hI⟩ := hG
  refine Calls.spliced_nil (call_any_walkS (W.in4_1.self 0 _ _ _ st ⟨g, fp, wr, G, _, F, St, _, rfl, W.in4_1, st, truth_bls hF, fun s' mv => ?_⟩))
  obtain ⟨H2, hT, J⟩ := hI s' mv
  refine ⟨.bl _, H2, J, rfl, ?_⟩
  rw [List.length_map, any_range]
  exact hR H2 hT
/-- an element f[x]: f a captured name of a tuple, x the walk's own -/
theorem elt_item {f x : Str} {scope : Scope} {P fa : Addr} {H1 : Hp} {xs ys zs : List V} {j : Nat} {p1 p2 p3 : Pos} (hk : scope.kind = .function) (hx : scope.names.lookup x = some .local) (hf : scope.names.lookup f = some .free)
    (hcl : (cloFrom X.env.cells scope.names []).lookup f = some ((X.env.cells.lookup f).getD 0)) (hj : X.N[j]? = some f) (hkf : X.env.kindOf f = some .cell) (hσ : σ[j]? = some (some (.ref fa))) (hq : SqT X.K H1 fa zs) (hT : GxR.TabG H1 P)
    (hv : ∀ (i : Nat) x0, xs[i]? = some x0 → ∃ (n : Int) (y : V), x0 = .int n ∧ atI zs n = some y ∧ ys[i]? = some y) (hdf : (f == ("__debug__" : Str)) = false := by decide) (hdx : (x == ("__debug__" : Str)) = false := by decide) (hcf : (f == ("__classdict__" : Str)) = false := by decide) :
    EltV X pins σ scope x (.Subscript (.Name f p1) (.Name x p2) p3) P H1 xs ys := by
  intro s1 t C code bi A' E' i x0 u m I hA hU hx0 ru hn hm hkp
  obtain ⟨n, y, rfl, hat, hy⟩ := hv i x0 hx0
  obtain ⟨tk, rfl⟩ := (show ∃ t, u = Value.int n t from ru)
  obtain ⟨ps, hP, _⟩ := hT
  have tabS : s1.heap.get? P = some { cls := .none, data := .fields ps } := I.hok P _ hP
  obtain ⟨m1, _, hl⟩ := I.loc
  obtain ⟨uf, rf, lk⟩ := hl j f _ hj hσ (.inr (.inl hkf))
  cases (show uf = Value.ref fa from rf)
  obtain ⟨c, hc, ic⟩ : ∃ c, X.env.cells.lookup f = some c ∧ s1.heap.IsCell c (some (.ref fa)) := by
    rcases lk with ⟨z, _⟩ | ⟨_, c, hc, ic⟩
    · rw [hkf] at z; cases z
    · exact ⟨c, hc, ic⟩
  have ic2 : t.heap.IsCell c (some (.ref fa)) := by
    obtain ⟨o, ho, hd⟩ := ic
    refine ⟨o, hkp c o (fun z => ?_) ho, hd⟩
    rw [z, tabS] at ho
    cases ho
    cases hd
  obtain ⟨its, rv, pl, hz⟩ := I.tuple hq
  have pl2 : IsTup t.heap fa its.toArray := by
    obtain ⟨o, ho, hcl', nn, hd⟩ := pl
    refine ⟨o, hkp fa o (fun z => ?_) ho, hcl', nn, hd⟩
    rw [z, tabS] at ho
    cases ho
    cases hd
  obtain ⟨jj, h1, h2, h3, h4, h5⟩ := atI_get hat
  obtain ⟨wv, ew, rw'⟩ := rv.get h2
  have hlen := rv.length
  have hn63 := line63
  have clf : (genEnv scope (cloFrom X.env.cells scope.names []) C code bi X.env).cells.lookup f = some c := by
    show (cloFrom X.env.cells scope.names []).lookup f = some c
    rw [hcl, hc]
    rfl
  refine Subscript_ (wpAny_Name (wpAny_loadName_free hk hf clf ic2 (wpAny_Name (wpAny_loadName_local hk hx hn hm ?_) hdx) hcf) hdf)
  exact subscriptTail_builtinR (x := wv) pl2.typeIs slot_tuple_getitem.lookup
    (getItem_tuple (j := jj) (Q := fun r s' => r = wv ∧ ((∃ y0, ys[i]? = some y0 ∧ RelV y0 r) ∧ Keeps t s')) pl2 (by omega) (by omega) (by rw [List.size_toArray, ← hlen]; exact h1) (by simpa using ew) ⟨rfl, ⟨y, hy, rw'⟩, GxR.keeps_refl _⟩) (by rfl)
end
end Gv

set_option Elab.async false
set_option linter.all false
set_option maxRecDepth 100000
set_option maxHeartbeats 4000000
/-! enumerate(t), t a tuple -/
namespace Et
open PySem PySem.Spec PyProof.Rows L2
theorem meets_one {v : Value} {o : Obj} {B : Heap → Prop} (hB : Begins v o B) :
    Meets (Builtin.«enumerate.__new__» ⟨[.type "enumerate", v], []⟩) (fun _ R s => B s.heap ∧
      R (.ok (.ret (.ref (s.heap.push o).objs.size))) { s with heap := (s.heap.push o).push { cls := .type "enumerate", data := .fields #[.none, .bool false, .ref s.heap.objs.size, rawInt 0, .none, .none] } }) :=
  .of_wp fun prog w A R s h => by
    obtain ⟨hp, g, d, tk, os⟩ := s
    obtain ⟨hb, h⟩ := h
    have hsub := sub_enumerate
    have begin1 : ∀ {A1 : Around} {E1 : Value → Shared → Prop} {Q1 : Value → Shared → Prop}, Q1 (.ref hp.objs.size) ⟨hp.push o, g, d, tk, os⟩ → wpAny (model prog w) A1 (pyIter v) Q1 E1 ⟨hp, g, d, tk, os⟩ := fun q => hB.iter prog w _ _ ⟨hp, g, d, tk, os⟩ _ hb q
    wp_walk using begin1
    refine wpAny_stack_any fun stk => wpAny_pure ?_
    split
    next c _ _ _ _ _ =>
      cases (c == Value.type "enumerate") <;> (wp_walk using begin1; exact ⟨_, rfl, h⟩)
    next => wp_walk using begin1; exact ⟨_, rfl, h⟩
theorem make {prog : Program} {w : World} {A : Around} {E : Value → Shared → Prop} {s : Shared} {v : Value} {o : Obj} {B : Heap → Prop} {Q : Value → Shared → Prop} (hB : Begins v o B) (hb : B s.heap)
    (k : ∀ h', IsEnum h' (s.heap.objs.size + 1) s.heap.objs.size 0 .none → h'.get? s.heap.objs.size = some o → (∀ b o, s.heap.get? b = some o → h'.get? b = some o) → Q (.ref (s.heap.objs.size + 1)) { s with heap := h' }) :
    wpAny (model prog w) A (call (.type "enumerate") [v]) Q E s := by
  refine callType_new F.called_enumerate (by decide) (F.typeCall_enumerate_1 _) (F.newCall_enumerate_1 _) (fun obj => F.args_object_init_2 obj _) F.entry_enumerate_new (meets_one hB) ⟨hb, ?_⟩
  have z : (s.heap.push o).objs.size = s.heap.objs.size + 1 := Heap.size_push ..
  generalize hn : ({ cls := .type "enumerate", data := .fields #[.none, .bool false, .ref s.heap.objs.size, rawInt 0, .none, .none] } : Obj) = en
  have e : ((s.heap.push o).push en).get? (s.heap.objs.size + 1) = some en := by
    have q := Heap.get?_push_size (s.heap.push o) (o := en) (by rw [← hn]; rfl)
    rw [z] at q
    exact q
  have ie : IsEnum ((s.heap.push o).push en) (s.heap.objs.size + 1) s.heap.objs.size 0 .none := by
    subst hn
    exact e
  show _ ∧ _
  rw [z]
  exact ⟨⟨_, e, by rw [← hn]⟩, k _ ie (Heap.get?_push_of_some _ (Heap.get?_push_size _ hB.free)) fun b u x => Heap.get?_push_of_some _ (Heap.get?_push_of_some _ x)⟩
/-- the tuple at a walked with its places -/
def ItE (K : PySem.W.Frag) (a : Addr) : It :=
  ⟨fun i H => ∃ (xs : List V) (x : V), SqT K H a xs ∧ xs[i]? = some x, fun i H v H' => ∃ T x, v = .ref T ∧ H T = none ∧ H' = upd H T (.tup [.int (i : Nat), x]) ∧ ∀ xs, SqT K H a xs → xs[i]? = some x,
    fun i H => ∃ xs : List V, SqT K H a xs ∧ xs.length = i⟩
theorem turn {P : Program} {w : World} {K : PySem.W.Frag} {elts : List Expr} {kk : Nat} {tpos : Pos} (a e it : Addr) (hei : e ≠ it) :
    Turn P w K (.Tuple elts kk tpos) (ItE K a) [e, it] e (fun i h => (∃ old, IsEnum h e it ((i : Nat) : Int) old) ∧ h.IsTupleIter it a i) where
  mem := List.mem_cons_self
  obj := fun i h st b hb => by
    obtain ⟨⟨old, he⟩, o, ho, _, hd⟩ := st
    rcases List.mem_cons.mp hb with z | z
    · rw [z]; exact ⟨_, he, fun v q => nomatch q⟩
    · rw [List.mem_singleton.mp z]; exact ⟨o, ho, fun v q => by rw [hd] at q; cases q⟩
  keep := fun i h h' st k => ⟨let ⟨old, he⟩ := st.1; ⟨old, k e (by simp) _ he⟩, st.2.at fun o q => k it (by simp) o q⟩
  item := by
    intro X hP hw hK hc i pins s σ H E I hf st hg
    subst hP hw hK
    obtain ⟨⟨old, he⟩, hit⟩ := st
    obtain ⟨xs, x, hq, hx⟩ := hg
    obtain ⟨its, rv, pl, hz⟩ := I.tuple hq
    obtain ⟨u, hu, ru⟩ := rv.get hx
    have le : e < s.heap.objs.size := Heap.lt_size he
    have li : it < s.heap.objs.size := by obtain ⟨_, q, _⟩ := hit; exact Heap.lt_size q
    have nai : a ≠ it := fun z => by
      obtain ⟨o, q, hcl, _⟩ := hit
      obtain ⟨o2, q2, hcl2, _⟩ := pl
      rw [z, q] at q2
      cases q2
      rw [hcl] at hcl2
      exact absurd (Value.type.inj hcl2) (by decide)
    have nea : e ≠ a := fun z => by
      obtain ⟨o2, q2, hcl2, _⟩ := pl
      rw [← z] at q2
      have q3 := Option.some.inj (he.symm.trans q2)
      rw [← q3] at hcl2
      exact absurd (Value.type.inj hcl2) (by decide)
    have D := Draws.tuple (prog := X.prog) (w := X.w) (A := X.A.in1) (I.ok.hd hc) it a nai its.toArray
    have hlt : i < its.toArray.size := by simpa using (List.getElem?_eq_some_iff.mp hu).1
    refine wpAny_pyNext_enum_itemD D he ⟨hit, pl⟩ hlt hei (by simp [hei, nea]) fun y h' tk hy ho st' hT hsz hk => ?_
    obtain rfl : y = u := by
      have q : its[i]? = some y := by simpa using hy
      exact Option.some.inj (q.symm.trans hu)
    refine ⟨_, rfl, wpAny_letOwnedTupleGo_enum (s := { s with heap := h', toks := tk + 1 }) ho fun h'' he' sb => ?_⟩
    have tT : h''.get? s.heap.objs.size = some { cls := .type "tuple", data := .seq #[.int i tk, y] } := (sb.2 _ (Nat.ne_of_gt le)).trans hT
    have J : Inv X pins σ (upd H s.heap.objs.size (.tup [.int (i : Nat), x])) { s with heap := h'', toks := tk + 1 } :=
      I.turnedNew (ch := [e, it]) (fun b ob nb q => (sb.2 b (fun z => nb (by simp [z]))).trans (hk b ob (fun z => nb (by simp [z])) (fun z => nb (by simp [z])) q)) hf (Nat.le_refl _)
        ⟨by show 2 ≤ sizeLine; decide, [.int i tk, y], .cons ⟨_, rfl⟩ (.cons ru .nil), ⟨_, tT, rfl, _, rfl⟩⟩
    refine ⟨.ref s.heap.objs.size, _, J, rfl, ⟨_, x, rfl, I.hok.fresh (Nat.le_refl _), rfl, fun ys hy => by rw [I.tuple_inj hy hq]; exact hx⟩, ⟨⟨y, ?_⟩, st'.1.at fun o q => (sb.2 it (Ne.symm hei)).trans q⟩, fun b hb => ?_⟩
    · have c1 : ((i + 1 : Nat) : Int) = (i : Int) + 1 := by omega
      rw [c1]; exact he'
    · have lb : b < s.heap.objs.size := by
        rcases List.mem_cons.mp hb with z | z
        · rw [z]; exact le
        · rw [List.mem_singleton.mp z]; exact li
      rw [upd_ne (Nat.ne_of_lt lb)]
      exact (hf b hb).1
  done := by
    intro X hP hw hK hc i pins s σ H E I hf st hg
    subst hP hw hK
    obtain ⟨⟨old, he⟩, hit⟩ := st
    obtain ⟨xs, hq, hx⟩ := hg
    obtain ⟨its, rv, pl, hz⟩ := I.tuple hq
    obtain ⟨f0, f1, f2, f3, f4, f5⟩ := hf it (by simp)
    have hl := rv.length
    have nai : a ≠ it := fun z => by
      obtain ⟨o, q, hcl, _⟩ := hit
      obtain ⟨o2, q2, hcl2, _⟩ := pl
      rw [z, q] at q2
      cases q2
      rw [hcl] at hcl2
      exact absurd (Value.type.inj hcl2) (by decide)
    have D := Draws.tuple (prog := X.prog) (w := X.w) (A := X.A.in1) (I.ok.hd hc) it a nai its.toArray
    have en : i = its.toArray.size := by rw [List.size_toArray, ← hl, hx]
    exact wpAny_pyNext_enum_endD D he (by rw [← en]; exact ⟨hit, pl⟩) fun h' eb => ⟨rfl, I.turned (t' := s.toks) (fun b o hb q => eb b o hb q) f0 f1 f3 f4 f5⟩
  self := fun A i s Q E st h => let ⟨⟨_, he⟩, _⟩ := st; wpAny_pyIter_enum he h
def iEnumT (K : PySem.W.Frag) (ta : TA) : TI := fun σ H R => ta σ H fun vs H1 => ∃ a xs, vs = [.ref a] ∧ SqT K H1 a xs ∧ R (ItE K a) H1
theorem pi_enumT {X : Cx} {e : Expr} {ta : TA} {p pos tpos : Pos} {elts : List Expr} {kk : Nat} (hg : Gl X "enumerate") (hm : X.mg "enumerate" = none) (ha : PA X [e] ta) (hs : starEach [e] X.env = [(false, eval e X.env)] := by rfl) :
    PI X (.Tuple elts kk tpos) (.Call (.Name "enumerate" p) [e] [] pos) (iEnumT X.K ta) := by
  refine ⟨fun pins s σ H R I h => ?_⟩
  refine Call_ (ld_blt I hg hm boot_enumerate (PyProof.Rows.callWith_type1 (thn (ha.run pos pins s σ H _ I h) fun us s1 ⟨vs, H1, I1, r1, q1⟩ => ?_) hs rfl))
  obtain ⟨a, xs, rfl, hq, q⟩ := q1
  obtain ⟨u, rfl, ru⟩ := vals1 r1
  cases (show u = Value.ref a from ru)
  obtain ⟨its, rv, pl, hz⟩ := I1.tuple hq
  refine make (begins_tuple a its.toArray) pl fun h' ie io kp => wpAny_pyIter_enum ie ?_
  refine ⟨s1.heap.objs.size + 1, [s1.heap.objs.size + 1, s1.heap.objs.size], _, _, H1, rfl, I1.kept (t' := s1.toks) kp, turn a (s1.heap.objs.size + 1) s1.heap.objs.size (Nat.succ_ne_self _), ⟨⟨.none, ie⟩, _, io, rfl, rfl⟩, fun b hb => ?_, q⟩
  have lb : s1.heap.objs.size ≤ b := by
    rcases List.mem_cons.mp hb with z | z
    · rw [z]; exact Nat.le_succ _
    · rw [List.mem_singleton.mp z]; exact Nat.le_refl _
  exact I1.fpOk lb (I1.hok.fresh lb)
/-- for (i, x) in enumerate(t): an invariant over the turns -/
theorem for_enumT {K : PySem.W.Frag} {a : Addr} {xs : List V} {g : TG} {tb : TS} {D : Ends} {σ : L2.St} {H : Hp} (Pv : Nat → L2.St → Hp → Prop) (h0 : Pv 0 σ H) (hl : ∀ i σ H, i ≤ xs.length → Pv i σ H → SqT K H a xs)
    (hs : ∀ i x σ H T, xs[i]? = some x → Pv i σ H → H T = none → g (.ref T) σ (upd H T (.tup [.int (i : Nat), x])) fun σ2 H2 => tb { D with nx := Pv (i + 1), ct := Pv (i + 1), bk := D.nx } σ2 H2) (hd : ∀ σ H, Pv xs.length σ H → D.nx σ H) :
    ∃ W : Nat → Nat → L2.St → Hp → Prop, (∃ m, W 0 m σ H) ∧ ∀ i m σ H, W i m σ H →
      ((ItE K a).stop i H ∧ D.nx σ H) ∨ ((ItE K a).go i H ∧ ∃ N : L2.St → Hp → Prop, (∀ σ' H', N σ' H' → ∃ m', m' < m ∧ W (i + 1) m' σ' H') ∧ ∀ x H', (ItE K a).yld i H x H' → g x σ H' fun σ2 H2 => tb { D with nx := N, ct := N, bk := D.nx } σ2 H2) := by
  refine ⟨fun i m σ H => i + m = xs.length ∧ Pv i σ H, ⟨xs.length, by omega, h0⟩, ?_⟩
  rintro i m σ H ⟨e, p⟩
  have q := hl i σ H (by omega) p
  by_cases c : i < xs.length
  · refine .inr ⟨⟨xs, xs[i], q, List.getElem?_eq_getElem c⟩, Pv (i + 1), fun σ' H' p' => ⟨m - 1, by omega, by omega, p'⟩, fun v H' hy => ?_⟩
    obtain ⟨T, x, rfl, nT, rfl, fx⟩ := hy
    exact hs i x σ H T (fx xs q) p nT
  · have e2 : i = xs.length := by omega
    subst e2
    exact .inl ⟨⟨xs, q, rfl⟩, hd σ H p⟩
theorem lc_enumT {K : PySem.W.Frag} {a : Addr} {xs : List V} {g : TG} {tt : TT} {te : TE} {vs : List Nat} {σ : L2.St} {H1 : Hp} {D : Addr} {Qd : Hp → Prop} (Pv : Nat → Hp → Prop) (h0 : Pv 0 (upd H1 D (.lst []))) (hl : ∀ i H, i ≤ xs.length → Pv i H → SqT K H a xs)
    (hs : ∀ i x H T, xs[i]? = some x → Pv i H → H T = none → g (.ref T) (wipe σ vs) (upd H T (.tup [.int (i : Nat), x])) fun σ2 H2 => wipe σ2 vs = wipe σ vs ∧ tt σ2 H2 fun b H3 =>
      if b = true then te σ2 H3 fun y H4 => ∃ acc, H4 D = some (.lst acc) ∧ acc.length < sizeLine ∧ Pv (i + 1) (upd H4 D (.lst (acc ++ [y]))) else Pv (i + 1) H3) (hd : ∀ H, Pv xs.length H → Qd H) :
    ∃ W : Nat → Nat → Hp → Prop, (∃ m, W 0 m (upd H1 D (.lst []))) ∧ ∀ i m H, W i m H →
      ((ItE K a).stop i H ∧ Qd H) ∨ ((ItE K a).go i H ∧ ∃ Nx : Hp → Prop, (∀ H', Nx H' → ∃ m', m' < m ∧ W (i + 1) m' H') ∧ ∀ x H', (ItE K a).yld i H x H' → g x (wipe σ vs) H' fun σ2 H2 => wipe σ2 vs = wipe σ vs ∧ tt σ2 H2 fun b H3 =>
        if b = true then te σ2 H3 fun y H4 => ∃ acc, H4 D = some (.lst acc) ∧ acc.length < sizeLine ∧ Nx (upd H4 D (.lst (acc ++ [y]))) else Nx H3) := by
  refine ⟨fun i m H => i + m = xs.length ∧ Pv i H, ⟨xs.length, by omega, h0⟩, ?_⟩
  rintro i m H ⟨e, p⟩
  have q := hl i H (by omega) p
  by_cases c : i < xs.length
  · refine .inr ⟨⟨xs, xs[i], q, List.getElem?_eq_getElem c⟩, Pv (i + 1), fun H' p' => ⟨m - 1, by omega, by omega, p'⟩, fun v H' hy => ?_⟩
    obtain ⟨T, x, rfl, nT, rfl, fx⟩ := hy
    exact hs i x H T (fx xs q) p nT
  · have e2 : i = xs.length := by omega
    subst e2
    exact .inl ⟨⟨xs, q, rfl⟩, hd H p⟩
end Et

set_option Elab.async false
set_option linter.all false
set_option maxRecDepth 100000
set_option maxHeartbeats 4000000
/-! riddles as they lie in the heap, their data, and what a filling breaks -/
namespace Dt
open PySem PySem.Spec PyProof.Rows L2
/-! ### in, of a tuple of data -/
def rInT (K : PySem.W.Frag) : R2 := fun x y H Q => ∃ d ds, Dp K H x d ∧ Dp K H y (.tuple ds) ∧ SeqAt.shaped d = true ∧ SeqAt.shaped (.tuple ds) = true ∧ Q (.bl (ds.any fun z => PyData.eqv z d)) H
theorem op_inT {X : Cx} (hu : X.A.units + 65 < cLine) : OpR X (compareOp .In) (rInT X.K) := by
  intro pins s σ H x y v u Q I rx ry h
  obtain ⟨d, ds, hd, he, sd, se, q⟩ := h
  obtain ⟨as, r1⟩ := Dp.reads I d x v hd rx
  obtain ⟨bs, r2⟩ := Dp.reads I (.tuple ds) y u he ry
  exact SeqAt.in_tuple_reads r2 r1 (SeqAt.canLay_of_shaped se) (SeqAt.canLay_of_shaped sd) (room_in_shaped sd hu) ⟨.bl _, H, I, rfl, q⟩
/-! ### wishes and riddles -/
abbrev Row := List Int
abbrev WD := List Int × List Row
def IsRow (H : Hp) (r : Addr) (row : Row) : Prop := H r = some (.tup (row.map V.int))
def IsWish (H : Hp) (wa : Addr) (wd : WD) : Prop := ∃ (pa ra : Addr) (rs : List Addr), H wa = some (.tup [.ref pa, .ref ra]) ∧ H pa = some (.tup (wd.1.map V.int)) ∧ H ra = some (.tup (rs.map V.ref)) ∧ Paired (IsRow H) rs wd.2
def IsRid (H : Hp) (ri : Addr) (many hues : Int) (wds : List WD) : Prop := ∃ (wt : Addr) (was : List Addr), H ri = some (.tup [.int many, .int hues, .ref wt]) ∧ H wt = some (.tup (was.map V.ref)) ∧ Paired (IsWish H) was wds
/-- tuples stay -/
def Tups (H H' : Hp) : Prop := ∀ b xs, H b = some (.tup xs) → H' b = some (.tup xs)
theorem Tups.refl (H : Hp) : Tups H H := fun _ _ e => e
theorem Tups.trans {H H1 H2 : Hp} (a : Tups H H1) (b : Tups H1 H2) : Tups H H2 := fun c xs e => b c xs (a c xs e)
theorem tups_same {H H' : Hp} (s : Same H H') : Tups H H' := fun b xs e => s b _ e
theorem tups_upd {H : Hp} {p : Addr} {o : HO} (h : ∀ xs, H p ≠ some (.tup xs)) : Tups H (upd H p o) := fun b xs e => by
  rw [upd_ne (fun z => h xs (by rw [← z]; exact e))]
  exact e
theorem pairedMap {α β : Type} {F G : α → β → Prop} : ∀ {l : List α} {m : List β}, (∀ a b, F a b → G a b) → Paired F l m → Paired G l m
  | _, _, _, .nil => .nil
  | _, _, k, .cons h t => .cons (k _ _ h) (pairedMap k t)
theorem pairedLen {α β : Type} {F : α → β → Prop} : ∀ {l : List α} {m : List β}, Paired F l m → l.length = m.length
  | _, _, .nil => rfl
  | _, _, .cons _ t => by rw [List.length_cons, List.length_cons, pairedLen t]
theorem pairedGet {α β : Type} {F : α → β → Prop} : ∀ {l : List α} {m : List β} {i : Nat} {b : β}, Paired F l m → m[i]? = some b → ∃ a, l[i]? = some a ∧ F a b
  | _, _, _, _, .nil, h => by simp at h
  | _, _, 0, _, .cons h _, e => by cases e; exact ⟨_, rfl, h⟩
  | _, _, i + 1, b, .cons _ t, e => pairedGet (i := i) (b := b) t e
theorem pairedGetL {α β : Type} {F : α → β → Prop} : ∀ {l : List α} {m : List β} {i : Nat} {a : α}, Paired F l m → l[i]? = some a → ∃ b, m[i]? = some b ∧ F a b
  | _, _, _, _, .nil, h => by simp at h
  | _, _, 0, _, .cons h _, e => by cases e; exact ⟨_, rfl, h⟩
  | _, _, i + 1, a, .cons _ t, e => pairedGetL (i := i) (a := a) t e
theorem IsWish.mono {H H' : Hp} {wa : Addr} {wd : WD} (t : Tups H H') (h : IsWish H wa wd) : IsWish H' wa wd := by
  obtain ⟨pa, ra, rs, h1, h2, h3, h4⟩ := h
  exact ⟨pa, ra, rs, t _ _ h1, t _ _ h2, t _ _ h3, pairedMap (fun a b e => t _ _ e) h4⟩
theorem IsRid.mono {H H' : Hp} {ri : Addr} {m h : Int} {wds : List WD} (t : Tups H H') (x : IsRid H ri m h wds) : IsRid H' ri m h wds := by
  obtain ⟨wt, was, h1, h2, h3⟩ := x
  exact ⟨wt, was, t _ _ h1, t _ _ h2, pairedMap (fun _ _ e => IsWish.mono t e) h3⟩
/-- what may come of the law's drawing -/
structure Good (many hues : Int) (wd : WD) : Prop where
  one : 1 ≤ wd.1.length
  three : wd.1.length ≤ 3
  pl : ∀ p ∈ wd.1, 0 ≤ p ∧ p < many
  some_ : 1 ≤ wd.2.length
  few : wd.2.length ≤ 64
  row : ∀ r ∈ wd.2, r.length = wd.1.length ∧ ∀ h ∈ r, 0 ≤ h ∧ h < hues
structure GoodR (many hues : Int) (wds : List WD) : Prop where
  m1 : 1 ≤ many
  m6 : many ≤ 6
  h2 : 2 ≤ hues
  h4 : hues ≤ 4
  eight : wds.length ≤ 8
  each : ∀ wd ∈ wds, Good many hues wd
structure GoodF (many hues : Int) (fs : List Int) : Prop where
  len : (fs.length : Int) = many
  hue : ∀ h ∈ fs, 0 ≤ h ∧ h < hues
/-! ### the data -/
def rowD (r : Row) : PyData := .tuple (r.map .int)
def wishD (wd : WD) : PyData := .tuple [rowD wd.1, .tuple (wd.2.map rowD)]
def ridD (many hues : Int) (wds : List WD) : PyData := .tuple [.int many, .int hues, .tuple (wds.map wishD)]
section
variable {K : PySem.W.Frag} {H : Hp}
theorem dpInts : ∀ ns : List Int, DpAll K H (ns.map V.int) (ns.map PyData.int)
  | [] => .nil
  | n :: r => .cons (.int n) (dpInts r)
theorem dpRow {r : Addr} {row : Row} (h : IsRow H r row) : Dp K H (.ref r) (rowD row) := .tup (.inl (.inl h)) (dpInts row)
theorem dpRows : ∀ {rs : List Addr} {rows : List Row}, Paired (IsRow H) rs rows → DpAll K H (rs.map V.ref) (rows.map rowD)
  | _, _, .nil => .nil
  | _, _, .cons h t => .cons (dpRow h) (dpRows t)
theorem dpWish {wa : Addr} {wd : WD} (h : IsWish H wa wd) : Dp K H (.ref wa) (wishD wd) := by
  obtain ⟨pa, ra, rs, h1, h2, h3, h4⟩ := h
  exact .tup (.inl (.inl h1)) (.cons (dpRow h2) (.cons (.tup (.inl (.inl h3)) (dpRows h4)) .nil))
theorem dpWishes : ∀ {was : List Addr} {wds : List WD}, Paired (IsWish H) was wds → DpAll K H (was.map V.ref) (wds.map wishD)
  | _, _, .nil => .nil
  | _, _, .cons h t => .cons (dpWish h) (dpWishes t)
theorem dpRid {ri : Addr} {m h : Int} {wds : List WD} (x : IsRid H ri m h wds) : Dp K H (.ref ri) (ridD m h wds) := by
  obtain ⟨wt, was, h1, h2, h3⟩ := x
  exact .tup (.inl (.inl h1)) (.cons (.int m) (.cons (.int h) (.cons (.tup (.inl (.inl h2)) (dpWishes h3)) .nil)))
end
/-! ### data of this kind is laid, shallow, light and shown -/
/-- a measure of data: laid, at most so deep, at most so heavy, ints short, no dict -/
structure Fine (d : PyData) (n w : Nat) : Prop where
  lay : d.canLay0 = true
  dep : d.depth ≤ n
  wei : d.weight ≤ w
  sho : d.showable = true
  noD : d.hasDict = false
  sh13 : d.intsShort 13 = true
structure FineAll (ds : List PyData) (n w : Nat) : Prop where
  lay : PyData.canLayAll0 ds = true
  dep : PyData.depthAll ds ≤ n
  wei : PyData.weightAll ds ≤ w
  sho : PyData.showableAll ds = true
  noD : PyData.hasDictAll ds = false
  sh13 : PyData.intsShortAll 13 ds = true
theorem FineAll.nil (n : Nat) : FineAll [] n 0 := ⟨rfl, Nat.zero_le _, Nat.le_refl _, rfl, rfl, rfl⟩
theorem FineAll.cons {d : PyData} {ds : List PyData} {n w u : Nat} (h : Fine d n w) (t : FineAll ds n u) : FineAll (d :: ds) n (w + 1 + u) := by
  refine ⟨?_, ?_, ?_, ?_, ?_, ?_⟩
  · simp only [PyData.canLayAll0, h.lay, t.lay, Bool.and_self]
  · have a := h.dep
    have b := t.dep
    simp only [PyData.depthAll]
    omega
  · have a := h.wei
    have b := t.wei
    simp only [PyData.weightAll]
    omega
  · simp only [PyData.showableAll, h.sho, t.sho, Bool.and_self]
  · simp only [PyData.hasDictAll, h.noD, t.noD, Bool.or_self]
  · simp only [PyData.intsShortAll, h.sh13, t.sh13, Bool.and_self]
theorem Fine.tuple {ds : List PyData} {n w : Nat} (t : FineAll ds n w) : Fine (.tuple ds) (n + 1) w := by
  refine ⟨by simp only [PyData.canLay0]; exact t.lay, ?_, by simp only [PyData.weight]; exact t.wei, by simp only [PyData.showable]; exact t.sho, by simp only [PyData.hasDict]; exact t.noD, by simp only [PyData.intsShort]; exact t.sh13⟩
  have a := t.dep
  simp only [PyData.depth]
  omega
theorem Fine.list {ds : List PyData} {n w : Nat} (t : FineAll ds n w) : Fine (.list ds) (n + 1) w := by
  refine ⟨by simp only [PyData.canLay0]; exact t.lay, ?_, by simp only [PyData.weight]; exact t.wei, by simp only [PyData.showable]; exact t.sho, by simp only [PyData.hasDict]; exact t.noD, by simp only [PyData.intsShort]; exact t.sh13⟩
  have a := t.dep
  simp only [PyData.depth]
  omega
theorem Fine.mono {d : PyData} {n w n' w' : Nat} (h : Fine d n w) (a : n ≤ n') (b : w ≤ w') : Fine d n' w' := ⟨h.lay, Nat.le_trans h.dep a, Nat.le_trans h.wei b, h.sho, h.noD, h.sh13⟩
theorem FineAll.mono {d : List PyData} {n w n' w' : Nat} (h : FineAll d n w) (a : n ≤ n') (b : w ≤ w') : FineAll d n' w' := ⟨h.lay, Nat.le_trans h.dep a, Nat.le_trans h.wei b, h.sho, h.noD, h.sh13⟩
theorem fineAll_map {α : Type} {f : α → PyData} {n w : Nat} : ∀ (l : List α), (∀ x ∈ l, Fine (f x) n w) → FineAll (l.map f) n (l.length * (w + 1))
  | [], _ => FineAll.nil n |>.mono (Nat.le_refl _) (Nat.zero_le _)
  | x :: r, h => by
    have t := fineAll_map r fun y hy => h y (List.mem_cons_of_mem _ hy)
    refine (FineAll.cons (h x List.mem_cons_self) t).mono (Nat.le_refl _) ?_
    rw [List.length_cons, Nat.succ_mul]
    omega
theorem fine_int {i : Int} (h0 : 0 ≤ i) (h1 : i < 64) : Fine (.int i) 1 7 := by
  obtain ⟨n, rfl⟩ : ∃ n : Nat, i = n := ⟨i.toNat, by omega⟩
  have hn : n < 64 := by omega
  have hl : n.log2 ≤ 5 := by
    by_cases e : n = 0
    · subst e; decide
    · have := (Nat.log2_lt e).mpr (show n < 2 ^ 6 by omega)
      omega
  refine ⟨rfl, by simp [PyData.depth], ?_, ?_, rfl, ?_⟩
  · simp only [PyData.weight]
    split
    · omega
    · have e : ((n : Int)).natAbs = n := by omega
      rw [e]
      omega
  · simp only [PyData.showable]
    have e : ((n : Int)).natAbs = n := by omega
    rw [e]
    exact decide_eq_true (by omega)
  · have all : ∀ m : Nat, m < 64 → PyData.intsShort 13 (.int (m : Int)) = true := by decide +kernel
    exact all n hn
theorem Fine.shaped {d : PyData} {n w : Nat} (h : Fine d n w) (hn : n ≤ 64) : SeqAt.shaped d = true := by
  show (d.canLay0 && decide (d.depth ≤ 64)) = true
  rw [h.lay, decide_eq_true (Nat.le_trans h.dep hn)]
  rfl
theorem Fine.shows {d : PyData} {n w : Nat} (h : Fine d n w) (hn : n ≤ 64) (hw : w ≤ 1048576) : d.shown.length ≤ sizeLine := by
  have l : d.layable0 = true := by
    show (d.canLay0 && decide (d.depth ≤ 64) && decide (d.weight ≤ 2 ^ 20)) = true
    rw [h.lay, decide_eq_true (Nat.le_trans h.dep hn), decide_eq_true (show d.weight ≤ 2 ^ 20 from Nat.le_trans h.wei (Nat.le_trans hw (by decide)))]
    rfl
  exact Nat.le_trans (shown_le13 l h.sh13) (by decide)
/-! ### equality of rows -/
theorem eqvAll_ints : ∀ a b : List Int, PyData.eqvAll (a.map .int) (b.map .int) = decide (a = b)
  | [], [] => by simp [PyData.eqvAll]
  | [], _ :: _ => by simp [PyData.eqvAll]
  | _ :: _, [] => by simp [PyData.eqvAll]
  | x :: r, y :: q => by
    simp only [List.map_cons, PyData.eqvAll, PyData.eqv, eqvAll_ints r q]
    by_cases h : x = y
    · subst h; simp
    · simp [h]
theorem eqv_row (a b : Row) : PyData.eqv (rowD a) (rowD b) = decide (a = b) := by
  unfold rowD
  rw [PyData.eqv]
  exact eqvAll_ints a b
theorem anyRows (r : Row) : ∀ rows : List Row, ((rows.map rowD).any fun z => PyData.eqv z (rowD r)) = decide (r ∈ rows)
  | [] => by simp
  | x :: q => by
    rw [List.map_cons, List.any_cons, anyRows r q, eqv_row]
    by_cases h : x = r
    · subst h; simp
    · have h2 : ¬ r = x := fun e => h e.symm
      simp [h, h2]
/-! ### what is broken -/
def atF (fs : List Int) (p : Int) : Int := fs.getD p.toNat 0
def huesA (fs ps : List Int) : List Int := ps.map (atF fs)
def brk (fs : List Int) (wd : WD) : Bool := decide (huesA fs wd.1 ∈ wd.2)
def brkAt (fs : List Int) (wds : List WD) (k : Nat) : Bool := match wds[k]? with
  | some wd => brk fs wd
  | none => false
def broL (fs : List Int) (wds : List WD) (i : Nat) : List Int := ((List.range i).filter (brkAt fs wds)).map fun (k : Nat) => (k : Int)
theorem brkAt_of {fs : List Int} {wds : List WD} {k : Nat} {wd : WD} (h : wds[k]? = some wd) : brkAt fs wds k = brk fs wd := by
  unfold brkAt
  rw [h]
theorem broL_yes {fs : List Int} {wds : List WD} {i : Nat} (h : brkAt fs wds i = true) : broL fs wds (i + 1) = broL fs wds i ++ [(i : Int)] := by
  unfold broL
  rw [List.range_succ, List.filter_append, List.map_append]
  simp [h]
theorem broL_no {fs : List Int} {wds : List WD} {i : Nat} (h : brkAt fs wds i = false) : broL fs wds (i + 1) = broL fs wds i := by
  unfold broL
  rw [List.range_succ, List.filter_append, List.map_append]
  simp [h]
theorem broL_len (fs : List Int) (wds : List WD) (i : Nat) : (broL fs wds i).length ≤ i := by
  unfold broL
  rw [List.length_map]
  have q := List.length_filter_le (brkAt fs wds) (List.range i)
  rw [List.length_range] at q
  exact q
theorem broL_mem {fs : List Int} {wds : List WD} {i : Nat} {z : Int} (h : z ∈ broL fs wds i) : 0 ≤ z ∧ z < i := by
  unfold broL at h
  obtain ⟨k, hk, rfl⟩ := List.mem_map.mp h
  have := List.mem_range.mp (List.mem_filter.mp hk).1
  omega
theorem at_some {fs : List Int} {many hues : Int} {p : Int} (h : GoodF many hues fs) (h0 : 0 ≤ p) (h1 : p < many) : fs[p.toNat]? = some (atF fs p) := by
  have hl := h.len
  have hp : p.toNat < fs.length := by omega
  unfold atF
  rw [List.getD_eq_getElem?_getD, List.getElem?_eq_getElem hp]
  rfl
theorem atI_fs {fs : List Int} {many hues : Int} {p : Int} (h : GoodF many hues fs) (h0 : 0 ≤ p) (h1 : p < many) : atI (fs.map V.int) p = some (.int (atF fs p)) := by
  have e : p = ((p.toNat : Nat) : Int) := by omega
  have g : (fs.map V.int)[p.toNat]? = some (.int (atF fs p)) := by rw [List.getElem?_map, at_some h h0 h1]; rfl
  rw [e]
  rw [← e]
  have q := atI_nat g
  rw [← e] at q
  exact q
/-! ### riddles are fine data -/
theorem fine_row {r : Row} (h : ∀ z ∈ r, 0 ≤ z ∧ z < 64) (hl : r.length ≤ 8) : Fine (rowD r) 2 64 :=
  (Fine.tuple (fineAll_map r fun z hz => fine_int (h z hz).1 (h z hz).2)).mono (by omega) (by omega)
theorem fine_wish {many hues : Int} {wd : WD} (g : Good many hues wd) (hm : many ≤ 6) (hh : hues ≤ 4) : Fine (wishD wd) 4 5000 := by
  have a : Fine (rowD wd.1) 2 64 := fine_row (fun z hz => ⟨(g.pl z hz).1, by have := (g.pl z hz).2; omega⟩) (by have := g.three; omega)
  have b : Fine (.tuple (wd.2.map rowD)) 3 4200 := by
    refine (Fine.tuple (fineAll_map wd.2 fun r hr => fine_row (fun z hz => ⟨((g.row r hr).2 z hz).1, by have := ((g.row r hr).2 z hz).2; omega⟩) (by have := (g.row r hr).1; have := g.three; omega))).mono (Nat.le_refl _) ?_
    have := g.few
    omega
  exact (Fine.tuple (FineAll.cons (a.mono (by omega) (Nat.le_refl _)) (FineAll.cons b (FineAll.nil _)))).mono (Nat.le_refl _) (by omega)
theorem fine_rid {many hues : Int} {wds : List WD} (g : GoodR many hues wds) : Fine (ridD many hues wds) 6 50000 := by
  have c : Fine (.tuple (wds.map wishD)) 5 40100 := by
    refine (Fine.tuple (fineAll_map wds fun wd hw => fine_wish (g.each wd hw) g.m6 g.h4)).mono (Nat.le_refl _) ?_
    have := g.eight
    omega
  have m := fine_int (i := many) (by have := g.m1; omega) (by have := g.m6; omega)
  have h := fine_int (i := hues) (by have := g.h2; omega) (by have := g.h4; omega)
  exact (Fine.tuple (FineAll.cons (m.mono (by omega) (Nat.le_refl _)) (FineAll.cons (h.mono (by omega) (Nat.le_refl _)) (FineAll.cons c (FineAll.nil _))))).mono (Nat.le_refl _) (by omega)
theorem fine_fill {many hues : Int} {fs : List Int} (g : GoodF many hues fs) (hm : many ≤ 6) (hh : hues ≤ 4) : Fine (rowD fs) 2 64 :=
  fine_row (fun z hz => ⟨(g.hue z hz).1, by have := (g.hue z hz).2; omega⟩) (by have := g.len; omega)
theorem fine_bro (fs : List Int) (wds : List WD) {i : Nat} (h : i ≤ 8) : Fine (.list ((broL fs wds i).map .int)) 2 64 := by
  refine (Fine.list (fineAll_map (broL fs wds i) fun z hz => fine_int (broL_mem hz).1 (by have := (broL_mem hz).2; omega))).mono (by omega) ?_
  have := broL_len fs wds i
  omega
end Dt

set_option Elab.async false
set_option linter.all false
set_option maxRecDepth 100000
set_option maxHeartbeats 4000000
/-! sorted(xs) of tuples of small ints, any number of them -/
namespace Tt
open PySem PySem.Spec PyProof.Rows L2
def rk (h : Heap) (B : Int) (v : Value) : Int := TS.code B (TS.intsOf h v)
theorem swo_rk (f : Value → Int) : SrtO.Swo fun v u => decide (f v < f u) := by
  refine ⟨fun x y h => ?_, fun x y z h1 h2 => ?_⟩
  · have a := of_decide_eq_true h
    exact decide_eq_false (by omega)
  · have a := of_decide_eq_false h1
    have b := of_decide_eq_false h2
    exact decide_eq_false (by omega)
section
variable {prog : Program} {w : World} {A : Around} {E : Value → Shared → Prop} {s : Shared}
theorem cmp_tups {d : Nat} {B : Int} {vs : List Value} (x : TS.TupsOk s.heap d B vs) (r : Value → Int) (hr : ∀ v, v ∈ vs → ∀ ns, TS.TupInts s.heap v ns → r v = TS.code B ns) :
    SrtO.Cmp prog w A s (tuples' true) (fun p => p.1 ∈ vs) (SrtO.lt2 fun v u => decide (r v < r u)) := by
  intro p q hp hq
  obtain ⟨ns, tp, lp, bp⟩ := x _ hp
  obtain ⟨ms, tq, lq, bq⟩ := x _ hq
  show wpAny (model prog w) A (keyLt' (tuples' true) p.1 q.1) (fun b s' => s' = s ∧ b = decide (r p.1 < r q.1)) (fun _ _ => False) s
  rw [hr _ hp _ tp, hr _ hq _ tq]
  obtain ⟨a, xs, e1, ⟨o, ho, hc, n, hdt⟩, i⟩ := tp
  obtain ⟨a', ys, e2, ⟨o', ho', hc', n', hdt'⟩, i'⟩ := tq
  rw [e1, e2]
  refine PySem.W.kat_lt ho hdt ho' hdt' ?_
  have l1 := i.length
  have l2 := i'.length
  rw [Array.length_toList] at l1 l2
  rw [show decide (xs.size < ys.size) = false from decide_eq_false (by omega)]
  exact TS.lex_ints 0 i i' (by omega) bp bq ⟨rfl, rfl⟩
theorem sortable {a : Addr} {d : Nat} {B : Int} {vs : List Value} (hd : 1 ≤ d) (h2 : 2 ≤ vs.length) (x : TS.TupsOk s.heap d B vs) (ha : ∀ o, s.heap.get? a = some o → o.cls ≠ .type "tuple") (r : Value → Int) (hr : ∀ v, v ∈ vs → ∀ ns, TS.TupInts s.heap v ns → r v = TS.code B ns) :
    SrtO.SortableO prog w A s a vs fun v u => decide (r v < r u) := by
  intro h' keep
  have k2 : ∀ b o, s.heap.get? b = some o → o.cls = .type "tuple" → h'.get? b = some o := fun b o e c => keep b o (fun z => by subst z; exact ha o e c) e
  have x' := x.keeps k2
  obtain ⟨fs, kt, hl, hi⟩ := TS.firsts_of hd vs x'
  refine ⟨tuples' true, fun Q E hq => ?_, cmp_tups (s := { s with heap := h' }) x' r fun v hv ns t => ?_⟩
  · refine PySem.W.kat_kind (T := .type "int") kt (by omega) (fun f hm => ?_) (by rfl) ?_
    · obtain ⟨n, t, rfl⟩ := hi f hm
      exact PySem.W.Looks.of_pure rfl
    · rw [show (Value.type "int" != Value.type "tuple") = true by decide +kernel]
      exact hq
  · obtain ⟨n0, t0, _⟩ := x v hv
    rw [show ns = n0 from t.ints.symm.trans (t0.keeps k2).ints]
    exact hr v hv n0 t0
end
/-- sorted(xs): ts the tuples' places, k what stands at each -/
def rSortedT (K : PySem.W.Frag) : List V → Hp → VK → Prop := fun vs H Q => ∃ (a : Addr) (ts : List Addr) (k : Addr → List Int) (d : Nat) (B : Int), vs = [.ref a] ∧ SqL K H a (ts.map V.ref) ∧ 1 ≤ d ∧ (∀ t ∈ ts, H t = some (.tup ((k t).map V.int)) ∧ (k t).length = d ∧ TS.Bd B (k t)) ∧
  ∀ (ts' : List Addr) (p : Addr), ts'.Perm ts → ts'.Pairwise (fun u v => TS.code B (k u) ≤ TS.code B (k v)) → H p = none → Q (.ref p) (upd H p (.lst (ts'.map V.ref)))
theorem vals_refs : ∀ {ts : List Addr} {us : List Value}, Vals (ts.map V.ref) us → us = ts.map Value.ref
  | [], _, .nil => rfl
  | t :: r, _, .cons h q => by
    cases h
    rw [vals_refs q]
    rfl
theorem refs_vals : ∀ ts : List Addr, Vals (ts.map V.ref) (ts.map Value.ref)
  | [] => .nil
  | t :: r => .cons rfl (refs_vals r)
theorem cr_sortedT {X : Cx} : CallR X (.builtin "sorted") (rSortedT X.K) := by
  intro pins s σ H vs us Q I r h
  obtain ⟨a, ts, k, d, B, rfl, hs, hd, ht, q⟩ := h
  obtain ⟨its, rv, hl, hz⟩ := I.list hs
  obtain ⟨u, rfl, ru⟩ := vals1 r
  cases (show u = Value.ref a from ru)
  obtain rfl := vals_refs rv
  have tup : ∀ t ∈ ts, TS.TupInts s.heap (.ref t) (k t) := fun t hm => by
    obtain ⟨_, its, rr, hT⟩ := I.hok t _ (ht t hm).1
    exact ⟨t, its.toArray, rfl, hT, by simpa using rr.ints⟩
  have ok : TS.TupsOk s.heap d B (ts.map Value.ref) := fun v hv => by
    obtain ⟨t, hm, rfl⟩ := List.mem_map.mp hv
    exact ⟨k t, tup t hm, (ht t hm).2.1, (ht t hm).2.2⟩
  have rk_at : ∀ v ∈ ts.map Value.ref, ∀ ns, TS.TupInts s.heap v ns → rk s.heap B v = TS.code B ns := fun v _ ns t => by
    unfold rk
    rw [t.ints]
  refine SrtO.sorted_ord (swo_rk (rk s.heap B)) hl.isList (by rw [← rv.length]; exact hz) (fun h2 h₁ a' ha' kk => ?_) fun out so sb => ?_
  · have keep : ∀ b o, s.heap.get? b = some o → o.cls = .type "tuple" → h₁.get? b = some o := fun b o e _ => (kk b o e).2
    refine sortable (s := { s with heap := h₁ }) hd h2 (ok.keeps keep) (fun o e c => ?_) (rk s.heap B) fun v hv ns t => ?_
    · have e' := Option.some.inj (e.symm.trans ha')
      rw [e'] at c
      exact absurd (Value.type.inj c) (by decide)
    · obtain ⟨n0, t0, _⟩ := ok v hv
      rw [show ns = n0 from t.ints.symm.trans (t0.keeps keep).ints]
      exact rk_at v hv n0 t0
  · obtain ⟨ep, he⟩ := PyProof.Rows.sortedAll_at s.heap (ts.map Value.ref) out.toArray
    have pm := sb.perm
    obtain ⟨ts', rfl, pt⟩ : ∃ ts' : List Addr, out = ts'.map Value.ref ∧ ts'.Perm ts := by
      have back : ∀ v ∈ out, ∃ t, v = Value.ref t := fun v hv => by
        obtain ⟨t, _, e⟩ := List.mem_map.mp (pm.mem_iff.mp hv)
        exact ⟨t, e.symm⟩
      have g : ∀ l : List Value, (∀ v ∈ l, ∃ t, v = Value.ref t) → ∃ m : List Addr, l = m.map Value.ref := by
        intro l
        induction l with
        | nil => intro _; exact ⟨[], rfl⟩
        | cons v r ih =>
          intro hv
          obtain ⟨t, rfl⟩ := hv v List.mem_cons_self
          obtain ⟨m, rfl⟩ := ih fun z hz => hv z (List.mem_cons_of_mem _ hz)
          exact ⟨t :: m, rfl⟩
      obtain ⟨m, rfl⟩ := g out back
      let f : Value → Addr := fun v => match v with | .ref t => t | _ => 0
      have q2 := pm.map f
      rw [List.map_map, List.map_map] at q2
      have e1 : (f ∘ Value.ref) = id := by funext z; rfl
      rw [e1, List.map_id, List.map_id] at q2
      exact ⟨m, rfl, q2⟩
    refine ⟨.ref (s.heap.objs.size + 1), _, I.laid (t' := s.toks) (o := .lst (ts'.map V.ref)) (fun _ _ => PyProof.Rows.sortedAll_old) (Nat.le_succ _) ⟨?_, ts'.map Value.ref, ep, refs_vals ts', he⟩, rfl, q ts' _ pt ?_ (I.hok.fresh (Nat.le_succ _))⟩
    · rw [List.length_map, pt.length_eq]
      rw [List.length_map] at hz
      exact hz
    · have so2 := List.pairwise_map.mp so
      refine List.Pairwise.imp_of_mem (fun {x y} hx hy h => ?_) so2
      have h2 := of_decide_eq_false h
      unfold rk at h2
      rw [(tup x (pt.mem_iff.mp hx)).ints, (tup y (pt.mem_iff.mp hy)).ints] at h2
      omega
end Tt

set_option Elab.async false
set_option linter.all false
set_option maxRecDepth 100000
set_option maxHeartbeats 4000000
/-! the law's own call: tables of code objects tracked, and no repr under way around it -/
namespace Lg
open PySem PySem.Spec PyProof.Rows L2
/-- the def's body, run where A stands -/
theorem run_at {P : Program} {w : World} {K : PySem.W.Frag} {mg : Str → Option Value} {base : Heap} {k : Nat} {f : Addr} {x qual : Str} {st : Stmt} {fd : FuncData} {N ps : List Str} {A : Around} {outer : List Env} {s : Shared} {H : Hp} {args : Args} {us : List Value} {vs : List V} {Q : VK} {E : XK}
    (F : Fun K x qual st f fd) (S : FnScope N ps (defScope st)) (hr : Room (k + 1) A) (e0 : Env0 P w K mg base A outer s H) (hb : BindsTo s fd args (ps.zip us)) (r : Vals vs us) (hl : vs.length = ps.length)
    (body : ∀ cdv : Value, Room k (A.deeper (envOfC qual (defScope st) s.heap.objs.size f cdv)) → ∃ t, PSs (cxOf CX0 P w K mg base N qual (defScope st) f cdv A outer s H E).nox (defBody st) t ∧ t { nx := fun _ H' => Q .non H', rt := Q } (start N vs) H) :
    codeAny (model P w) A (.call (.ref f) args) (CR CX0 outer P w H s Q E) s := by
  obtain ⟨oc, od, kV, doc, pm, an, cdv, ct, osl, rfl, lk, hcd⟩ := F.ex
  have old : ∀ b o, base.get? b = some o → s.heap.get? b = some o := fun b o e => (e0.bs b o e).1
  have KX := e0.mod.kin.keeps old
  have lim := e0.mod.nolimit.keeps old
  obtain ⟨t, pt, ht⟩ := body cdv (hr.deeper _)
  refine codeAny_call_function hr.depth (KX _ _ lk) rfl S.co S.gen rfl (PySem.W.codeRec_of KX hcd) (hb _ _ _ _ (wpAny_newFunctionEnv_cells S.kind (fun y hy => ?_) fun env he s1 ic => ?_))
  · rcases S.par y.1 (List.of_mem_zip (show (y.1, y.2) ∈ ps.zip us from hy)).1 with z | z
    · exact .inl z
    · exact .inr ⟨z, PySem.W.cellsFrom_some _ _ _ (.inl z)⟩
  · subst he
    refine ⟨lim.keeps ic.toInCall.keep, codeAny_func (wpAny_mono (pt.nox.run [] s1 (start N vs) H _ (inv_start S hr.hd e0 hl r ic) ht) (fun fl s' q => ?_) fun _ _ q => q)⟩
    cases fl with
    | ret u => obtain ⟨v, σ', H', J, rv, q⟩ := q; exact ⟨v, H', J.os, J.bare, J.base, J.hok, rv, q⟩
    | next => obtain ⟨σ', H', J, q⟩ := q; exact ⟨.non, H', J.os, J.bare, J.base, J.hok, rfl, q⟩
    | brk => obtain ⟨_, _, _, q⟩ := q; exact q.elim
    | cont => obtain ⟨_, _, _, q⟩ := q; exact q.elim
/-- the abstract heap at the law's call: the tables, and the script where the top didn't write it -/
def H0 (K : PySem.W.Frag) (T : List Addr) (a : Addr) (o : Obj) (xs : List V) : Hp := fun b => if b ∈ T then some (.tbl #[]) else if b = a ∧ K.lookup a = none then some (.frz o (.lst xs)) else none
theorem H0_three (K : PySem.W.Frag) (T : List Addr) (a : Addr) (o : Obj) (xs : List V) (b : Addr) : (b ∈ T ∧ H0 K T a o xs b = some (.tbl #[])) ∨ (b = a ∧ K.lookup a = none ∧ H0 K T a o xs b = some (.frz o (.lst xs))) ∨ (H0 K T a o xs b = none ∧ b ∉ T) := by
  unfold H0
  by_cases h : b ∈ T
  · exact .inl ⟨h, if_pos h⟩
  · by_cases h2 : b = a ∧ K.lookup a = none
    · exact .inr (.inl ⟨h2.1, h2.2, by rw [if_neg h, if_pos h2]⟩)
    · exact .inr (.inr ⟨by rw [if_neg h, if_neg h2], h⟩)
theorem law_at {P : Program} {w : World} {K : PySem.W.Frag} {mg mb : Str → Option Value} {k : Nat} {fa a : Addr} {cs : List (Addr × Addr)} {x qual : Str} {st : Stmt} {fd : FuncData} {N : List Str} {par : Str} {s : Shared} {vs : List Value} {ns : List Int}
    (KX : K.In s.heap) (hns : s.heap.Ns mainGlobals mg) (hbl : s.heap.Ns builtinsNs mb) (hbb : ∀ x : Str, x ≠ "__name__" → mb x = bootBuiltins x) (hlim : s.heap.NoLimit) (hg : s.gens = #[])
    (hT : ∀ p ∈ cs, s.heap.get? p.2 = some { cls := .none, data := .fields #[] }) (nT : ∀ p ∈ cs, K.lookup p.2 = none) (hC : ∀ p ∈ cs, PySem.W.CodeHd s.heap p.1 p.2)
    (hbm : ∃ (bm : Addr) (ob : Obj), mg "__builtins__" = some (.ref bm) ∧ bm ≠ builtinsNs ∧ s.heap.get? bm = some ob ∧ ob.cls = .type "module" ∧ ob.dict = some builtinsNs ∧ ob.data = .plain)
    (ha : s.heap.get? a = some { cls := .type "list", data := .seq vs.toArray }) (hi : IntsAre vs ns) (hlen : ns.length ≤ sizeLine) (hr : Room (k + 1) callerA)
    (F : Fun K x qual st fa fd) (S : FnScope N [par] (defScope st)) (hb : ∀ (s : Shared) (u : Value), BindsTo s fd ⟨[u], []⟩ [(par, u)])
    (body : ∀ (base : Heap) (H : Hp) (cdv : Value), K.In base → base.Ns mainGlobals mg → (∀ p ∈ cs, GxR.TabB base mg p.1 p.2) → (∀ p ∈ cs, H p.2 = some (.tbl #[])) → SqL K H a (ns.map V.int) → Room k (callerA.deeper (envOfC qual (defScope st) s.heap.objs.size fa cdv)) →
      ∃ t, PSs (cxOf CX0 P w K mg base N qual (defScope st) fa cdv callerA [] s H (fun _ _ _ => False)).nox (defBody st) t ∧ t { nx := fun _ _ => False, rt := fun v _ => v = .bl true } (start N [.ref a]) H) :
    codeAny (model P w) callerA (.call (.ref fa) ⟨[.ref a], []⟩) (fun r s' => r = .ok (.ret (.bool true)) ∧ OldK s.heap s'.heap ∧ s'.os = s.os ∧ AllBare s'.gens) s := by
  have rv := vals_ints hi
  have lv := hi.length
  generalize hso : ({ cls := .type "list", data := .seq vs.toArray } : Obj) = so at ha
  have inT : ∀ b, b ∈ cs.map (·.2) → s.heap.get? b = some { cls := .none, data := .fields #[] } ∧ K.lookup b = none := fun b h => by
    obtain ⟨p, hp, rfl⟩ := List.mem_map.mp h
    exact ⟨hT p hp, nT p hp⟩
  generalize hH : H0 K (cs.map (·.2)) a so (ns.map V.int) = H
  have three := H0_three K (cs.map (·.2)) a so (ns.map V.int)
  rw [hH] at three
  -- an object of another kind isn't tracked
  have clean : ∀ b o, s.heap.get? b = some o → o.data ≠ .fields #[] → (∀ v n, o.data ≠ .seq v n) → H b = none := fun b o e h1 h2 => by
    rcases three b with ⟨z, _⟩ | ⟨z, _, _⟩ | ⟨z, _⟩
    · rw [(inT b z).1] at e; cases e; exact absurd rfl h1
    · rw [z, ha, ← hso] at e; cases e; exact absurd rfl (h2 _ _)
    · exact z
  have low : ∀ b o, s.heap.get? b = some o → o.data ≠ .fields #[] → (∀ v n, o.data ≠ .seq v n) → (hidT s.heap H).get? b = some o := fun b o e h1 h2 => hidT_get e (clean b o e h1 h2)
  have lowNs : ∀ b m, s.heap.Ns b m → (hidT s.heap H).Ns b m := fun b m ⟨o, es, ep, e, d, q⟩ => ⟨o, es, ep, low b o e (by rw [d]; exact fun z => nomatch z) (by rw [d]; exact fun _ _ z => nomatch z), d, q⟩
  have kb : K.In (hidT s.heap H) := fun b o e => hidT_get (KX b o e) (by
    rcases three b with ⟨z, _⟩ | ⟨z, q, _⟩ | ⟨z, _⟩
    · rw [(inT b z).2] at e; cases e
    · rw [z, q] at e; cases e
    · exact z)
  have hok : HOk P w H s.heap := fun b u e => by
    rcases three b with ⟨z, q⟩ | ⟨z, _, q⟩ | ⟨q, _⟩
    · rw [e] at q; cases q; exact (inT b z).1
    · rw [e] at q; cases q; rw [z]; exact ⟨ha, by rw [List.length_map]; exact hlen, vs, 0, rv, by rw [ha, ← hso]⟩
    · rw [e] at q; cases q
  have tb : ∀ p ∈ cs, GxR.TabB (hidT s.heap H) mg p.1 p.2 := fun p hp => by
    refine ⟨?_, ?_, fun z => ?_⟩
    · obtain ⟨o, us, fl, t1, fg, t2, b1, tx, t3, e1, e2, e3, e4, rest⟩ := hC p hp
      exact ⟨o, us, fl, t1, fg, t2, b1, tx, t3, low _ _ e1 (by rw [e3]; intro z; cases z; simp at e4) (by rw [e3]; exact fun _ _ z => nomatch z), e2, e3, e4, rest⟩
    · obtain ⟨bm, ob, m1, m2, m3, m4, m5, m6⟩ := hbm
      refine ⟨bm, ob, m1, m2, fun z => ?_, fun z => ?_, low _ _ m3 (by rw [m6]; exact fun z => nomatch z) (by rw [m6]; exact fun _ _ z => nomatch z), m4, m5, m6⟩
      · obtain ⟨o, es, ep, e, d, _⟩ := hns
        rw [z, e] at m3; cases m3; rw [d] at m6; cases m6
      · rw [z, hT p hp] at m3; cases m3; cases m6
    · obtain ⟨o, es, ep, e, d, _⟩ := hns
      rw [z, hT p hp] at e; cases e; cases d
  have tabH : ∀ p ∈ cs, H p.2 = some (.tbl #[]) := fun p hp => by
    have hm : p.2 ∈ cs.map (·.2) := List.mem_map.mpr ⟨p, hp, rfl⟩
    rcases three p.2 with ⟨_, q⟩ | ⟨z, _, _⟩ | ⟨_, q⟩
    · exact q
    · have e := (inT _ hm).1
      rw [z, ha, ← hso] at e; cases e
    · exact absurd hm q
  have hS : SqL K H a (ns.map V.int) := by
    rcases three a with ⟨z, _⟩ | ⟨_, _, q⟩ | ⟨q, nt⟩
    · have e := (inT a z).1
      rw [ha, ← hso] at e; cases e
    · exact .inl (.inr ⟨so, q⟩)
    · cases e : K.lookup a with
      | none => rw [← hH] at q; unfold H0 at q; rw [if_neg nt, if_pos ⟨rfl, e⟩] at q; cases q
      | some o =>
        have e2 := KX a o e
        rw [ha, ← hso] at e2; cases e2
        exact .inr ⟨_, vs.toArray, _, e, rfl, rfl, rfl, by rw [List.size_toArray, lv]; exact hlen, by simpa using rv⟩
  have e0 : Env0 P w K mg (hidT s.heap H) callerA [] s H := ⟨rfl, ⟨kb, lowNs _ _ hns, ⟨mb, lowNs _ _ hbl, hbb⟩, let ⟨mc, q1, q2⟩ := hlim; ⟨mc, lowNs _ _ q1, q2⟩⟩, fun b o e => of_hidT e, Nat.le_of_eq (hidT_size _ _), trivial, (fun b z => nomatch z), hok, .of_eq hg⟩
  refine codeAny_mono (run_at (vs := [.ref a]) (us := [.ref a]) (Q := fun v _ => v = .bl true) (E := fun _ _ _ => False) F S hr e0 (hb s (.ref a)) (.cons rfl .nil) rfl fun cdv hrm => ?_) fun r s' h => ?_
  · obtain ⟨t, p1, p2⟩ := body _ H cdv kb (lowNs _ _ hns) tb tabH hS hrm
    refine ⟨t, p1, ?_⟩
    have e : (fun (_ : L2.St) (H' : Hp) => (fun (v : V) (_ : Hp) => v = V.bl true) V.non H') = fun _ _ => False := by
      funext _ _
      exact propext ⟨(fun z => nomatch z), fun z => z.elim⟩
    rw [e]
    exact p2
  · match r, h with
    | .ok (.ret u), h =>
      obtain ⟨v, H', os, bare, un, hok', r', q⟩ := h
      obtain rfl : v = .bl true := q
      obtain rfl : u = Value.bool true := r'
      have grown : ∀ p ∈ cs, ∃ more : Array Value, s'.heap.get? p.2 = some { cls := .none, data := .fields more } := fun p hp => by
        obtain ⟨more, z⟩ := un.tbls p.2 #[] (tabH p hp)
        exact ⟨_, hok' p.2 _ z⟩
      have kept : ∀ b o, b ∉ cs.map (·.2) → s.heap.get? b = some o → s'.heap.get? b = some o := fun b o nb e => by
        rcases three b with ⟨z, _⟩ | ⟨z, _, q⟩ | ⟨q, _⟩
        · exact absurd z nb
        · have z2 := hok' b _ (un.frzs b so _ q)
          rw [z, ha] at e
          cases e
          exact z2.1
        · exact un.keep b o e q (by intro z; cases z) (by intro z; cases z)
      refine ⟨rfl, ⟨fun b o e => ?_, fun b o e => ?_⟩, os, bare⟩
      · by_cases hm : b ∈ cs.map (·.2)
        · obtain ⟨p, hp, rfl⟩ := List.mem_map.mp hm
          obtain ⟨more, z⟩ := grown p hp
          rw [hT p hp] at e
          cases e
          exact .inr (.inl ⟨((hC p hp).tab (hT p hp)).isCodeTable, rfl, #[], more, rfl, by rw [Array.empty_append]; exact z⟩)
        · exact .inl (kept b o hm e)
      · by_cases hm : b ∈ cs.map (·.2)
        · obtain ⟨p, hp, rfl⟩ := List.mem_map.mp hm
          obtain ⟨more, z⟩ := grown p hp
          exact ⟨_, z⟩
        · exact ⟨o, kept b o hm e⟩
/-! ### repr of data -/
/-- repr(x), x data -/
theorem call_repr {X : Cx} (hg : X.A.guards = some []) (hu : X.A.units + 64 < cLine) : CallR X (.builtin "repr") (fun xs H Q => ∃ (a : Addr) (d : PyData), xs = [.ref a] ∧ Dp X.K H (.ref a) d ∧ d.showable = true ∧ d.hasDict = false ∧ d.depth < 63 ∧ d.shown.length ≤ sizeLine ∧ Q (.str d.shown) H) := by
  intro pins s σ H xs us Q I r h
  obtain ⟨a, d, rfl, hd, h1, h2, h3, h4, q⟩ := h
  obtain ⟨u, rfl, ru⟩ := vals1 r
  obtain ⟨as, rd⟩ := Dp.reads I d _ u hd ru
  cases (show u = Value.ref a from ru)
  refine repr_of_reads' rd h1 (fun e => by rw [h2] at e; cases e) hg (by omega) (fun _ _ e => e) (fun h' u tk hk => ?_) h4
  exact ⟨.str d.shown, H, I.kept (t' := _) hk, ⟨_, rfl⟩, q⟩
end Lg

set_option Elab.async false
set_option linter.all false
set_option maxRecDepth 100000
set_option maxHeartbeats 4000000
namespace Lg
open PySem PySem.Spec PyProof.Rows L2
/-- the code object and the table of the def named x -/
def TabOf (mg : Str → Option Value) (h : Heap) (x : Str) (p : Addr × Addr) : Prop :=
  ∃ (a : Addr) (o : Obj) (fd : FuncData), mg x = some (.ref a) ∧ h.get? a = some o ∧ o.data = .func fd ∧ fd.code = .ref p.1 ∧ PySem.W.CodeHd h p.1 p.2 ∧ h.get? p.2 = some { cls := .none, data := .fields #[] }
theorem TabOf.code {K : PySem.W.Frag} {mg : Str → Option Value} {h : Heap} {x : Str} {p : Addr × Addr} {f : Addr} {cl : Value} {dd : Option Addr} {fd : FuncData} {sl : Array (Option Value)} (T : TabOf mg h x p) (X : K.In h) (hf : mg x = some (.ref f)) (l : K.lookup f = some ⟨cl, dd, .func fd, sl⟩) : fd.code = .ref p.1 := by
  obtain ⟨a, o, fd', h1, h2, h3, h4, _⟩ := T
  rw [hf] at h1
  cases h1
  rw [X _ _ l] at h2
  cases h2
  cases h3
  exact h4
theorem no_tab {K : PySem.W.Frag} {h : Heap} {P : Addr} (X : K.In h) (hK : PySem.W.noTabs K = true) (e : h.get? P = some { cls := .none, data := .fields #[] }) : K.lookup P = none := by
  cases z : K.lookup P with
  | none => rfl
  | some o =>
    have z2 := X _ _ z
    rw [e] at z2
    cases z2
    exact absurd (show false = true from List.all_eq_true.mp hK (P, _) (PySem.W.mem_of_lookupK z)) Bool.false_ne_true
theorem walk_of {l : PySem.W.OpenLaw} {n k : Nat} {q : Program} {loose : List Str} {XP : (Str → Option Value) → Heap → Prop} {YP : World → Heap → Prop} {d : DefRec} {K : Params → PySem.W.Frag} {x qual par : Str} {st : Stmt} {N : List Str} (names : List Str)
    (hn : l.most = some n) (hn2 : n ≤ sizeLine) (hdf : d.params.defaults = []) (hr : Room (k + 1) callerA) (hrec : (names.all fun y => (recsOf q).any fun e => e.name == y) = true) (hK : ∀ w : World, PySem.W.noTabs (K w.params) = true) (hY : ∀ (w : World) (h : Heap), YP w h → (K w.params).In h) (S : FnScope N [par] (defScope st))
    (F : ∀ (w : World) (mg : Str → Option Value) (fa : Addr) (h : Heap) (tb : Str → Addr × Addr), (K w.params).In h → h.Ns mainGlobals mg → mg d.name = some (.ref fa) → (∀ y ∈ names, TabOf mg h y (tb y)) →
      ∃ fd : FuncData, Fun (K w.params) x qual st fa fd ∧ (∀ (s : Shared) (u : Value), BindsTo s fd ⟨[u], []⟩ [(par, u)]) ∧ ∀ (base : Heap) (H : Hp) (cdv : Value) (a : Addr) (ns : List Int) (s : Shared), (K w.params).In base → base.Ns mainGlobals mg → (∀ y ∈ names, GxR.TabB base mg (tb y).1 (tb y).2) → (∀ y ∈ names, H (tb y).2 = some (.tbl #[])) → ns.length ≤ n → (∀ z ∈ ns, Builtin.Int.intBits z ≤ 1048576) → SqL (K w.params) H a (ns.map V.int) → Room k (callerA.deeper (envOfC qual (defScope st) s.heap.objs.size fa cdv)) →
        ∃ t, PSs (cxOf CX0 l.prog w (K w.params) mg base N qual (defScope st) fa cdv callerA [] s H (fun _ _ _ => False)).nox (defBody st) t ∧ t { nx := fun _ _ => False, rt := fun v _ => v = .bl true } (start N [.ref a]) H) :
    PySem.W.WalkO q loose XP YP l.row.toRowW d [] (fun f vs => PySem.call f vs) := by
  refine Att.attach_callB hn hdf fun w s₀ s₁ mg mb fa o pm cd doc a vs ns G Y ho hd hcd hmg hobj hints hlen hbits hg => ?_
  have KX := hY w _ Y
  have ex : ∀ y : Str, ∃ p : Addr × Addr, y ∈ names → TabOf mg s₁.heap y p := fun y => by
    by_cases hy : y ∈ names
    · obtain ⟨dL, hm, hn1⟩ := List.any_eq_true.mp (List.all_eq_true.mp hrec y hy)
      have hn2 : dL.name = y := beq_iff_eq.mp hn1
      obtain ⟨a', o', fd', c', P', h1, h2, h3, h4, h5, h6⟩ := G.T.tab dL hm
      rw [hn2] at h1
      exact ⟨(c', P'), fun _ => ⟨a', o', fd', h1, h2, h3, h4, PySem.W.CodeHd.of h5 h6, h6.2⟩⟩
    · exact ⟨(0, 0), fun z => absurd z hy⟩
  have tbx : ∃ tb : Str → Addr × Addr, ∀ y ∈ names, TabOf mg s₁.heap y (tb y) := ⟨fun y => Classical.choose (ex y), fun y => Classical.choose_spec (ex y)⟩
  obtain ⟨tb, ht⟩ := tbx
  obtain ⟨fd, hF, hb, body⟩ := F w mg fa _ tb KX G.T.g hmg ht
  have cm : ∀ p ∈ names.map tb, ∃ y ∈ names, tb y = p := fun p hp => List.mem_map.mp hp
  refine law_at (cs := names.map tb) KX G.T.g G.T.b G.T.builtins G.T.nolimit hg (fun p hp => ?_) (fun p hp => ?_) (fun p hp => ?_) G.T.bmain hobj hints (Nat.le_trans hlen hn2) hr hF S hb fun base H cdv kb gn tB tH hS hrm => body base H cdv a ns s₁ kb gn (fun y hy => tB _ (List.mem_map_of_mem hy)) (fun y hy => tH _ (List.mem_map_of_mem hy)) hlen hbits hS hrm
  · obtain ⟨y, hy, rfl⟩ := cm p hp
    obtain ⟨_, _, _, _, _, _, _, _, z⟩ := ht y hy
    exact z
  · obtain ⟨y, hy, rfl⟩ := cm p hp
    obtain ⟨_, _, _, _, _, _, _, _, z⟩ := ht y hy
    exact no_tab KX (hK w) z
  · obtain ⟨y, hy, rfl⟩ := cm p hp
    obtain ⟨_, _, _, _, _, _, _, z, _⟩ := ht y hy
    exact z
end Lg

set_option Elab.async false
set_option linter.all false
set_option maxRecDepth 100000
set_option maxHeartbeats 4000000
/-! fillings, counts, clashes: the data -/
namespace Dt
open PySem PySem.Spec PyProof.Rows L2
def longer (hues : Nat) (f : List Int) : List (List Int) := (List.range hues).map fun (h : Nat) => f ++ [(h : Int)]
def fillL (hues : Nat) : Nat → List (List Int)
  | 0 => [[]]
  | n + 1 => (fillL hues n).flatMap (longer hues)
theorem fill_good {hues : Nat} : ∀ {n : Nat} {f : List Int}, f ∈ fillL hues n → f.length = n ∧ ∀ h ∈ f, 0 ≤ h ∧ h < (hues : Int)
  | 0, f, h => by
    cases List.mem_singleton.mp h
    exact ⟨rfl, fun _ z => nomatch z⟩
  | n + 1, f, h => by
    obtain ⟨g, hg, hf⟩ := List.mem_flatMap.mp h
    obtain ⟨k, hk, rfl⟩ := List.mem_map.mp hf
    obtain ⟨l, a⟩ := fill_good hg
    have hk := List.mem_range.mp hk
    refine ⟨by simp [l], fun z hz => ?_⟩
    rcases List.mem_append.mp hz with q | q
    · exact a z q
    · cases List.mem_singleton.mp q
      omega
theorem longer_len (hues : Nat) (f : List Int) : (longer hues f).length = hues := by simp [longer]
theorem flat_len {hues : Nat} : ∀ l : List (List Int), (l.flatMap (longer hues)).length = l.length * hues
  | [] => by simp
  | f :: r => by rw [List.flatMap_cons, List.length_append, longer_len, flat_len r, List.length_cons, Nat.succ_mul, Nat.add_comm]
theorem fill_len (hues : Nat) : ∀ n : Nat, (fillL hues n).length = hues ^ n
  | 0 => by simp [fillL]
  | n + 1 => by rw [fillL, flat_len, fill_len hues n, Nat.pow_succ]
theorem fill_goodF {many hues : Int} (m0 : 0 ≤ many) (h0 : 0 ≤ hues) {f : List Int} (h : f ∈ fillL hues.toNat many.toNat) : GoodF many hues f := by
  obtain ⟨a, b⟩ := fill_good h
  exact ⟨by omega, fun z hz => by have := b z hz; omega⟩
theorem pow_le_4096 {h n : Nat} (hh : h ≤ 4) (hn : n ≤ 6) : h ^ n ≤ 4096 := by
  have a : h ^ n ≤ 4 ^ n := Nat.pow_le_pow_left hh n
  have b : 4 ^ n ≤ 4 ^ 6 := Nat.pow_le_pow_right (by decide) hn
  have c : (4 : Nat) ^ 6 = 4096 := by decide
  omega
/-! ### counts -/
def bump (ns : List Int) (i : Nat) : List Int := ns.set i (ns.getD i 0 + 1)
def cnt0 (wds : List WD) : List Int := List.replicate (wds.length + 1) 0
def cntL (wds : List WD) (fss : List (List Int)) : List Int := fss.foldl (fun ns f => bump ns (broL f wds wds.length).length) (cnt0 wds)
theorem cnt_snoc (wds : List WD) (fss : List (List Int)) (f : List Int) : cntL wds (fss ++ [f]) = bump (cntL wds fss) (broL f wds wds.length).length := by
  unfold cntL
  rw [List.foldl_append]
  rfl
theorem bump_len (ns : List Int) (i : Nat) : (bump ns i).length = ns.length := by simp [bump]
theorem foldl_len (wds : List WD) : ∀ (fss : List (List Int)) (ns : List Int), (fss.foldl (fun ns f => bump ns (broL f wds wds.length).length) ns).length = ns.length
  | [], _ => rfl
  | f :: r, ns => by rw [List.foldl_cons, foldl_len wds r, bump_len]
theorem cnt_len (wds : List WD) (fss : List (List Int)) : (cntL wds fss).length = wds.length + 1 := by
  unfold cntL
  rw [foldl_len]
  simp [cnt0]
theorem bump_mem {ns : List Int} {i : Nat} {b : Int} (h : ∀ z ∈ ns, 0 ≤ z ∧ z ≤ b) (hb : 0 ≤ b) : ∀ z ∈ bump ns i, 0 ≤ z ∧ z ≤ b + 1 := fun z hz => by
  unfold bump at hz
  rcases List.mem_or_eq_of_mem_set hz with q | q
  · have := h z q; omega
  · subst q
    rw [List.getD_eq_getElem?_getD]
    cases e : ns[i]? with
    | none => simp; omega
    | some x => have := h x (List.mem_of_getElem? e); simp; omega
theorem foldl_mem (wds : List WD) : ∀ (fss : List (List Int)) (ns : List Int) (b : Int), 0 ≤ b → (∀ z ∈ ns, 0 ≤ z ∧ z ≤ b) → ∀ z ∈ fss.foldl (fun ns f => bump ns (broL f wds wds.length).length) ns, 0 ≤ z ∧ z ≤ b + fss.length
  | [], _, b, _, h => fun z hz => by have := h z hz; simp; omega
  | f :: r, ns, b, hb, h => fun z hz => by
    have := foldl_mem wds r (bump ns (broL f wds wds.length).length) (b + 1) (by omega) (bump_mem h hb) z hz
    rw [List.length_cons]
    omega
theorem cnt_mem (wds : List WD) (fss : List (List Int)) : ∀ z ∈ cntL wds fss, 0 ≤ z ∧ z ≤ fss.length := fun z hz => by
  have := foldl_mem wds fss (cnt0 wds) 0 (by omega) (fun z hz => by
    have := List.eq_of_mem_replicate hz
    omega) z hz
  omega
theorem bump_eq {ns : List Int} {i : Nat} {x : Int} (h : ns[i]? = some x) : bump ns i = ns.set i (x + 1) := by
  unfold bump
  rw [List.getD_eq_getElem?_getD, h]
  rfl
/-! ### clashes -/
def clB (a b : WD) : Bool := a.1.any fun p => decide (p ∈ b.1)
theorem clB_comm (a b : WD) : clB a b = clB b a := by
  rw [Bool.eq_iff_iff]
  unfold clB
  simp only [List.any_eq_true, decide_eq_true_eq]
  exact ⟨fun ⟨x, h1, h2⟩ => ⟨x, h2, h1⟩, fun ⟨x, h1, h2⟩ => ⟨x, h2, h1⟩⟩
def clAt (wds : List WD) (a : WD) (k : Nat) : Bool := match wds[k]? with
  | some wd => clB a wd
  | none => false
def clsL (wds : List WD) (a : WD) (i : Nat) : List Int := ((List.range i).filter (clAt wds a)).map fun (k : Nat) => (k : Int)
theorem clAt_of {wds : List WD} {a wd : WD} {k : Nat} (h : wds[k]? = some wd) : clAt wds a k = clB a wd := by
  unfold clAt
  rw [h]
theorem clsL_yes {wds : List WD} {a : WD} {i : Nat} (h : clAt wds a i = true) : clsL wds a (i + 1) = clsL wds a i ++ [(i : Int)] := by
  unfold clsL
  rw [List.range_succ, List.filter_append, List.map_append]
  simp [h]
theorem clsL_no {wds : List WD} {a : WD} {i : Nat} (h : clAt wds a i = false) : clsL wds a (i + 1) = clsL wds a i := by
  unfold clsL
  rw [List.range_succ, List.filter_append, List.map_append]
  simp [h]
theorem clsL_len (wds : List WD) (a : WD) (i : Nat) : (clsL wds a i).length ≤ i := by
  unfold clsL
  rw [List.length_map]
  have q := List.length_filter_le (clAt wds a) (List.range i)
  rw [List.length_range] at q
  exact q
theorem clsL_mem {wds : List WD} {a : WD} {i : Nat} {z : Int} (h : z ∈ clsL wds a i) : 0 ≤ z ∧ z < i := by
  unfold clsL at h
  obtain ⟨k, hk, rfl⟩ := List.mem_map.mp h
  have := List.mem_range.mp (List.mem_filter.mp hk).1
  omega
def clsAll (wds : List WD) : List (List Int) := wds.map fun wd => clsL wds wd wds.length
/-! ### fine data -/
theorem short_int (m : Nat) (h : m < 10 ^ 10) : PyData.intsShort 13 (.int (m : Int)) = true := by
  have e := (Nat.length_repr_le_iff (n := m) (by decide : 0 < 10)).mpr h
  show decide ((Str.ofString (Nat.repr m)).length ≤ 13) = true
  rw [decide_eq_true_eq, Str.ofString_eq_toList]
  have z : (Str.mk ((Nat.repr m).toList.map Char.toNat).toArray).length = (Nat.repr m).length := by
    show ((Nat.repr m).toList.map Char.toNat).toArray.size = _
    rw [List.size_toArray, List.length_map, String.length_toList]
  omega
theorem fine_intM {i : Int} (h0 : 0 ≤ i) (h1 : i < 5000) : Fine (.int i) 1 14 := by
  obtain ⟨n, rfl⟩ : ∃ n : Nat, i = n := ⟨i.toNat, by omega⟩
  have hn : n < 5000 := by omega
  have hl : n.log2 ≤ 12 := by
    by_cases e : n = 0
    · subst e; decide
    · have := (Nat.log2_lt e).mpr (show n < 2 ^ 13 by omega)
      omega
  refine ⟨rfl, by simp [PyData.depth], ?_, ?_, rfl, short_int n (by omega)⟩
  · simp only [PyData.weight]
    split
    · omega
    · have e : ((n : Int)).natAbs = n := by omega
      rw [e]
      omega
  · simp only [PyData.showable]
    have e : ((n : Int)).natAbs = n := by omega
    rw [e]
    exact decide_eq_true (by omega)
theorem fine_ints {ns : List Int} (h : ∀ z ∈ ns, 0 ≤ z ∧ z < 5000) : Fine (.list (ns.map .int)) 2 (ns.length * 15) :=
  (Fine.list (fineAll_map ns fun z hz => fine_intM (h z hz).1 (h z hz).2)).mono (by omega) (by omega)
def listsD (ls : List (List Int)) : PyData := .list (ls.map fun l => .list (l.map .int))
theorem fine_lists {ls : List (List Int)} (hl : ls.length ≤ 300) (h : ∀ l ∈ ls, l.length ≤ 20 ∧ ∀ z ∈ l, 0 ≤ z ∧ z < 5000) : Fine (listsD ls) 3 100000 := by
  refine (Fine.list (fineAll_map (n := 2) (w := 300) ls fun l hl => (fine_ints (h l hl).2).mono (Nat.le_refl _) (by have := (h l hl).1; omega))).mono (by omega) (by omega)
end Dt

set_option Elab.async false
set_option linter.all false
set_option maxRecDepth 100000
set_option maxHeartbeats 4000000
/-! elements of generator expressions: x in f[0] -/
namespace Gv
open PySem PySem.Spec PyProof.Rows L2
variable {X : Cx} {pins : List (Addr × Obj)} {σ : L2.St}
theorem reads_ints (h : Heap) : ∀ (ns : List Int) (us : List Value), Vals (ns.map V.int) us → ∃ as, ReadsAll h us (ns.map PyData.int) as
  | [], _, r => by cases r; exact ⟨_, .nil⟩
  | n :: q, _, r => by
    cases r with
    | cons r1 r2 =>
      obtain ⟨as, z⟩ := reads_ints h q _ r2
      obtain ⟨t, rfl⟩ := r1
      exact ⟨_, .cons (.int n t) z⟩
theorem canAll_ints : ∀ ns : List Int, PyData.canLayAll0 (ns.map PyData.int) = true
  | [] => rfl
  | n :: q => by simp only [List.map_cons, PyData.canLayAll0, PyData.canLay0, canAll_ints q, Bool.and_self]
theorem any_ints (n : Int) : ∀ ns : List Int, ((ns.map PyData.int).any fun y => PyData.eqv y (.int n)) = decide (n ∈ ns)
  | [] => by simp
  | m :: q => by
    rw [List.map_cons, List.any_cons, any_ints n q]
    by_cases e : m = n
    · subst e; simp [PyData.eqv]
    · have e2 : ¬ n = m := fun z => e z.symm
      simp [PyData.eqv, e, e2]
theorem elt_in0 {f x : Str} {scope : Scope} {P fa pa : Addr} {H1 : Hp} {xs ys zs : List V} {ns : List Int} {j jj : Nat} {p1 p2 p3 p4 p5 : Pos} (hk : scope.kind = .function) (hx : scope.names.lookup x = some .local) (hf : scope.names.lookup f = some .free)
    (hcl : (cloFrom X.env.cells scope.names []).lookup f = some ((X.env.cells.lookup f).getD 0)) (hj : X.N[j]? = some f) (hkf : X.env.kindOf f = some .cell) (hσ : σ[j]? = some (some (.ref fa))) (hq : SqT X.K H1 fa (.ref pa :: zs)) (hp : SqT X.K H1 pa (ns.map V.int)) (hT : GxR.TabG H1 P) (hu : X.A.units + 64 < cLine)
    (hv : ∀ (i : Nat) x0, xs[i]? = some x0 → ∃ (n : Int), x0 = .int n ∧ ys[i]? = some (.bl (decide (n ∈ ns)))) (hdf : (f == ("__debug__" : Str)) = false := by decide) (hdx : (x == ("__debug__" : Str)) = false := by decide) (hcf : (f == ("__classdict__" : Str)) = false := by decide) :
    EltV X pins σ scope x (.Compare (.Name x p1) [.In] [.Subscript (.Name f p2) (.Constant (.int 0) jj p3) p4] p5) P H1 xs ys := by
  intro s1 t C code bi A' E' i x0 u m I hA hU hx0 ru hn hm hkp
  obtain ⟨n, rfl, hy⟩ := hv i x0 hx0
  obtain ⟨tk, rfl⟩ := (show ∃ t, u = Value.int n t from ru)
  obtain ⟨ps, hP, _⟩ := hT
  have tabS : s1.heap.get? P = some { cls := .none, data := .fields ps } := I.hok P _ hP
  obtain ⟨m1, _, hl⟩ := I.loc
  obtain ⟨uf, rf, lk⟩ := hl j f _ hj hσ (.inr (.inl hkf))
  cases (show uf = Value.ref fa from rf)
  obtain ⟨c, hc, ic⟩ : ∃ c, X.env.cells.lookup f = some c ∧ s1.heap.IsCell c (some (.ref fa)) := by
    rcases lk with ⟨z, _⟩ | ⟨_, c, hc, ic⟩
    · rw [hkf] at z; cases z
    · exact ⟨c, hc, ic⟩
  have ic2 : t.heap.IsCell c (some (.ref fa)) := by
    obtain ⟨o, ho, hd⟩ := ic
    refine ⟨o, hkp c o (fun z => ?_) ho, hd⟩
    rw [z, tabS] at ho
    cases ho
    cases hd
  have tup2 : ∀ {a : Addr} {its : Array Value}, IsTup s1.heap a its → IsTup t.heap a its := fun {a its} pl => by
    obtain ⟨o, ho, hcl', nn, hd⟩ := pl
    refine ⟨o, hkp a o (fun z => ?_) ho, hcl', nn, hd⟩
    rw [z, tabS] at ho
    cases ho
    cases hd
  obtain ⟨its, rv, pl, hz⟩ := I.tuple hq
  have pl2 := tup2 pl
  obtain ⟨its2, rv2, plb, hz2⟩ := I.tuple hp
  have plb2 := tup2 plb
  have clf : (genEnv scope (cloFrom X.env.cells scope.names []) C code bi X.env).cells.lookup f = some c := by
    show (cloFrom X.env.cells scope.names []).lookup f = some c
    rw [hcl, hc]
    rfl
  have hat0 : atI (.ref pa :: zs) 0 = some (.ref pa) := atI_nat (j := 0) rfl
  obtain ⟨j2, h1, h2, h3, h4, h5⟩ := atI_get hat0
  obtain ⟨wv, ew, rw'⟩ := rv.get h2
  cases (show wv = Value.ref pa from rw')
  have hlen := rv.length
  refine wpAny_Compare1 ?_
  refine wpAny_Name (wpAny_loadName_local hk hx hn hm ?_) hdx
  refine Subscript_ (wpAny_Name (wpAny_loadName_free hk hf clf ic2 ?_ hcf) hdf)
  refine wpAny_Constant_int ?_
  refine subscriptTail_builtinR (x := Value.ref pa) (show IsTup { t with toks := t.toks + 1 }.heap fa its.toArray from pl2).typeIs slot_tuple_getitem.lookup
    (getItem_tuple (j := j2) (show IsTup { t with toks := t.toks + 1 }.heap fa its.toArray from pl2) (by decide) (by decide) (by rw [List.size_toArray, ← hlen]; exact h1) (by simpa using ew) ⟨rfl, ?_⟩) (by rfl)
  obtain ⟨as, ra⟩ := reads_ints t.heap ns its2 rv2
  obtain ⟨o, ho, hcl', nn, hd⟩ := plb2
  refine PySem.SeqAt.in_tuple_reads (xs := ns.map PyData.int) (d := .int n) (.tuple (h := t.heap) ho hcl' hd (by simpa using ra)) (.int n tk) (canAll_ints ns) rfl ?_ ⟨⟨_, hy, ?_⟩, GxR.keeps_tok _ _⟩
  · have : min (PyData.depthAll (ns.map PyData.int)) (PyData.int n).depth ≤ 1 := Nat.le_trans (Nat.min_le_right _ _) (by simp [PyData.depth])
    omega
  · rw [any_ints]
    rfl
end Gv

set_option Elab.async false
set_option linter.all false
set_option maxRecDepth 100000
set_option maxHeartbeats 4000000
/-! comprehensions with two fors: the loops; an item of a list, by values -/
namespace Cp
open PySem PySem.Spec PyProof.Rows L2
theorem lc2_list {K : PySem.W.Frag} {a : Addr} {xs : List V} {g : TG} {tt : TT} {B : L2.St → Hp → (Hp → Prop) → Prop} {vs : List Nat} {σ : L2.St} {H1 : Hp} {D : Addr} {Qd : Hp → Prop} (Pv : Nat → Hp → Prop) (h0 : Pv 0 (upd H1 D (.lst []))) (hl : ∀ i H, i ≤ xs.length → Pv i H → SqL K H a xs)
    (hs : ∀ i x H, xs[i]? = some x → Pv i H → g x (wipe σ vs) H fun σ2 H2 => wipe σ2 vs = wipe σ vs ∧ tt σ2 H2 fun b H3 => if b = true then B σ2 H3 (Pv (i + 1)) else Pv (i + 1) H3) (hd : ∀ H, Pv xs.length H → Qd H) :
    ∃ W : Nat → Nat → Hp → Prop, (∃ m, W 0 m (upd H1 D (.lst []))) ∧ ∀ i m H, W i m H →
      ((Itl K a).stop i H ∧ Qd H) ∨ ((Itl K a).go i H ∧ ∃ Nx : Hp → Prop, (∀ H', Nx H' → ∃ m', m' < m ∧ W (i + 1) m' H') ∧ ∀ x H', (Itl K a).yld i H x H' → g x (wipe σ vs) H' fun σ2 H2 => wipe σ2 vs = wipe σ vs ∧ tt σ2 H2 fun b H3 => if b = true then B σ2 H3 Nx else Nx H3) := by
  refine ⟨fun i m H => m = xs.length - i ∧ i ≤ xs.length ∧ Pv i H, ⟨xs.length, by simp, Nat.zero_le _, h0⟩, ?_⟩
  rintro i m H ⟨rfl, hi, p⟩
  have q := hl i H hi p
  by_cases hlt : i < xs.length
  · refine .inr ⟨⟨xs, xs[i], q, by simp [hlt]⟩, Pv (i + 1), fun H' p' => ⟨xs.length - (i + 1), by omega, rfl, hlt, p'⟩, fun x H' y => ?_⟩
    obtain ⟨e, y⟩ := y
    subst e
    exact hs i x _ (y xs q) p
  · have e : i = xs.length := by omega
    subst e
    exact .inl ⟨⟨xs, q, by simp⟩, hd H p⟩
theorem lcin_range {lo : Int} {n : Nat} {g : TG} {tt : TT} {te : TE} {vs : List Nat} {σ : L2.St} {H4 : Hp} {D : Addr} {Qd : Hp → Prop} (Pv : Nat → Hp → Prop) (h0 : Pv 0 H4)
    (hs : ∀ i H, i < n → Pv i H → g (.int (lo + i)) (wipe σ vs) H fun σ2 H2 => wipe σ2 vs = wipe σ vs ∧ tt σ2 H2 fun b H3 =>
      if b = true then te σ2 H3 fun y H4 => ∃ acc, H4 D = some (.lst acc) ∧ acc.length < sizeLine ∧ Pv (i + 1) (upd H4 D (.lst (acc ++ [y]))) else Pv (i + 1) H3) (hd : ∀ H, Pv n H → Qd H) :
    ∃ W : Nat → Nat → Hp → Prop, (∃ m, W 0 m H4) ∧ ∀ i m H, W i m H →
      ((Itr lo n).stop i H ∧ Qd H) ∨ ((Itr lo n).go i H ∧ ∃ Nx : Hp → Prop, (∀ H', Nx H' → ∃ m', m' < m ∧ W (i + 1) m' H') ∧ ∀ x H', (Itr lo n).yld i H x H' → g x (wipe σ vs) H' fun σ2 H2 => wipe σ2 vs = wipe σ vs ∧ tt σ2 H2 fun b H3 =>
        if b = true then te σ2 H3 fun y H4 => ∃ acc, H4 D = some (.lst acc) ∧ acc.length < sizeLine ∧ Nx (upd H4 D (.lst (acc ++ [y]))) else Nx H3) := by
  refine ⟨fun i m H => m = n - i ∧ i ≤ n ∧ Pv i H, ⟨n, by simp, Nat.zero_le _, h0⟩, ?_⟩
  rintro i m H ⟨rfl, hi, p⟩
  by_cases hlt : i < n
  · refine .inr ⟨hlt, Pv (i + 1), fun H' p' => ⟨n - (i + 1), by omega, rfl, hlt, p'⟩, fun x H' y => ?_⟩
    obtain ⟨e, y⟩ := y
    subst e y
    exact hs i _ hlt p
  · have e : i = n := by omega
    subst e
    exact .inl ⟨Nat.le_refl _, hd H p⟩
/-- xs[k], k from 0 on -/
def rIxN (K : PySem.W.Frag) : V → V → Hp → VK → Prop := fun x y H Q => ∃ (p : Addr) (xs : List V) (k : Nat) (v : V), x = .ref p ∧ y = .int k ∧ SqL K H p xs ∧ xs[k]? = some v ∧ Q v H
theorem pget_list {X : Cx} : PGet X (rIxN X.K) := by
  intro pins s σ H o i ov iv Q I ro ri h
  obtain ⟨p, xs, k, z, rfl, rfl, hq, he, q⟩ := h
  cases ro
  obtain ⟨t, rfl⟩ := ri
  obtain ⟨its, r, pl, hz⟩ := I.list hq
  obtain ⟨w, ew, rw'⟩ := r.get he
  have hl := r.length
  have hn := line63
  have hk := (List.getElem?_eq_some_iff.mp he).1
  exact wpAny_getItem_list pl.isList (by omega) (by omega) (by simpa using ew) ⟨z, H, I, rw', q⟩
end Cp

set_option Elab.async false
set_option linter.all false
set_option maxRecDepth 100000
set_option maxHeartbeats 4000000
/-! all(..) and any(..) of a generator expression: any source, any target, any element -/
namespace Gx
open PySem PySem.Spec PyProof.Rows L2 GenW
/-- the element's context: a frame of its own over the def's -/
abbrev gcx (X : Cx) (A : Around) (s : Shared) (H : Hp) (cenv : Env) (fp : List Addr) : Cx :=
  { X with A := A, s_0 := s, H_0 := H, env := cenv, outer := X.stack, stack := cenv :: X.stack, ex := fp, fn := fun _ => false, pn := [], xe := fun _ _ => False }
structure GenK (scope : Scope) : Prop where
  co : scope.isCoroutine = false
  cell : ∀ y ∈ scope.names, y.2 ≠ .cell
  dot : scope.names.lookup (".0" : Str) = some NameKind.local
/-- nothing but the generators' own table has turned -/
structure Kept (s s' : Shared) : Prop where
  os : s'.os = s.os
  bare : AllBare s'.gens
  keep : ∀ b o, s.heap.get? b = some o → s'.heap.get? b = some o
theorem Inv.keptS {X : Cx} {pins : List (Addr × Obj)} {σ : L2.St} {H : Hp} {s s' : Shared} (I : Inv X pins σ H s) (k : Kept s s') : Inv X pins σ H s' :=
  I.call' (ch := []) k.os (Un.kept k.keep) (I.hok.kept k.keep) k.bare fun b z => by simp at z
section
variable {X : Cx} {pins : List (Addr × Obj)} {σ : L2.St} {H : Hp} {s : Shared}
theorem gen_start {scope : Scope} {own : List (Str × Nat)} {fp : List Addr} {code : Value} {A : Around} {s' : Shared} {m : Str → Option Value} (I : Inv X pins σ H s) (ok : BlkOk X.N X.env.scope scope own) (S : GenK scope) (hN : X.N.Nodup) (hfp : ∀ b ∈ fp, FpOk X pins H b ∧ b < s.heap.objs.size)
    (hA : A.handled = none) (hfr : A.frames = some (genEnv scope (cloFrom X.env.cells scope.names []) s.heap.objs.size code builtinsNs X.env :: X.stack))
    (k : Kept s s') (hns : s'.heap.Ns s.heap.objs.size m) :
    Inv (gcx X A s H (genEnv scope (cloFrom X.env.cells scope.names []) s.heap.objs.size code builtinsNs X.env) fp) [] (wipe σ (own.map (·.2))) H s' := by
  have hfree : ∀ y ∈ scope.names, y.2 = .free → ∃ c, X.env.cells.lookup y.1 = some c := fun y hy e => by
    rcases ok.free y hy e with k | k
    · exact I.ok.has _ (.inl k)
    · exact I.ok.has _ (.inr k)
  generalize hcenv : genEnv scope (cloFrom X.env.cells scope.names []) s.heap.objs.size code builtinsNs X.env = cenv at hfr
  have hL : cenv.locals = s.heap.objs.size := by rw [← hcenv]; rfl
  have hcl : cenv.cells = cloFrom X.env.cells scope.names [] := by rw [← hcenv]; rfl
  have hsc : cenv.scope = scope := by rw [← hcenv]; rfl
  have mem : ∀ {y c}, cenv.cells.lookup y = some c → X.env.cells.lookup y = some c ∧ c < s.heap.objs.size := fun {y c} e => by
    rw [hcl] at e
    rcases cloFrom_mem (PySem.mem_of_lookup e) with hm | ⟨h1, rfl⟩
    · cases hm
    · obtain ⟨c, hc⟩ := hfree _ h1 rfl
      rw [hc]
      obtain ⟨w, z⟩ := I.cell _ _ hc
      exact ⟨rfl, z.lt⟩
  have look : ∀ {y}, scope.names.lookup y = some .free → ∃ c, cenv.cells.lookup y = some c ∧ X.env.cells.lookup y = some c := fun {y} hl => by
    have hy : (y, NameKind.free) ∈ scope.names := PySem.mem_of_lookup hl
    obtain ⟨c', e'⟩ := mem_lookup (cloFrom_has (cells := X.env.cells) (acc := []) hy)
    rw [← hcl] at e'
    exact ⟨c', e', (mem e').1⟩
  have okB : (gcx X A s H cenv fp).Ok := by
    refine ⟨I.ok.mod, by show cenv.scope.kind = _; rw [hsc]; exact ok.kind, by show cenv.globals = _; rw [← hcenv]; exact I.ok.glob, by show cenv.builtins = _; rw [← hcenv]; rfl, by show s.heap.objs.size ≤ cenv.locals; rw [hL]; exact Nat.le_refl _,
      fun y z c e1 e2 => I.ok.inj y z c (mem e1).1 (mem e2).1, fun y hy => ?_, (fun y c z e => nomatch z), fun _ => hA, hfr, .inr ⟨rfl, ?_⟩, fun b hb => ⟨?_, fun y c e z => ?_⟩, I.bs, Nat.le_trans I.ok.bsz I.sz, fun b o e hb => ?_, fun b hb z => ?_, I.stack, I.stkFree⟩
    · show ∃ c, cenv.cells.lookup y = some c
      rcases hy with hy | hy
      · have e : scope.names.lookup y = some .cell := by rw [← hsc]; exact hy
        exact absurd rfl (S.cell _ (PySem.mem_of_lookup e))
      · have e : scope.names.lookup y = some .free := by rw [← hsc]; exact hy
        obtain ⟨c, h1, _⟩ := look e
        exact ⟨c, h1⟩
    · show cenv.frame = some cenv.locals
      rw [← hcenv]
      rfl
    · show b ≠ cenv.locals
      rw [hL]; exact Nat.ne_of_lt (hfp b hb).2
    · exact (hfp b hb).1.2.2.2.2.1 y c (mem e).1 z
    · rcases (hfp b hb).1.2.2.2.1 with z | z
      · exact I.ok.noex b o e z
      · exact absurd (Nat.lt_of_lt_of_le (Heap.lt_size e) (Nat.le_trans I.ok.bsz z)) (Nat.lt_irrefl _)
    · rcases List.mem_cons.mp (I.stkSub b z) with z | z
      · exact (hfp b hb).1.2.1 z
      · exact (hfp b hb).1.2.2.1 z
  refine ⟨okB, k.os, k.bare, Un.kept k.keep, ⟨m, ?_, fun i y av e1 e2 e3 => ?_⟩, fun y c e => ?_, ?_, fun y c e => I.freeC y c (mem e).1, fun p hp => ?_, I.hok.kept k.keep, by rw [wipe_length]; exact I.len⟩
  · show Heap.Ns _ cenv.locals _
    rw [hL]
    exact hns
  · obtain ⟨e2, hne⟩ := wipe_some e2
    have hfr : scope.names.lookup y = some .free := by
      have key : ∀ k, scope.names.lookup y = some k → k = .local ∨ k = .cell ∨ k = .free → scope.names.lookup y = some .free := fun k e hk' => by
        have no : ¬ (k = .local ∨ k = .cell) := fun hh => by
          rcases ok.own _ (PySem.mem_of_lookup e) hh with e' | e'
          · obtain ⟨p, hp, hpy⟩ := List.mem_map.mp e'
            have e3 := ok.ix p hp
            have : p.1 = y := hpy
            rw [this] at e3
            exact hne (List.mem_map.mpr ⟨p, hp, nodup_ix hN e3 e1⟩)
          · exact e' (List.mem_of_getElem? e1)
        rcases hk' with rfl | rfl | rfl
        · exact absurd (.inl rfl) no
        · exact absurd (.inr rfl) no
        · exact e
      have e3 : Vis cenv.scope y := e3
      rw [hsc] at e3
      rcases e3 with e3 | e3 | e3
      · exact key _ e3 (.inl rfl)
      · exact key _ e3 (.inr (.inl rfl))
      · exact key _ e3 (.inr (.inr rfl))
    obtain ⟨m2, hn, hl⟩ := I.loc
    have hvis : Vis X.env.scope y := (ok.free _ (PySem.mem_of_lookup hfr) rfl).elim (fun k => .inr (.inl k)) (fun k => .inr (.inr k))
    obtain ⟨w, r, q⟩ := hl i y av e1 e2 hvis
    refine ⟨w, r, .inr ⟨.inr (by show cenv.scope.names.lookup y = _; rw [hsc]; exact hfr), ?_⟩⟩
    obtain ⟨c, h1, h2⟩ := look hfr
    rcases q with ⟨k, _⟩ | ⟨_, c', e', z⟩
    · have k : X.env.scope.names.lookup y = some .local := k
      rcases ok.free _ (PySem.mem_of_lookup hfr) rfl with k' | k' <;> rw [show X.env.scope.names.lookup y = _ from k'] at k <;> cases k
    · rw [h2] at e'; cases e'
      exact ⟨c, h1, z.keeps k.keep⟩
  · obtain ⟨w, z⟩ := I.cell y c (mem e).1
    exact ⟨w, z.keeps k.keep⟩
  · show H cenv.locals = none
    rw [hL]; exact I.hok.fresh (Nat.le_refl _)
  · exact absurd (show p ∈ ([] : List (Addr × Obj)) ++ [] from hp) (by simp)
end
end Gx

set_option Elab.async false
set_option linter.all false
set_option maxRecDepth 100000
set_option maxHeartbeats 4000000
namespace Gx
open PySem PySem.Spec PyProof.Rows L2 GenW
/-- the end of the walk -/
def RG (X : Cx) (pz : List (Addr × Obj)) (σ0 : L2.St) (QT : Hp → Prop) : GenEnd := fun _ _ r s₁ => ((r = .ok (.ret .none) ∨ r = .ok .next) ∧ ∃ H', Inv X pz σ0 H' s₁ ∧ QT H') ∨ ∃ e, r = .error e ∧ False
/-- a truth is handed out: by d it goes on -/
def YG (X : Cx) (pz : List (Addr × Obj)) (d : Bool) (QF : Hp → Prop) : Protocol := fun _ _ v s kap => ∃ (c : Bool) (σ' : L2.St) (H' : Hp), v = .bool c ∧ Inv X pz σ' H' s ∧ (if c = d then ∀ s', Kept s s' → kap (.send .none) s' else QF H')
/-- the source's turns, the target, the tests, the element -/
def Turns (J : It) (g : TG) (tt : TT) (te : TE) (vs : List Nat) (σ : L2.St) (d : Bool) (QT QF : Hp → Prop) (W : Nat → Nat → Hp → Prop) : Prop := ∀ i m H, W i m H →
  (J.stop i H ∧ QT H) ∨ (J.go i H ∧ ∃ Nx : Hp → Prop, (∀ H', Nx H' → ∃ m', m' < m ∧ W (i + 1) m' H') ∧ ∀ x H', J.yld i H x H' → g x (wipe σ vs) H' fun σ2 H2 => wipe σ2 vs = wipe σ vs ∧ tt σ2 H2 fun b H3 =>
    if b = true then te σ2 H3 fun y H4 => ∃ c, y = .bl c ∧ (if c = d then Nx H4 else QF H4) else Nx H3)
section
variable {X : Cx} {A B : Around} {s3 : Shared} {H3 : Hp} {cenv : Env} {fp : List Addr} {σ : L2.St}
theorem seg_loop {elt tg iter : Expr} {ifs : List Expr} {scope : Scope} {pos : Pos} {it : Addr} {J : It} {tn : Nat → Heap → Prop} {g : TG} {tt : TT} {te : TE} {vs : List Nat} {d : Bool} {QT QF : Hp → Prop} {W : Nat → Nat → Hp → Prop} {pz : List (Addr × Obj)}
    (T : Turn X.prog X.w X.K tg J fp it tn) (hc : X.calm = true) (hov : B.over (.compLoop (.GeneratorExp elt [⟨tg, iter, ifs, 0⟩] scope pos) 0 (.ref it) .none cenv) [] = A) (hco : cenv.scope.isCoroutine = false) (hpz : ∀ p ∈ pz, p.1 ∉ fp)
    (pg : PG (gcx X A s3 H3 cenv fp) tg g) (pt : PTs (gcx X A s3 H3 cenv fp) ifs tt) (pe : PE (gcx X A s3 H3 cenv fp) elt te) (turn : Turns J g tt te vs σ d QT QF W) :
    ∀ (m n i : Nat) (s₀ s : Shared) (H : Hp), m < n → Inv (gcx X A s3 H3 cenv fp) pz (wipe σ vs) H s → tn i s.heap → (∀ b ∈ fp, H b = none) → W i m H →
      Seg (model X.prog X.w) B (RG (gcx X A s3 H3 cenv fp) pz (wipe σ vs) QT) (YG (gcx X A s3 H3 cenv fp) pz d QF) n s₀
        (.compLoop (.GeneratorExp elt [⟨tg, iter, ifs, 0⟩] scope pos) 0 (.ref it) .none cenv)
        ((model X.prog X.w).den (.compLoop (.GeneratorExp elt [⟨tg, iter, ifs, 0⟩] scope pos) 0 (.ref it) .none cenv)) [] s := by
  have stat : ∀ {σ' : L2.St} {H' : Hp} {s' : Shared}, Inv (gcx X A s3 H3 cenv fp) pz σ' H' s' → (∀ b ∈ fp, H' b = none) → ∀ b ∈ fp, FpOk (gcx X A s3 H3 cenv fp) pz H' b := fun {σ' H' s'} I' hn b hb =>
    ⟨hn b hb, (I'.ok.exf b hb).1, I'.ok.exfs b hb, .inl hb, fun x c e => (I'.ok.exf b hb).2 x c e, fun p hp z => hpz p (by simpa using hp) (by rw [z]; exact hb)⟩
  intro m
  induction m using Nat.strongRecOn with
  | ind m ih =>
    intro n i s₀ s H hmn I st nf w
    show Seg _ B _ _ _ s₀ _ ((compTurn (.GeneratorExp elt [⟨tg, iter, ifs, 0⟩] scope pos) 0 (.ref it) .none cenv).onRaise (leaving cenv)) [] s
    rw [compTurn_gen, Sem.onRaise_eq_wrap]
    refine seg_bind_wrap (wpAny_standAt ?_)
    rcases turn i m H w with ⟨stop, qq⟩ | ⟨go, Nx, hNx, step⟩
    · refine seg_bind_wrap ?_
      rw [hov]
      refine wpAny_mono (T.done (gcx X A s3 H3 cenv fp) rfl rfl rfl hc i pz s _ H (fun _ _ => False) I (stat I nf) st stop) (fun r s6 hx => ?_) fun _ _ e => e.elim
      obtain ⟨rfl, I6⟩ := hx
      exact seg_end (.ok .next) (.inl ⟨.inr rfl, H, I6, qq⟩)
    · refine seg_bind_wrap ?_
      rw [hov]
      refine wpAny_mono (T.item (gcx X A s3 H3 cenv fp) rfl rfl rfl hc i pz s _ H (fun _ _ => False) I (stat I nf) st go) (fun r s6 hx => ?_) fun _ _ e => e.elim
      obtain ⟨u, rfl, h6⟩ := hx
      refine seg_bind_wrap ?_
      rw [hov]
      refine wpAny_mono h6 (fun _ s7 hx => ?_) fun _ _ e => e.elim
      obtain ⟨x, H7, I7, r7, y7, st7, n7⟩ := hx
      have I7' := I7.pinned (stat I7 n7) (T.obj _ _ st7)
      refine seg_bind_wrap ?_
      rw [hov]
      refine wpAny_mono (pg.run _ s7 _ H7 x u _ I7' r7 (step x H7 y7)) (fun _ s8 hx => ?_) fun _ _ e => e.elim
      obtain ⟨σ8, H8, I8, hw8, q8⟩ := hx
      refine seg_bind_wrap ?_
      rw [hov]
      refine wpAny_mono (pt.run _ s8 σ8 H8 _ I8 q8) (fun b s9 hx => ?_) fun _ _ e => e.elim
      obtain ⟨H9, I9, q9⟩ := hx
      -- the turn's end
      have fin : ∀ {s' : Shared} {H' : Hp} {m' : Nat}, Inv (gcx X A s3 H3 cenv fp) (pz ++ pinsAt fp s7.heap) σ8 H' s' → Inv (gcx X A s3 H3 cenv fp) pz (wipe σ vs) H' s' ∧ tn (i + 1) s'.heap ∧ ∀ b ∈ fp, H' b = none := fun {s' H' m'} I' => by
        have pin' : ∀ b ∈ fp, ∀ o, s7.heap.get? b = some o → s'.heap.get? b = some o ∧ H' b = none := fun b hb o e =>
          let z := I'.pin (b, o) (List.mem_append_right _ (List.mem_append_right _ (mem_pinsAt hb e)))
          ⟨z.1, z.2.1⟩
        have hl : (wipe σ vs).length = σ8.length := by rw [← hw8, wipe_length]
        refine ⟨(I'.unpinned (pins := pz)).weak hl (fun j v e => ?_), T.keep _ _ _ st7 fun b hb o e => (pin' b hb o e).1, fun b hb => ?_⟩
        · rw [← hw8] at e
          exact (wipe_some e).1
        · obtain ⟨o, e, _⟩ := T.obj _ _ st7 b hb
          exact (pin' b hb o e).2
      cases b with
      | false =>
        simp only [Bool.false_eq_true, if_false] at q9 ⊢
        obtain ⟨m', hm, w'⟩ := hNx H9 q9
        obtain ⟨f1, f2, f3⟩ := fin (m' := m') I9
        exact seg_again rfl (ih m' hm n (i + 1) s₀ _ H9 (by omega) f1 f2 f3 w')
      | true =>
        simp only [if_true] at q9 ⊢
        have hy : ∀ v, yieldOut cenv v = yieldValue v := fun v => by simp only [yieldOut, hco, Bool.false_eq_true, if_false]
        simp only [hy]
        rw [Sem.bind_eq_wrap', Sem.bind_eq_wrap', Sem.wrap_wrap, Sem.wrap_wrap]
        refine seg_wrap ?_
        rw [hov]
        refine wpAny_mono (pe.run _ s9 σ8 H9 _ I9 q9) (fun z s10 hx => ?_) fun _ _ e => e.elim
        obtain ⟨yv, H10, I10, r10, c, rfl, nx⟩ := hx
        cases (show z = Value.bool c from r10)
        obtain ⟨n, rfl⟩ : ∃ n', n = n' + 1 := ⟨n - 1, by omega⟩
        refine seg_at (seg_yield rfl rfl rfl ⟨c, σ8, H10, rfl, I10.unpinned, ?_⟩)
        by_cases hcd : c = d
        · rw [if_pos hcd] at nx ⊢
          intro s'' hk
          obtain ⟨m', hm, w'⟩ := hNx H10 nx
          obtain ⟨f1, f2, f3⟩ := fin (m' := m') (Inv.keptS I10 hk)
          exact seg_again rfl (ih m' hm n (i + 1) s'' s'' H10 (by omega) f1 f2 f3 w')
        · rw [if_neg hcd] at nx ⊢
          exact nx
theorem seg_start {elt tg iter : Expr} {ifs : List Expr} {scope : Scope} {pos : Pos} {it : Addr} {J : It} {tn : Nat → Heap → Prop} {R : GenEnd} {Y : Protocol} {n : Nat} {s₀ s : Shared}
    (T : Turn X.prog X.w X.K tg J fp it tn) (st : tn 0 s.heap)
    (loop : Seg (model X.prog X.w) B R Y n s₀ (.compLoop (.GeneratorExp elt [⟨tg, iter, ifs, 0⟩] scope pos) 0 (.ref it) .none cenv) ((model X.prog X.w).den (.compLoop (.GeneratorExp elt [⟨tg, iter, ifs, 0⟩] scope pos) 0 (.ref it) .none cenv)) [] s) :
    Seg (model X.prog X.w) B R Y n s₀ (.compStart (.GeneratorExp elt [⟨tg, iter, ifs, 0⟩] scope pos) 0 (.ref it) .none cenv) ((model X.prog X.w).den (.compStart (.GeneratorExp elt [⟨tg, iter, ifs, 0⟩] scope pos) 0 (.ref it) .none cenv)) [] s := by
  show Seg _ B _ _ _ s₀ _ ((compStart (.GeneratorExp elt [⟨tg, iter, ifs, 0⟩] scope pos) 0 (.ref it) .none cenv).onRaise (leaving cenv)) [] s
  unfold compStart
  rw [Sem.onRaise_eq_wrap]
  show Seg _ B _ _ _ s₀ _ ((ask >>= _).wrap _ _ _ _) [] s
  refine seg_bind_wrap (wpAny_askSetting ?_)
  split
  · exact seg_again rfl loop
  · first
      | exact seg_bind_wrap (wpAny_rule (seg_bind_wrap (wpAny_standAt (seg_bind_wrap (T.self _ 0 s _ _ st (seg_again rfl loop))))))
      | (refine seg_bind_wrap (wpAny_rule ?_); show Seg _ B _ _ _ s₀ _ ((standAt iter.pos >>= _).wrap _ _ _ _) [] s; exact seg_bind_wrap (wpAny_standAt (seg_bind_wrap (T.self _ 0 s _ _ st (seg_again rfl loop)))))
end
/-- the consumer: all's loop by d = true, any's by d = false -/
def loopId (d : Bool) : String := if d then "all.loop" else "any.loop"
theorem walk_loop {X : Cx} {pz : List (Addr × Obj)} {σ0 : L2.St} {QT QF : Hp → Prop} {A : Around} {a : Addr} {g : Nat} {go : Obj} (d : Bool) {R : Result → Shared → Prop} (hpz : (a, go) ∈ pz) (hgo : ∀ h : Heap, h.get? a = some go → h.IsGen a g)
    (hh : A.handled = none) (hd : A.depth < recursionLimit)
    (hT : ∀ H' s1 s', Inv X pz σ0 H' s1 → QT H' → Kept s1 s' → R (.ok (.ret (.bool d))) s') (hF : ∀ σ' H' s1 s', Inv X pz σ' H' s1 → QF H' → Kept s1 s' → R (.ok (.ret (.bool (!d)))) s') :
    ∀ (n : Nat) (s : Shared), s.heap.IsGen a g → s.heap.NoLimit →
      (∃ gs, s.gens[g]? = some gs ∧ gs.Goes (model X.prog X.w) A.in1.in1 (RG X pz σ0 QT) (YG X pz d QF) n (.send .none) (s.setGen g .running)) →
      codeAny (model X.prog X.w) A (.builtin (loopId d) ⟨[.ref a], []⟩) R s := by
  intro n
  induction n with
  | zero =>
    intro s hg hl ⟨gs, hgs, hgo'⟩
    cases d
    · show codeAny (model X.prog X.w) A (.builtin "any.loop" ⟨[.ref a], []⟩) R s
      refine codeAny_builtin F.entry_any_loop ?_
      rw [Around.under_plainId F.plain_any_loop _]
      show wpAny _ A.in1 (pyNext (.ref a) >>= _) _ _ s
      refine wpAny_bind (next_genG (A := A.in1) (Er := fun _ _ => False) hh hl hd hg hgs hgo' (fun v s₁ gs' hbare hv => ?_) (fun s₁ hp h' hk => ?_) fun e s₁ he => he.elim)
      · obtain ⟨c, σ', H', rfl, I, hq⟩ := hv
        by_cases hcd : c = false
        · rw [if_pos hcd] at hq
          exact (hq s₁ ⟨rfl, I.bare, fun _ _ e => e⟩).elim
        · rw [if_neg hcd] at hq
          have hc : c = true := by cases c <;> simp at hcd ⊢
          subst hc
          refine wpAny_bind (wpAny_holding (wpAny_truthy_bool ?_))
          refine wpAny_bind (wpAny_letGo ?_)
          simp only [if_true]
          refine wpAny_bind (wpAny_rule (wpAny_pure ?_))
          exact hF σ' H' s₁ _ I hq ⟨rfl, allBare_setGen I.bare hbare, fun _ _ e => e⟩
      · obtain ⟨H', I, q⟩ := hp
        refine wpAny_bind (wpAny_rule (wpAny_pure ?_))
        exact hT H' s₁ _ I q ⟨rfl, allBare_setGen I.bare rfl, hk⟩
    · show codeAny (model X.prog X.w) A (.builtin "all.loop" ⟨[.ref a], []⟩) R s
      refine codeAny_builtin F.entry_all_loop ?_
      rw [Around.under_plainId F.plain_all_loop _]
      show wpAny _ A.in1 (pyNext (.ref a) >>= _) _ _ s
      refine wpAny_bind (next_genG (A := A.in1) (Er := fun _ _ => False) hh hl hd hg hgs hgo' (fun v s₁ gs' hbare hv => ?_) (fun s₁ hp h' hk => ?_) fun e s₁ he => he.elim)
      · obtain ⟨c, σ', H', rfl, I, hq⟩ := hv
        by_cases hcd : c = true
        · rw [if_pos hcd] at hq
          exact (hq s₁ ⟨rfl, I.bare, fun _ _ e => e⟩).elim
        · rw [if_neg hcd] at hq
          have hc : c = false := by cases c <;> simp at hcd ⊢
          subst hc
          refine wpAny_bind (wpAny_holding (wpAny_truthy_bool ?_))
          refine wpAny_bind (wpAny_letGo ?_)
          simp only [Bool.false_eq_true, if_false]
          refine wpAny_bind (wpAny_rule (wpAny_pure ?_))
          exact hF σ' H' s₁ _ I hq ⟨rfl, allBare_setGen I.bare hbare, fun _ _ e => e⟩
      · obtain ⟨H', I, q⟩ := hp
        refine wpAny_bind (wpAny_rule (wpAny_pure ?_))
        exact hT H' s₁ _ I q ⟨rfl, allBare_setGen I.bare rfl, hk⟩
  | succ n ih =>
    intro s hg hl ⟨gs, hgs, hgo'⟩
    have hgl : g < s.gens.size := (Array.getElem?_eq_some_iff.mp hgs).1
    have again : ∀ (σ' : L2.St) (H' : Hp) (s₁ : Shared) (gs' : GenState), gs'.bare = true → Inv X pz σ' H' s₁ → g + 1 ≤ (s₁.setGen g gs').gens.size → (∀ s', Kept s₁ s' → gs'.Goes (model X.prog X.w) A.in1.in1 (RG X pz σ0 QT) (YG X pz d QF) n (.send .none) s') →
        codeAny (model X.prog X.w) A (.builtin (loopId d) ⟨[.ref a], []⟩) R (s₁.setGen g gs') := fun σ' H' s₁ gs' hbare I hsz hq => by
      have hsz1 : g < s₁.gens.size := by
        have q : (s₁.setGen g gs').gens.size = s₁.gens.size := setGen_size _ _ _
        omega
      refine ih (s₁.setGen g gs') (hgo _ (I.pin (a, go) (List.mem_append_right _ hpz)).1) I.nolimit ⟨gs', setGen_at hsz1, hq _ ⟨rfl, allBare_setGen (s := s₁.setGen g gs') (allBare_setGen I.bare hbare) rfl, fun _ _ e => e⟩⟩
    cases d
    · show codeAny (model X.prog X.w) A (.builtin "any.loop" ⟨[.ref a], []⟩) R s
      refine codeAny_builtin F.entry_any_loop ?_
      rw [Around.under_plainId F.plain_any_loop _]
      show wpAny _ A.in1 (pyNext (.ref a) >>= _) _ _ s
      refine wpAny_bind (wpAny_gsz (n := g + 1) hgl (next_genG (A := A.in1) (Er := fun _ _ => False) hh hl hd hg hgs hgo' (fun v s₁ gs' hbare hv => ?_) (fun s₁ hp h' hk => ?_) fun e s₁ he => he.elim))
      · intro hsz
        obtain ⟨c, σ', H', rfl, I, hq⟩ := hv
        refine wpAny_bind (wpAny_holding (wpAny_truthy_bool ?_))
        refine wpAny_bind (wpAny_letGo ?_)
        cases c with
        | false =>
          rw [if_pos rfl] at hq
          simp only [Bool.false_eq_true, if_false]
          exact wpAny_pure ⟨plainId_quiet F.plain_any_loop _, again σ' H' s₁ gs' hbare I hsz hq⟩
        | true =>
          rw [if_neg (by decide)] at hq
          simp only [if_true]
          refine wpAny_bind (wpAny_rule (wpAny_pure ?_))
          exact hF σ' H' s₁ _ I hq ⟨rfl, allBare_setGen I.bare hbare, fun _ _ e => e⟩
      · intro hsz
        obtain ⟨H', I, q⟩ := hp
        refine wpAny_bind (wpAny_rule (wpAny_pure ?_))
        exact hT H' s₁ _ I q ⟨rfl, allBare_setGen I.bare rfl, hk⟩
    · show codeAny (model X.prog X.w) A (.builtin "all.loop" ⟨[.ref a], []⟩) R s
      refine codeAny_builtin F.entry_all_loop ?_
      rw [Around.under_plainId F.plain_all_loop _]
      show wpAny _ A.in1 (pyNext (.ref a) >>= _) _ _ s
      refine wpAny_bind (wpAny_gsz (n := g + 1) hgl (next_genG (A := A.in1) (Er := fun _ _ => False) hh hl hd hg hgs hgo' (fun v s₁ gs' hbare hv => ?_) (fun s₁ hp h' hk => ?_) fun e s₁ he => he.elim))
      · intro hsz
        obtain ⟨c, σ', H', rfl, I, hq⟩ := hv
        refine wpAny_bind (wpAny_holding (wpAny_truthy_bool ?_))
        refine wpAny_bind (wpAny_letGo ?_)
        cases c with
        | true =>
          rw [if_pos rfl] at hq
          simp only [if_true]
          exact wpAny_pure ⟨plainId_quiet F.plain_all_loop _, again σ' H' s₁ gs' hbare I hsz hq⟩
        | false =>
          rw [if_neg (by decide)] at hq
          simp only [Bool.false_eq_true, if_false]
          refine wpAny_bind (wpAny_rule (wpAny_pure ?_))
          exact hF σ' H' s₁ _ I hq ⟨rfl, allBare_setGen I.bare hbare, fun _ _ e => e⟩
      · intro hsz
        obtain ⟨H', I, q⟩ := hp
        refine wpAny_bind (wpAny_rule (wpAny_pure ?_))
        exact hT H' s₁ _ I q ⟨rfl, allBare_setGen I.bare rfl, hk⟩
end Gx

set_option Elab.async false
set_option linter.all false
set_option maxRecDepth 100000
set_option maxHeartbeats 4000000
namespace Gx
open PySem PySem.Spec PyProof.Rows L2 GenW
theorem over_gen {B : Around} {elt : Expr} {gens : List Comprehension} {scope : Scope} {pos : Pos} {it acc : Value} {env : Env} {st : List Env} (h : B.frames = some st) :
    (B.over (.compLoop (.GeneratorExp elt gens scope pos) 0 it acc env) []).frames = some (env :: st) := by
  have e1 : (B.over (.compLoop (.GeneratorExp elt gens scope pos) 0 it acc env) []).frames = pushEnvs (Code.envs (.compLoop (.GeneratorExp elt gens scope pos) 0 it acc env)) (pushEnvs (envsOf (([] : List Frame).map Frame.where_)) B.frames) := rfl
  rw [e1, h]
  rfl
/-- the reading: by d the walk goes on -/
def tQX (d : Bool) (wi : TI) (g : TG) (tt : TT) (te : TE) (vs : List Nat) (P : Addr) : TE := fun σ H Q => wi σ H fun J H1 => GxR.TabG H1 P ∧ ∀ H2, GxR.Tabbed P H1 H2 → ∃ W : Nat → Nat → Hp → Prop, (∃ m, W 0 m H2) ∧
  Turns J g tt te vs σ d (fun H => Q (.bl d) H) (fun H => Q (.bl (!d)) H) W
section
variable {X : Cx} {pins : List (Addr × Obj)} {σ : L2.St} {H : Hp} {s : Shared}
theorem gen_core {c P : Addr} {elt tg iter : Expr} {ifs : List Expr} {gpos : Pos} {scope : Scope} {own : List (Str × Nat)} {wi : TI} {g : TG} {tt : TT} {te : TE} {k : Nat} {d : Bool} {Q : VK}
    (hr : Room (k + 1) X.A) (hc : X.calm = true) (hN : X.N.Nodup) (TB : GxR.TabB X.base X.mg c P) (hcode : X.env.code = .ref c) (ok : BlkOk X.N X.env.scope scope own) (S : GenK scope) (hi : PI X tg iter wi) (hs : ∀ v, genFold iter X.env v = pure v)
    (hg : ∀ (A : Around) (s : Shared) (H : Hp) (C : Addr) (code : Value) (fp : List Addr), Room k A → PG (gcx X A s H (genEnv scope (cloFrom X.env.cells scope.names []) C code builtinsNs X.env) fp) tg g)
    (ht : ∀ (A : Around) (s : Shared) (H : Hp) (C : Addr) (code : Value) (fp : List Addr), Room k A → PTs (gcx X A s H (genEnv scope (cloFrom X.env.cells scope.names []) C code builtinsNs X.env) fp) ifs tt)
    (he : ∀ (A : Around) (s : Shared) (H : Hp) (C : Addr) (code : Value) (fp : List Addr), Room k A → PE (gcx X A s H (genEnv scope (cloFrom X.env.cells scope.names []) C code builtinsNs X.env) fp) elt te)
    (I : Inv X pins σ H s) (h : tQX d wi g tt te (own.map (·.2)) P σ H Q) :
    wpAny (model X.prog X.w) X.A (eval (.GeneratorExp elt [⟨tg, iter, ifs, 0⟩] scope gpos) X.env) (fun v s5 => ∃ (a : Addr) (gn : Nat), v = .ref a ∧ s5.heap.IsGen a gn ∧
      codeAny (model X.prog X.w) X.A (.builtin (loopId d) ⟨[.ref a], []⟩) (fun r s' => ∃ b, r = .ok (.ret (.bool b)) ∧ EP X pins σ Q (.bool b) s') s5) X.xe s := by
  have hfree : ∀ y ∈ scope.names, y.2 = .free → ∃ c, X.env.cells.lookup y.1 = some c := fun y hy e => by
    rcases ok.free y hy e with k | k
    · exact I.ok.has _ (.inl k)
    · exact I.ok.has _ (.inr k)
  refine wpAny_GeneratorExp_make S.co (closure_ok hfree) S.cell S.dot ok.kind hr.depth (wpAny_mono (hi.run pins s σ H _ I h) (fun xv s1 h1 => wpAny_mono h1 (fun itv s2 h2 => ?_) fun _ _ e => e) fun _ _ e => e) hs
  obtain ⟨it, fp, tn, J, H1, rfl, I2, T, st2, f2, ⟨ps, hP, htr⟩, hW⟩ := h2
  refine ⟨I2.nolimit, ?_⟩
  have tabS : s2.heap.get? P = some { cls := .none, data := .fields ps } := I2.hok P _ hP
  have hd : PySem.W.CodeHd s2.heap c P := TB.code.keeps fun b u e => I2.bk b u e
  have key : ∀ (REST : Value → Shared → Prop), (∀ (cv : Value) (h3 : Heap) (tk : Nat) (more : Array Value), Heap.ExtBut P s2.heap h3 → s2.heap.objs.size ≤ h3.objs.size → h3.get? P = some { cls := .none, data := .fields (ps ++ more) } → TriplesOk (ps ++ more).toList → REST cv { s2 with heap := h3, toks := tk }) →
      wpAny (model X.prog X.w) X.A (genexprCode X.env gpos (X.env.qual ++ "<genexpr>") scope) REST X.xe s2 := fun REST fin => by
    cases hf : codeAmong gpos ps.toList with
    | some cv =>
      have e : ps = ps ++ #[] := by simp
      exact wpAny_genexprCode_hit hcode (hd.code tabS htr) hf (fin cv _ s2.toks #[] (Heap.ExtBut.refl _ _) (Nat.le_refl _) (e ▸ tabS) (e ▸ htr))
    | none =>
      refine wpAny_genexprCodeX hcode (hd.code tabS htr) (hd.tab tabS) hf fun c' h3 tk ex ge lt ic _ ta _ => ?_
      obtain ⟨_, _, _, _, _, _, _, _, _, _, _, _, _, _, _, _, _, _, _, tr, _⟩ := ic
      exact fin _ h3 tk _ ex (Nat.le_trans ge (Nat.le_of_lt lt)) ta.2 tr
  refine key _ fun cv h3 tk more ex ge tab3 tr3 => ?_
  obtain ⟨bm, ob, b1, b2, b3, b4, b5, b6, b7, b8⟩ := TB.bm
  refine wpAny_builtinsFor (m := X.mg) (by rw [I2.ok.glob]; exact (I2.mod.glob.keeps I2.bk).extBut ex TB.gP) b1 b2 (ex _ _ b4 (I2.bk _ _ b5)) b6 b7 b8 ?_
  intro h' hn' hs'
  generalize hs3 : ({ s2 with heap := h3, toks := tk } : Shared) = s3 at hn' hs' ⊢
  have e3 : s3.heap = h3 := by rw [← hs3]
  have I3 : Inv X pins σ (upd H1 P (.tbl (ps ++ more))) s3 := by
    rw [← hs3]
    exact GxR.inv_tab (more := more) (h' := h3) (g' := s2.gens) (d' := s2.drawn) (t' := tk) I2 hP (fun b o n e => ex b o n e) tab3 I2.bare
  obtain ⟨W, ⟨m0, w0⟩, turn⟩ := hW _ ⟨⟨ps ++ more, upd_same, tr3⟩, fun b hb => upd_ne hb⟩
  have neP : ∀ b ∈ fp, b ≠ P := fun b hb z => by
    have := (f2 b hb).1
    rw [z, hP] at this
    cases this
  have f3 : ∀ b ∈ fp, FpOk X pins (upd H1 P (.tbl (ps ++ more))) b ∧ b < s3.heap.objs.size := fun b hb => by
    obtain ⟨o, e, _⟩ := T.obj _ _ st2 b hb
    refine ⟨⟨?_, (f2 b hb).2⟩, by rw [e3]; exact Nat.lt_of_lt_of_le (Heap.lt_size e) ge⟩
    rw [upd_ne (neP b hb)]
    exact (f2 b hb).1
  have st3 : tn 0 s3.heap := T.keep _ _ _ st2 fun b hb o e => by rw [e3]; exact ex b o (neP b hb) e
  generalize hH3 : upd H1 P (.tbl (ps ++ more)) = H3 at I3 w0 f3
  have nf : ∀ b ∈ fp, H3 b = none := fun b hb => (f3 b hb).1.1
  -- the generator's object
  generalize hgo : ({ cls := .type "generator", data := .fields #[.int s3.gens.size 0, .str "<genexpr>" (s3.toks + 1), .str (X.env.qual ++ "<genexpr>") (s3.toks + 1 + 1)] } : Obj) = go
  have sz' : h'.objs.size = s3.heap.objs.size + 1 := by rw [hs'.1, Heap.size_push]
  generalize hs5 : ({ s3 with gens := s3.gens.push (.fresh (.compStart (.GeneratorExp elt [⟨tg, iter, ifs, 0⟩] scope gpos) 0 (.ref it) .none (genEnv scope (cloFrom X.env.cells scope.names []) s3.heap.objs.size cv builtinsNs X.env))), toks := s3.toks + 1 + 1 + 1, heap := h'.push go } : Shared) = s5
  have h5 : s5.heap = h'.push go := by rw [← hs5]
  have kp : Kept s3 s5 := by
    refine ⟨by rw [← hs5], by rw [← hs5]; exact AllBare.push I3.bare rfl, fun b o e => ?_⟩
    rw [h5]
    exact Heap.get?_push_of_some _ (hs'.extBut b o (Nat.ne_of_lt (Heap.lt_size e)) (Heap.get?_push_of_some _ e))
  have hga : s5.heap.get? h'.objs.size = some go := by rw [h5, ← hgo]; exact Heap.get?_push_size _ rfl
  have isg : ∀ h : Heap, h.get? h'.objs.size = some go → h.IsGen h'.objs.size s3.gens.size := fun h e => ⟨go, _, _, e, by rw [← hgo], by rw [← hgo], by rw [← hgo]⟩
  have hgs : s5.gens[s3.gens.size]? = some (.fresh (.compStart (.GeneratorExp elt [⟨tg, iter, ifs, 0⟩] scope gpos) 0 (.ref it) .none (genEnv scope (cloFrom X.env.cells scope.names []) s3.heap.objs.size cv builtinsNs X.env))) := by
    rw [← hs5]
    exact Array.getElem?_push_size ..
  have hns : s5.heap.Ns s3.heap.objs.size (fun y => if y = ".0" then some (.ref it) else none) := by rw [h5]; exact hn'.push _
  have hfrX : X.A.frames = some X.stack := I3.ok.frames
  have rm : Room k (X.A.in1.in1.over (.compLoop (.GeneratorExp elt [⟨tg, iter, ifs, 0⟩] scope gpos) 0 (.ref it) .none (genEnv scope (cloFrom X.env.cells scope.names []) s3.heap.objs.size cv builtinsNs X.env)) []) := by
    have h1 := hr.dp
    have h2 := hr.un
    refine ⟨hr.hd, ?_, ?_⟩
    · show X.A.depth + 0 + 1 + 3 * k + 5 < _
      omega
    · show X.A.units + 1 + 1 + 0 + 3 + 16 * k + 200 < _
      omega
  have Ig := gen_start I3 ok S hN f3 rm.hd (over_gen (show X.A.in1.in1.frames = some X.stack from hfrX)) kp hns
  have aC : h'.objs.size ≠ s3.heap.objs.size := by omega
  have Ig2 : Inv (gcx X (X.A.in1.in1.over (.compLoop (.GeneratorExp elt [⟨tg, iter, ifs, 0⟩] scope gpos) 0 (.ref it) .none (genEnv scope (cloFrom X.env.cells scope.names []) s3.heap.objs.size cv builtinsNs X.env)) []) s3 H3 (genEnv scope (cloFrom X.env.cells scope.names []) s3.heap.objs.size cv builtinsNs X.env) fp) [(h'.objs.size, go)] (wipe σ (own.map (·.2))) H3 s5 := by
    refine Ig.pins_of fun p hp => ?_
    rw [List.mem_singleton.mp hp]
    refine ⟨hga, I3.hok.fresh (by omega), aC, fun z => ?_, fun v q => by rw [← hgo] at q; cases q⟩
    rcases List.mem_cons.mp (I3.stkSub _ z) with z | z
    · have z : h'.objs.size = X.env.locals := z
      have q : h'.objs.size < s3.heap.objs.size := by rw [z]; exact I3.lt
      omega
    · exact I3.nofs (by omega) z
  have hpz : ∀ p ∈ [(h'.objs.size, go)], p.1 ∉ fp := fun p hp z => by
    rw [List.mem_singleton.mp hp] at z
    have q : h'.objs.size < s3.heap.objs.size := (f3 _ z).2
    omega
  have back : ∀ (σ' : L2.St) (H' : Hp) (s1 s' : Shared), Inv (gcx X (X.A.in1.in1.over (.compLoop (.GeneratorExp elt [⟨tg, iter, ifs, 0⟩] scope gpos) 0 (.ref it) .none (genEnv scope (cloFrom X.env.cells scope.names []) s3.heap.objs.size cv builtinsNs X.env)) []) s3 H3 (genEnv scope (cloFrom X.env.cells scope.names []) s3.heap.objs.size cv builtinsNs X.env) fp) [(h'.objs.size, go)] σ' H' s1 → Kept s1 s' → Inv X pins σ H' s' := fun σ' H' s1 s' J1 k1 => by
    have J := Inv.keptS J1 k1
    exact I3.call' (ch := fp) J.os J.base J.hok J.bare fun b hb => ⟨(f3 b hb).1.2.2.2.1, (f3 b hb).1.2.1, (f3 b hb).1.2.2.2.2.1, (f3 b hb).1.2.2.2.2.2⟩
  refine ⟨_, s3.gens.size, rfl, isg _ hga, walk_loop (X := gcx X (X.A.in1.in1.over (.compLoop (.GeneratorExp elt [⟨tg, iter, ifs, 0⟩] scope gpos) 0 (.ref it) .none (genEnv scope (cloFrom X.env.cells scope.names []) s3.heap.objs.size cv builtinsNs X.env)) []) s3 H3 (genEnv scope (cloFrom X.env.cells scope.names []) s3.heap.objs.size cv builtinsNs X.env) fp) (pz := [(h'.objs.size, go)]) (σ0 := wipe σ (own.map (·.2))) (QT := fun H => Q (.bl d) H) (QF := fun H => Q (.bl (!d)) H) d (List.mem_singleton.mpr rfl) isg hr.hd hr.depth (fun H' s1 s' J1 q k1 => ⟨d, rfl, .bl d, H', back _ H' s1 s' J1 k1, rfl, q⟩) (fun σ' H' s1 s' J1 q k1 => ⟨!d, rfl, .bl (!d), H', back σ' H' s1 s' J1 k1, rfl, q⟩) (m0 + 1) s5 (isg _ hga) Ig2.nolimit ⟨_, hgs, rfl, ?_⟩⟩
  have k6 : Kept s5 (s5.setGen s3.gens.size .running) := ⟨rfl, allBare_setGen kp.bare rfl, fun _ _ e => e⟩
  have st5 : tn 0 (s5.setGen s3.gens.size .running).heap := T.keep _ _ _ st3 fun b hb o e => kp.keep b o e
  exact seg_start T st5 (seg_loop T hc rfl S.co hpz (hg _ _ _ _ _ _ rm) (ht _ _ _ _ _ _ rm) (he _ _ _ _ _ _ rm) turn m0 (m0 + 1) 0 _ _ H3 (Nat.lt_succ_self _) (Inv.keptS Ig2 k6) st5 nf w0)
theorem pe_allX {c P : Addr} {elt tg iter : Expr} {ifs : List Expr} {gpos p pos : Pos} {scope : Scope} {own : List (Str × Nat)} {wi : TI} {g : TG} {tt : TT} {te : TE} {k : Nat}
    (hr : Room (k + 1) X.A) (hgl : Gl X "all") (hm : X.mg "all" = none) (hc : X.calm = true) (hN : X.N.Nodup) (TB : GxR.TabB X.base X.mg c P) (hcode : X.env.code = .ref c) (ok : BlkOk X.N X.env.scope scope own) (S : GenK scope) (hi : PI X tg iter wi)
    (hg : ∀ (A : Around) (s : Shared) (H : Hp) (C : Addr) (code : Value) (fp : List Addr), Room k A → PG (gcx X A s H (genEnv scope (cloFrom X.env.cells scope.names []) C code builtinsNs X.env) fp) tg g)
    (ht : ∀ (A : Around) (s : Shared) (H : Hp) (C : Addr) (code : Value) (fp : List Addr), Room k A → PTs (gcx X A s H (genEnv scope (cloFrom X.env.cells scope.names []) C code builtinsNs X.env) fp) ifs tt)
    (he : ∀ (A : Around) (s : Shared) (H : Hp) (C : Addr) (code : Value) (fp : List Addr), Room k A → PE (gcx X A s H (genEnv scope (cloFrom X.env.cells scope.names []) C code builtinsNs X.env) fp) elt te)
    (hs : ∀ v, genFold iter X.env v = pure v := by intro _; rfl)
    (hst : starEach [.GeneratorExp elt [⟨tg, iter, ifs, 0⟩] scope gpos] X.env = (false, eval (.GeneratorExp elt [⟨tg, iter, ifs, 0⟩] scope gpos) X.env) :: starEach [] X.env := by rfl) :
    PE X (.Call (.Name "all" p) [.GeneratorExp elt [⟨tg, iter, ifs, 0⟩] scope gpos] [] pos) (tQX true wi g tt te (own.map (·.2)) P) := by
  refine ⟨fun pins s σ H Q I h => ?_⟩
  refine wpAny_Call_Name_kw (ld_blt I hgl hm boot_all (PyProof.Rows.callWith_builtin1 ?_ hst (by rfl)))
  rw [hst]
  show wpAny _ _ (spliced ((false, _) :: backTo pos (starEach [] X.env))) _ _ s
  refine Calls.spliced_cons (wpAny_mono (gen_core hr hc hN TB hcode ok S hi hs hg ht he I h) (fun v s5 hx => ?_) fun _ _ e => e)
  obtain ⟨a, gn, rfl, hgn, hcd⟩ := hx
  refine Calls.spliced_nil ?_
  refine call_function_tree F.kind_all F.plain_all F.entry_all (F.args_all1 _) ?_
  unfold Builtin.«all»
  refine wpAny_bind (m := oneArg "all" _) (wpAny_pure ?_)
  refine wpAny_bind (wpAny_pyIter_gen hgn ?_)
  exact wpAny_pure ⟨plainId_quiet F.plain_all_loop _, codeAny_mono hcd fun r s' hx => by obtain ⟨b, rfl, q⟩ := hx; exact q⟩
theorem pe_anyX {c P : Addr} {elt tg iter : Expr} {ifs : List Expr} {gpos p pos : Pos} {scope : Scope} {own : List (Str × Nat)} {wi : TI} {g : TG} {tt : TT} {te : TE} {k : Nat}
    (hr : Room (k + 1) X.A) (hgl : Gl X "any") (hm : X.mg "any" = none) (hc : X.calm = true) (hN : X.N.Nodup) (TB : GxR.TabB X.base X.mg c P) (hcode : X.env.code = .ref c) (ok : BlkOk X.N X.env.scope scope own) (S : GenK scope) (hi : PI X tg iter wi)
    (hg : ∀ (A : Around) (s : Shared) (H : Hp) (C : Addr) (code : Value) (fp : List Addr), Room k A → PG (gcx X A s H (genEnv scope (cloFrom X.env.cells scope.names []) C code builtinsNs X.env) fp) tg g)
    (ht : ∀ (A : Around) (s : Shared) (H : Hp) (C : Addr) (code : Value) (fp : List Addr), Room k A → PTs (gcx X A s H (genEnv scope (cloFrom X.env.cells scope.names []) C code builtinsNs X.env) fp) ifs tt)
    (he : ∀ (A : Around) (s : Shared) (H : Hp) (C : Addr) (code : Value) (fp : List Addr), Room k A → PE (gcx X A s H (genEnv scope (cloFrom X.env.cells scope.names []) C code builtinsNs X.env) fp) elt te)
    (hs : ∀ v, genFold iter X.env v = pure v := by intro _; rfl)
    (hst : starEach [.GeneratorExp elt [⟨tg, iter, ifs, 0⟩] scope gpos] X.env = (false, eval (.GeneratorExp elt [⟨tg, iter, ifs, 0⟩] scope gpos) X.env) :: starEach [] X.env := by rfl) :
    PE X (.Call (.Name "any" p) [.GeneratorExp elt [⟨tg, iter, ifs, 0⟩] scope gpos] [] pos) (tQX false wi g tt te (own.map (·.2)) P) := by
  refine ⟨fun pins s σ H Q I h => ?_⟩
  refine wpAny_Call_Name_kw (ld_blt I hgl hm boot_any (PyProof.Rows.callWith_builtin1 ?_ hst (by rfl)))
  rw [hst]
  show wpAny _ _ (spliced ((false, _) :: backTo pos (starEach [] X.env))) _ _ s
  refine Calls.spliced_cons (wpAny_mono (gen_core hr hc hN TB hcode ok S hi hs hg ht he I h) (fun v s5 hx => ?_) fun _ _ e => e)
  obtain ⟨a, gn, rfl, hgn, hcd⟩ := hx
  refine Calls.spliced_nil ?_
  refine call_function_tree F.kind_any F.plain_any F.entry_any (F.args_any1 _) ?_
  unfold Builtin.«any»
  refine wpAny_bind (m := oneArg "any" _) (wpAny_pure ?_)
  refine wpAny_bind (wpAny_pyIter_gen hgn ?_)
  exact wpAny_pure ⟨plainId_quiet F.plain_any_loop _, codeAny_mono hcd fun r s' hx => by obtain ⟨b, rfl, q⟩ := hx; exact q⟩
end
end Gx

set_option Elab.async false
set_option linter.all false
set_option maxRecDepth 100000
set_option maxHeartbeats 4000000
/-! the turns, by source -/
namespace Gx
open PySem PySem.Spec PyProof.Rows L2
theorem all_range {lo : Int} {n : Nat} {g : TG} {tt : TT} {te : TE} {vs : List Nat} {σ : L2.St} {d : Bool} {QT QF : Hp → Prop} {H2 : Hp} (Pv : Nat → Hp → Prop) (h0 : Pv 0 H2)
    (hs : ∀ i H, i < n → Pv i H → g (.int (lo + i)) (wipe σ vs) H fun σ2 H2 => wipe σ2 vs = wipe σ vs ∧ tt σ2 H2 fun b H3 => if b = true then te σ2 H3 fun y H4 => ∃ c, y = .bl c ∧ (if c = d then Pv (i + 1) H4 else QF H4) else Pv (i + 1) H3) (hd : ∀ H, Pv n H → QT H) :
    ∃ W : Nat → Nat → Hp → Prop, (∃ m, W 0 m H2) ∧ Turns (Itr lo n) g tt te vs σ d QT QF W := by
  refine ⟨fun i m H => m = n - i ∧ i ≤ n ∧ Pv i H, ⟨n, by simp, Nat.zero_le _, h0⟩, ?_⟩
  rintro i m H ⟨rfl, hi, p⟩
  by_cases hlt : i < n
  · refine .inr ⟨hlt, Pv (i + 1), fun H' p' => ⟨n - (i + 1), by omega, rfl, hlt, p'⟩, fun x H' y => ?_⟩
    obtain ⟨e, y⟩ := y
    subst e y
    exact hs i _ hlt p
  · have e : i = n := by omega
    subst e
    exact .inl ⟨Nat.le_refl _, hd H p⟩
theorem all_tup {K : PySem.W.Frag} {a : Addr} {xs : List V} {g : TG} {tt : TT} {te : TE} {vs : List Nat} {σ : L2.St} {d : Bool} {QT QF : Hp → Prop} {H2 : Hp} (Pv : Nat → Hp → Prop) (h0 : Pv 0 H2) (hl : ∀ i H, i ≤ xs.length → Pv i H → SqT K H a xs)
    (hs : ∀ i x H, xs[i]? = some x → Pv i H → g x (wipe σ vs) H fun σ2 H2 => wipe σ2 vs = wipe σ vs ∧ tt σ2 H2 fun b H3 => if b = true then te σ2 H3 fun y H4 => ∃ c, y = .bl c ∧ (if c = d then Pv (i + 1) H4 else QF H4) else Pv (i + 1) H3) (hd : ∀ H, Pv xs.length H → QT H) :
    ∃ W : Nat → Nat → Hp → Prop, (∃ m, W 0 m H2) ∧ Turns (Itt K a) g tt te vs σ d QT QF W := by
  refine ⟨fun i m H => m = xs.length - i ∧ i ≤ xs.length ∧ Pv i H, ⟨xs.length, by simp, Nat.zero_le _, h0⟩, ?_⟩
  rintro i m H ⟨rfl, hi, p⟩
  have q := hl i H hi p
  by_cases hlt : i < xs.length
  · refine .inr ⟨⟨xs, xs[i], q, by simp [hlt]⟩, Pv (i + 1), fun H' p' => ⟨xs.length - (i + 1), by omega, rfl, hlt, p'⟩, fun x H' y => ?_⟩
    obtain ⟨e, y⟩ := y
    subst e
    exact hs i x _ (y xs q) p
  · have e : i = xs.length := by omega
    subst e
    exact .inl ⟨⟨xs, q, Nat.le_refl _⟩, hd H p⟩
theorem all_list {K : PySem.W.Frag} {a : Addr} {xs : List V} {g : TG} {tt : TT} {te : TE} {vs : List Nat} {σ : L2.St} {d : Bool} {QT QF : Hp → Prop} {H2 : Hp} (Pv : Nat → Hp → Prop) (h0 : Pv 0 H2) (hl : ∀ i H, i ≤ xs.length → Pv i H → SqL K H a xs)
    (hs : ∀ i x H, xs[i]? = some x → Pv i H → g x (wipe σ vs) H fun σ2 H2 => wipe σ2 vs = wipe σ vs ∧ tt σ2 H2 fun b H3 => if b = true then te σ2 H3 fun y H4 => ∃ c, y = .bl c ∧ (if c = d then Pv (i + 1) H4 else QF H4) else Pv (i + 1) H3) (hd : ∀ H, Pv xs.length H → QT H) :
    ∃ W : Nat → Nat → Hp → Prop, (∃ m, W 0 m H2) ∧ Turns (Itl K a) g tt te vs σ d QT QF W := by
  refine ⟨fun i m H => m = xs.length - i ∧ i ≤ xs.length ∧ Pv i H, ⟨xs.length, by simp, Nat.zero_le _, h0⟩, ?_⟩
  rintro i m H ⟨rfl, hi, p⟩
  have q := hl i H hi p
  by_cases hlt : i < xs.length
  · refine .inr ⟨⟨xs, xs[i], q, by simp [hlt]⟩, Pv (i + 1), fun H' p' => ⟨xs.length - (i + 1), by omega, rfl, hlt, p'⟩, fun x H' y => ?_⟩
    obtain ⟨e, y⟩ := y
    subst e
    exact hs i x _ (y xs q) p
  · have e : i = xs.length := by omega
    subst e
    exact .inl ⟨⟨xs, q, by simp⟩, hd H p⟩
end Gx

set_option Elab.async false
set_option linter.all false
set_option maxRecDepth 100000
set_option maxHeartbeats 4000000
/-! tuple(..) of a generator expression: any source, any target, any element -/
namespace Gx
open PySem PySem.Spec PyProof.Rows L2 GenW
def TurnsC (J : It) (g : TG) (tt : TT) (te : TE) (vs : List Nat) (σ : L2.St) (Q : List V → Hp → Prop) (W : Nat → Nat → List V → Hp → Prop) : Prop := ∀ i m ys H, W i m ys H →
  (J.stop i H ∧ Q ys H) ∨ (J.go i H ∧ ys.length < sizeLine ∧ ∃ Nx : List V → Hp → Prop, (∀ ys' H', Nx ys' H' → ∃ m', m' < m ∧ W (i + 1) m' ys' H') ∧ ∀ x H', J.yld i H x H' → g x (wipe σ vs) H' fun σ2 H2 => wipe σ2 vs = wipe σ vs ∧ tt σ2 H2 fun b H3 =>
    if b = true then te σ2 H3 fun y H4 => Nx (ys ++ [y]) H4 else Nx ys H3)
section
variable {X : Cx} {A B : Around} {s3 : Shared} {H3 : Hp} {cenv : Env} {fp : List Addr} {σ : L2.St}
theorem seg_loopC {elt tg iter : Expr} {ifs : List Expr} {scope : Scope} {pos : Pos} {it a : Addr} {gn : Nat} {go : Obj} {J : It} {tn : Nat → Heap → Prop} {g : TG} {tt : TT} {te : TE} {vs : List Nat} {Q : List V → Hp → Prop} {W : Nat → Nat → List V → Hp → Prop} {S : Addr} {E : XK}
    (T : Turn X.prog X.w X.K tg J fp it tn) (hc : X.calm = true) (hov : B.over (.compLoop (.GeneratorExp elt [⟨tg, iter, ifs, 0⟩] scope pos) 0 (.ref it) .none cenv) [] = A) (hco : cenv.scope.isCoroutine = false) (haf : a ∉ fp) (hSf : S ∉ fp) (haS : a ≠ S) (hAp : Apart (gcx X A s3 H3 cenv fp) S)
    (hgo : ∀ h : Heap, h.get? a = some go → h.IsGen a gn)
    (pg : PG (gcx X A s3 H3 cenv fp) tg g) (pt : PTs (gcx X A s3 H3 cenv fp) ifs tt) (pe : PE (gcx X A s3 H3 cenv fp) elt te) (turn : TurnsC J g tt te vs σ Q W) :
    ∀ (m n i : Nat) (ys : List V) (s₀ s : Shared) (H : Hp), n + ys.length = sizeLine → GI (gcx X A s3 H3 cenv fp) S [(a, go)] ys (wipe σ vs) H s → tn i s.heap → (∀ b ∈ fp, H b = none) → W i m ys H →
      Seg (model X.prog X.w) B (REnd X.prog X.w X.stack H3 s3 fp S a gn Q E) (YItem s3 S a gn) n s₀
        (.compLoop (.GeneratorExp elt [⟨tg, iter, ifs, 0⟩] scope pos) 0 (.ref it) .none cenv)
        ((model X.prog X.w).den (.compLoop (.GeneratorExp elt [⟨tg, iter, ifs, 0⟩] scope pos) 0 (.ref it) .none cenv)) [] s := by
  have stat : ∀ {σ' : L2.St} {H' : Hp} {s' : Shared} {acc : Array Value} {c : Nat}, Inv (gcx X A s3 H3 cenv fp) ((S, lstObj acc c) :: [(a, go)]) σ' H' s' → (∀ b ∈ fp, H' b = none) → ∀ b ∈ fp, FpOk (gcx X A s3 H3 cenv fp) ((S, lstObj acc c) :: [(a, go)]) H' b := fun {σ' H' s' acc c} I' hn b hb =>
    ⟨hn b hb, (I'.ok.exf b hb).1, I'.ok.exfs b hb, .inl hb, fun x c e => (I'.ok.exf b hb).2 x c e, fun p hp z => by
      have hp : p ∈ (S, lstObj acc c) :: [(a, go)] := by simpa using hp
      rcases List.mem_cons.mp hp with q | q
      · rw [q] at z; exact hSf (by have z : S = b := z; rw [z]; exact hb)
      · rw [List.mem_singleton.mp q] at z; exact haf (by have z : a = b := z; rw [z]; exact hb)⟩
  intro m
  induction m using Nat.strongRecOn with
  | ind m ih =>
    intro n i ys s₀ s H hmn hG st nf w
    obtain ⟨acc, cc, rv, I⟩ := hG
    show Seg _ B _ _ _ s₀ _ ((compTurn (.GeneratorExp elt [⟨tg, iter, ifs, 0⟩] scope pos) 0 (.ref it) .none cenv).onRaise (leaving cenv)) [] s
    rw [compTurn_gen, Sem.onRaise_eq_wrap]
    refine seg_bind_wrap (wpAny_standAt ?_)
    rcases turn i m ys H w with ⟨stop, qq⟩ | ⟨go', hys, Nx, hNx, step⟩
    · refine seg_bind_wrap ?_
      rw [hov]
      refine wpAny_mono (T.done (gcx X A s3 H3 cenv fp) rfl rfl rfl hc i _ s _ H (fun _ _ => False) I (stat I nf) st stop) (fun r s6 hx => ?_) fun _ _ e => e.elim
      obtain ⟨rfl, I6⟩ := hx
      obtain ⟨z1, z2, z3, z4, _⟩ := I6.pin (S, lstObj acc cc) (List.mem_append_right _ List.mem_cons_self)
      exact seg_end (.ok .next) (.inl ⟨.inr rfl, H, ys, acc, cc, I6.os, I6.bare, I6.base, I6.hok, z2, z1, rv, by omega, qq⟩)
    · refine seg_bind_wrap ?_
      rw [hov]
      refine wpAny_mono (T.item (gcx X A s3 H3 cenv fp) rfl rfl rfl hc i _ s _ H (fun _ _ => False) I (stat I nf) st go') (fun r s6 hx => ?_) fun _ _ e => e.elim
      obtain ⟨u, rfl, h6⟩ := hx
      refine seg_bind_wrap ?_
      rw [hov]
      refine wpAny_mono h6 (fun _ s7 hx => ?_) fun _ _ e => e.elim
      obtain ⟨x, H7, I7, r7, y7, st7, n7⟩ := hx
      have I7' := I7.pinned (stat I7 n7) (T.obj _ _ st7)
      refine seg_bind_wrap ?_
      rw [hov]
      refine wpAny_mono (pg.run _ s7 _ H7 x u _ I7' r7 (step x H7 y7)) (fun _ s8 hx => ?_) fun _ _ e => e.elim
      obtain ⟨σ8, H8, I8, hw8, q8⟩ := hx
      refine seg_bind_wrap ?_
      rw [hov]
      refine wpAny_mono (pt.run _ s8 σ8 H8 _ I8 q8) (fun b s9 hx => ?_) fun _ _ e => e.elim
      obtain ⟨H9, I9, q9⟩ := hx
      have fin : ∀ {s' : Shared} {H' : Hp} {ys' : List V}, GI (gcx X A s3 H3 cenv fp) S ([(a, go)] ++ pinsAt fp s7.heap) ys' σ8 H' s' → GI (gcx X A s3 H3 cenv fp) S [(a, go)] ys' (wipe σ vs) H' s' ∧ tn (i + 1) s'.heap ∧ ∀ b ∈ fp, H' b = none := fun {s' H' ys'} hG' => by
        obtain ⟨acc', cc', rv', I'⟩ := hG'
        have I' : Inv (gcx X A s3 H3 cenv fp) (((S, lstObj acc' cc') :: [(a, go)]) ++ pinsAt fp s7.heap) σ8 H' s' := I'
        have pin' : ∀ b ∈ fp, ∀ o, s7.heap.get? b = some o → s'.heap.get? b = some o ∧ H' b = none := fun b hb o e =>
          let z := I'.pin (b, o) (List.mem_append_right _ (List.mem_append_right _ (mem_pinsAt hb e)))
          ⟨z.1, z.2.1⟩
        have hl : (wipe σ vs).length = σ8.length := by rw [← hw8, wipe_length]
        refine ⟨⟨acc', cc', rv', I'.unpinned.weak hl (fun j v e => ?_)⟩, T.keep _ _ _ st7 fun b hb o e => (pin' b hb o e).1, fun b hb => ?_⟩
        · rw [← hw8] at e
          exact (wipe_some e).1
        · obtain ⟨o, e, _⟩ := T.obj _ _ st7 b hb
          exact (pin' b hb o e).2
      cases b with
      | false =>
        simp only [Bool.false_eq_true, if_false] at q9 ⊢
        obtain ⟨m', hm, w'⟩ := hNx ys H9 q9
        obtain ⟨f1, f2, f3⟩ := fin (ys' := ys) ⟨acc, cc, rv, I9⟩
        exact seg_again rfl (ih m' hm n (i + 1) ys s₀ _ H9 hmn f1 f2 f3 w')
      | true =>
        simp only [if_true] at q9 ⊢
        have hy : ∀ v, yieldOut cenv v = yieldValue v := fun v => by simp only [yieldOut, hco, Bool.false_eq_true, if_false]
        simp only [hy]
        rw [Sem.bind_eq_wrap', Sem.bind_eq_wrap', Sem.wrap_wrap, Sem.wrap_wrap]
        refine seg_wrap ?_
        rw [hov]
        refine wpAny_mono (pe.run _ s9 σ8 H9 _ I9 q9) (fun z s10 hx => ?_) fun _ _ e => e.elim
        obtain ⟨yv, H10, I10, r10, nx⟩ := hx
        obtain ⟨n, rfl⟩ : ∃ n', n = n' + 1 := ⟨n - 1, by omega⟩
        have hasz : acc.size = ys.length := by
          have e1 := rv.length
          have e2 : acc.toList.length = acc.size := by simp
          omega
        have pS := I10.pin (S, lstObj acc cc) (List.mem_append_right _ List.mem_cons_self)
        have pA := I10.pin (a, go) (List.mem_append_right _ (List.mem_append_left _ (List.mem_cons_of_mem _ (List.mem_singleton.mpr rfl))))
        refine seg_at (seg_yield rfl rfl rfl ⟨I10.os, I10.bare, I10.nolimit, hgo _ pA.1, ⟨acc, cc, pS.1, by rw [hasz]; omega⟩, fun s'' hk => ?_⟩)
        obtain ⟨m', hm, w'⟩ := hNx (ys ++ [yv]) H10 nx
        have hG10 : GI (gcx X A s3 H3 cenv fp) S ([(a, go)] ++ pinsAt fp s7.heap) ys σ8 H10 s10 := ⟨acc, cc, rv, I10⟩
        have wk := hG10.woken (x := yv) (fun p hp => by simp at hp) (fun p hp z => by
          rcases List.mem_append.mp hp with q | q
          · rw [List.mem_singleton.mp q] at z; exact haS z
          · obtain ⟨hb, _⟩ := of_pinsAt q
            exact hSf (by rw [← z]; exact hb)) hAp r10 hk
        obtain ⟨f1, f2, f3⟩ := fin wk
        exact seg_again rfl (ih m' hm n (i + 1) (ys ++ [yv]) s'' s'' H10 (by rw [List.length_append, List.length_singleton]; omega) f1 f2 f3 w')
end
/-- tuple(g), g a generator that has not begun -/
theorem call_tuple_new {P : Program} {w : World} {outer : List Env} {H : Hp} {sc s : Shared} {ex : List Addr} {Q : List V → Hp → Prop} {A : Around} {k : Nat} {u : Value} {Q' : Value → Shared → Prop} {E : Value → Shared → Prop}
    (hr : Room (k + 1) A) (hfr : A.frames = some outer) (h : GMade P w k outer H sc ex Q (fun _ _ _ => False) u s)
    (hQ : ∀ (s' : Shared) (acc : Array Value) (H' : Hp) (ys : List V), Vals ys acc.toList → ys.length ≤ sizeLine → s'.os = sc.os → AllBare s'.gens → Un (frs outer) ex H H' sc.heap s'.heap → HOk P w H' s'.heap → Q ys H' → Q' (.ref s'.heap.objs.size) { s' with heap := s'.heap.push { cls := .type "tuple", data := .seq acc } }) :
    wpAny (model P w) A (call (.type "tuple") [u]) Q' E s := by
  obtain ⟨a, g, c, rfl, ha1, ha2, hg, hgs, hos, hb, hl, hkp, wake⟩ := h
  have hSa : s.heap.objs.size ≠ a := Nat.ne_of_gt ha2
  have hcl : cStatics < s.heap.objs.size := let ⟨_, hn, _⟩ := hl; hn.lt
  have hSc : s.heap.objs.size ≠ cStatics := Nat.ne_of_gt hcl
  refine callType_codes (Q₁ := fun obj s₁ => s₁.TypeIs obj "tuple" ∧ Q' obj s₁) F.called_tuple (F.typeCall_tuple_1 _) F.entry_object_init ?_ fun obj s₁ h₁ =>
    ⟨h₁.1, F.args_object_init_2 obj _, object_init_meets F.called_tuple.init.lookup F.called_tuple.made (by decide) P w A.in1 _ s₁ ⟨h₁.1, rfl, h₁.2⟩⟩
  refine codeAny_of_tree ?_
  show wpAny _ A.in1.in1 (do checkBuiltinCall "tuple.__new__" ⟨[.type "tuple", .ref a], []⟩; again (.builtin "tuple.__new__" ⟨[.type "tuple", .ref a], []⟩)) _ _ s
  refine wpAny_bind (wpAny_of_eq (F.newCall_tuple_1 _) (wpAny_pure ⟨plainId_quiet F.plain_tuple_new _, codeAny_builtin F.entry_tuple_new ?_⟩))
  rw [Around.under_plainId F.plain_tuple_new _]
  have hsub := sub_tuple_self
  have hinit := init_tuple_lookup
  have hmh := madeHere_tuple
  have hTI := hg.typeIs (s := s)
  have coll : ∀ {A2 : Around} {QC : List Value → Shared → Prop} {EC : Value → Shared → Prop}, A2.handled = none → A2.depth = A.depth → A2.units ≤ A.units + 8 → A2.frames = some outer →
      (∀ (s' : Shared) (acc : Array Value) (H' : Hp) (ys : List V), Vals ys acc.toList → ys.length ≤ sizeLine → s'.os = sc.os → AllBare s'.gens → Un (frs outer) ex H H' sc.heap s'.heap → HOk P w H' s'.heap → Q ys H' → QC acc.toList s') → wpAny (model P w) A2 (collect (.ref a)) QC EC s := fun {A2 QC EC} h1 h2 h3 h4 hq => by
    unfold collect
    refine wpAny_bind (wpAny_runValue (codeAny_builtin F.entry_proto_collect ?_))
    rw [Around.under_plainId F.plain_proto_collect _]
    show wpAny _ A2.in1 (newList [] >>= fun l => again (.builtin "list.__iadd__" ⟨[l, .ref a], []⟩)) _ _ s
    refine wpAny_bind (wpAny_newObj_type ?_)
    refine wpAny_pure ⟨plainId_quiet F.plain_list_iadd _, codeAny_builtin F.entry_list_iadd ?_⟩
    rw [Around.under_plainId F.plain_list_iadd _]
    show wpAny _ A2.in1 (Builtin.List.listExtendWith (.ref s.heap.objs.size) (.ref a) (.ref s.heap.objs.size)) _ _ _
    unfold Builtin.List.listExtendWith
    have up : ∀ (h : Heap) (f : Obj → Obj), (∀ b o, s.heap.get? b = some o → h.get? b = some o) → ∀ b o, s.heap.get? b = some o → (h.update s.heap.objs.size f).get? b = some o := fun h f q b o e =>
      (Heap.get?_update_other _ _ (Ne.symm (Nat.ne_of_lt (Heap.lt_size e)))).trans (q b o e)
    have k1 : ∀ b o, s.heap.get? b = some o → (s.heap.push { cls := .type "list", data := .seq ([] : List Value).toArray }).get? b = some o := fun b o e => Heap.get?_push_of_some _ e
    have gty : ∀ {h : Heap}, (∀ b o, s.heap.get? b = some o → h.get? b = some o) → h.IsGen a g := fun {h} q => hg.keeps q
    refine wpAny_bind (wpAny_typeOf (Heap.IsGen.typeIs (s := { s with heap := _ }) (gty k1)) ?_)
    have e1 : Builtin.List.listSameRef (.ref s.heap.objs.size) (.ref a) = false := by simp [Builtin.List.listSameRef, hSa]
    have e2 : (Value.type "generator" == Value.type "list") = false := by decide
    have e3 : (Value.type "generator" == Value.type "tuple") = false := by decide
    simp only [e1, e2, e3, Bool.or_false, Bool.false_eq_true, if_false]
    refine wpAny_bind (wpAny_pyIter_gen (s := { s with heap := _ }) (gty k1) ?_)
    refine wpAny_bind (wpAny_holding ?_)
    unfold Builtin.List.listLengthHint
    refine wpAny_bind (wpAny_specialOf (Heap.IsGen.typeIs (s := { s with heap := _ }) (gty k1)) F.gen_no_len ?_)
    show wpAny _ A2.in1 (specialOf (Value.ref a) (Str.ofString "__length_hint__") >>= _) _ _ _
    refine wpAny_bind (wpAny_specialOf (Heap.IsGen.typeIs (s := { s with heap := _ }) (gty k1)) F.gen_no_hint ?_)
    refine wpAny_pure ?_
    show wpAny _ A2.in1 (rule "list.extend.makes-room" >>= fun _ => Builtin.List.listTouch (.ref s.heap.objs.size) >>= fun _ =>
      again (.builtin "list.extend.loop" ⟨[.ref s.heap.objs.size, .ref a, .ref s.heap.objs.size], []⟩)) _ _ _
    refine wpAny_bind (wpAny_rule ?_)
    have hS₁ : (s.heap.push { cls := .type "list", data := .seq ([] : List Value).toArray }).get? s.heap.objs.size = some { cls := .type "list", data := .seq ([] : List Value).toArray } := Heap.get?_push_size _ rfl
    refine wpAny_bind ?_
    show wpAny _ A2.in1 (updateSeq s.heap.objs.size (·.push .none) >>= fun _ => updateSeq s.heap.objs.size (·.pop)) _ _ _
    refine wpAny_bind (wpAny_updateSeq hS₁ rfl ?_)
    have hS₂ := Heap.get?_update_self (Obj.mapSeq (·.push Value.none)) hS₁ rfl
    refine wpAny_updateSeq hS₂ rfl ?_
    have hS₃ := Heap.get?_update_self (Obj.mapSeq (·.pop)) hS₂ rfl
    have k4 := up _ (Obj.mapSeq (·.pop)) (up _ (Obj.mapSeq (·.push Value.none)) k1)
    refine wpAny_pure ⟨plainId_quiet F.plain_extend_loop _, ?_⟩
    refine drain (P := P) (w := w) (outer := outer) (H := H) (sc := sc) (ex := ex) (Q := Q) (EX := fun _ _ _ => False) (A := A2) (g := g) h1 (by have := hr.dp; omega) hSa hSc
      (fun s' acc c H' ys q1 q2 q3 q4 q5 q6 q7 q8 q9 => ?_) (fun e s' hc => by obtain ⟨_, _, _, _, _, _, _, _, _, _, _, _, hf⟩ := hc; exact hf.elim)
      sizeLine _ (gty k4) (hl.keeps k4) ⟨_, hgs, rfl, ?_⟩
    · show wpAny _ A2 (load s.heap.objs.size >>= _) _ _ s'
      refine wpAny_bind (wpAny_load q1 ?_)
      exact wpAny_pure (hq s' acc H' ys q2 q3 q4 q5 q6 q7 q9)
    · refine wake _ _ _ ⟨h1, ?_, ?_⟩ h4 (Nat.le_refl _) k4 ⟨_, hS₃⟩ hos (allBare_setGen (s := { s with heap := _ }) hb rfl)
      · have := hr.dp
        show A2.depth + 3 * k + 5 < _
        omega
      · have := hr.un
        show A2.units + 1 + 1 + 16 * k + 200 < _
        omega
  wp_walk using wpAny_typeOf hTI, coll (A2 := A.in1.in1) hr.hd rfl (by show A.units + 1 + 1 ≤ A.units + 8; omega) hfr
  intro s' acc H' ys q1 q2 q3 q4 q5 q6 q7
  show wpAny _ _ (Builtin.Tuple.tupleExact acc.toList.toArray >>= fun v => ret v) _ _ _
  unfold Builtin.Tuple.tupleExact
  have hz : acc.size ≤ sizeLine := by
    have e1 := q1.length
    have e2 : acc.toList.length = acc.size := by simp
    omega
  refine wpAny_bind (wpAny_newObj_type ?_ (by show acc.toList.toArray.size ≤ sizeLine; simp only [Array.toArray_toList]; exact hz))
  refine wpAny_pure ?_
  have e : acc.toList.toArray = acc := by simp
  rw [e]
  exact ⟨⟨_, Heap.get?_push_size _ rfl, rfl⟩, hQ s' acc H' ys q1 q2 q3 q4 q5 q6 q7⟩
end Gx

set_option Elab.async false
set_option linter.all false
set_option maxRecDepth 100000
set_option maxHeartbeats 4000000
namespace Gx
open PySem PySem.Spec PyProof.Rows L2 GenW
def tCX (wi : TI) (g : TG) (tt : TT) (te : TE) (vs : List Nat) (P : Addr) : TE := fun σ H Q => wi σ H fun J H1 => GxR.TabG H1 P ∧ ∀ H2, GxR.Tabbed P H1 H2 → ∃ W : Nat → Nat → List V → Hp → Prop, (∃ m, W 0 m [] H2) ∧
  TurnsC J g tt te vs σ (fun ys H => ∀ p, H p = none → Q (.ref p) (upd H p (.tup ys))) W
section
variable {X : Cx} {pins : List (Addr × Obj)} {σ : L2.St} {H : Hp} {s : Shared}
theorem gen_made {c P : Addr} {elt tg iter : Expr} {ifs : List Expr} {gpos : Pos} {scope : Scope} {own : List (Str × Nat)} {wi : TI} {g : TG} {tt : TT} {te : TE} {k : Nat} {QQ : List V → Hp → Prop}
    (hr : Room (k + 1) X.A) (hc : X.calm = true) (hN : X.N.Nodup) (TB : GxR.TabB X.base X.mg c P) (hcode : X.env.code = .ref c) (ok : BlkOk X.N X.env.scope scope own) (S : GenK scope) (hi : PI X tg iter wi) (hs : ∀ v, genFold iter X.env v = pure v)
    (hg : ∀ (A : Around) (s : Shared) (H : Hp) (C : Addr) (code : Value) (fp : List Addr), Room k A → PG (gcx X A s H (genEnv scope (cloFrom X.env.cells scope.names []) C code builtinsNs X.env) fp) tg g)
    (ht : ∀ (A : Around) (s : Shared) (H : Hp) (C : Addr) (code : Value) (fp : List Addr), Room k A → PTs (gcx X A s H (genEnv scope (cloFrom X.env.cells scope.names []) C code builtinsNs X.env) fp) ifs tt)
    (he : ∀ (A : Around) (s : Shared) (H : Hp) (C : Addr) (code : Value) (fp : List Addr), Room k A → PE (gcx X A s H (genEnv scope (cloFrom X.env.cells scope.names []) C code builtinsNs X.env) fp) elt te)
    (I : Inv X pins σ H s) (h : wi σ H fun J H1 => GxR.TabG H1 P ∧ ∀ H2, GxR.Tabbed P H1 H2 → ∃ W : Nat → Nat → List V → Hp → Prop, (∃ m, W 0 m [] H2) ∧ TurnsC J g tt te (own.map (·.2)) σ QQ W) :
    wpAny (model X.prog X.w) X.A (eval (.GeneratorExp elt [⟨tg, iter, ifs, 0⟩] scope gpos) X.env) (fun v s5 => ∃ (s3 : Shared) (H3 : Hp) (fp : List Addr), GMade X.prog X.w (k + 1) X.stack H3 s3 fp QQ (fun _ _ _ => False) v s5 ∧
      ∀ (H' : Hp) (s' : Shared), s'.os = s3.os → AllBare s'.gens → Un (frs X.stack) fp H3 H' s3.heap s'.heap → HOk X.prog X.w H' s'.heap → Inv X pins σ H' s') X.xe s := by
  have hfree : ∀ y ∈ scope.names, y.2 = .free → ∃ c, X.env.cells.lookup y.1 = some c := fun y hy e => by
    rcases ok.free y hy e with k | k
    · exact I.ok.has _ (.inl k)
    · exact I.ok.has _ (.inr k)
  refine wpAny_GeneratorExp_make S.co (closure_ok hfree) S.cell S.dot ok.kind hr.depth (wpAny_mono (hi.run pins s σ H _ I h) (fun xv s1 h1 => wpAny_mono h1 (fun itv s2 h2 => ?_) fun _ _ e => e) fun _ _ e => e) hs
  obtain ⟨it, fp, tn, J, H1, rfl, I2, T, st2, f2, ⟨ps, hP, htr⟩, hW⟩ := h2
  refine ⟨I2.nolimit, ?_⟩
  have tabS : s2.heap.get? P = some { cls := .none, data := .fields ps } := I2.hok P _ hP
  have hd : PySem.W.CodeHd s2.heap c P := TB.code.keeps fun b u e => I2.bk b u e
  have key : ∀ (REST : Value → Shared → Prop), (∀ (cv : Value) (h3 : Heap) (tk : Nat) (more : Array Value), Heap.ExtBut P s2.heap h3 → s2.heap.objs.size ≤ h3.objs.size → h3.get? P = some { cls := .none, data := .fields (ps ++ more) } → TriplesOk (ps ++ more).toList → REST cv { s2 with heap := h3, toks := tk }) →
      wpAny (model X.prog X.w) X.A (genexprCode X.env gpos (X.env.qual ++ "<genexpr>") scope) REST X.xe s2 := fun REST fin => by
    cases hf : codeAmong gpos ps.toList with
    | some cv =>
      have e : ps = ps ++ #[] := by simp
      exact wpAny_genexprCode_hit hcode (hd.code tabS htr) hf (fin cv _ s2.toks #[] (Heap.ExtBut.refl _ _) (Nat.le_refl _) (e ▸ tabS) (e ▸ htr))
    | none =>
      refine wpAny_genexprCodeX hcode (hd.code tabS htr) (hd.tab tabS) hf fun c' h3 tk ex ge lt ic _ ta _ => ?_
      obtain ⟨_, _, _, _, _, _, _, _, _, _, _, _, _, _, _, _, _, _, _, tr, _⟩ := ic
      exact fin _ h3 tk _ ex (Nat.le_trans ge (Nat.le_of_lt lt)) ta.2 tr
  refine key _ fun cv h3 tk more ex ge tab3 tr3 => ?_
  obtain ⟨bm, ob, b1, b2, b3, b4, b5, b6, b7, b8⟩ := TB.bm
  refine wpAny_builtinsFor (m := X.mg) (by rw [I2.ok.glob]; exact (I2.mod.glob.keeps I2.bk).extBut ex TB.gP) b1 b2 (ex _ _ b4 (I2.bk _ _ b5)) b6 b7 b8 ?_
  intro h' hn' hs'
  generalize hs3 : ({ s2 with heap := h3, toks := tk } : Shared) = s3 at hn' hs' ⊢
  have e3 : s3.heap = h3 := by rw [← hs3]
  have I3 : Inv X pins σ (upd H1 P (.tbl (ps ++ more))) s3 := by
    rw [← hs3]
    exact GxR.inv_tab (more := more) (h' := h3) (g' := s2.gens) (d' := s2.drawn) (t' := tk) I2 hP (fun b o n e => ex b o n e) tab3 I2.bare
  obtain ⟨W, ⟨m0, w0⟩, turn⟩ := hW _ ⟨⟨ps ++ more, upd_same, tr3⟩, fun b hb => upd_ne hb⟩
  have neP : ∀ b ∈ fp, b ≠ P := fun b hb z => by
    have := (f2 b hb).1
    rw [z, hP] at this
    cases this
  have f3 : ∀ b ∈ fp, FpOk X pins (upd H1 P (.tbl (ps ++ more))) b ∧ b < s3.heap.objs.size := fun b hb => by
    obtain ⟨o, e, _⟩ := T.obj _ _ st2 b hb
    refine ⟨⟨?_, (f2 b hb).2⟩, by rw [e3]; exact Nat.lt_of_lt_of_le (Heap.lt_size e) ge⟩
    rw [upd_ne (neP b hb)]
    exact (f2 b hb).1
  have st3 : tn 0 s3.heap := T.keep _ _ _ st2 fun b hb o e => by rw [e3]; exact ex b o (neP b hb) e
  generalize hH3 : upd H1 P (.tbl (ps ++ more)) = H3 at I3 w0 f3
  have nf : ∀ b ∈ fp, H3 b = none := fun b hb => (f3 b hb).1.1
  generalize hgo : ({ cls := .type "generator", data := .fields #[.int s3.gens.size 0, .str "<genexpr>" (s3.toks + 1), .str (X.env.qual ++ "<genexpr>") (s3.toks + 1 + 1)] } : Obj) = go
  have sz' : h'.objs.size = s3.heap.objs.size + 1 := by rw [hs'.1, Heap.size_push]
  generalize hs5 : ({ s3 with gens := s3.gens.push (.fresh (.compStart (.GeneratorExp elt [⟨tg, iter, ifs, 0⟩] scope gpos) 0 (.ref it) .none (genEnv scope (cloFrom X.env.cells scope.names []) s3.heap.objs.size cv builtinsNs X.env))), toks := s3.toks + 1 + 1 + 1, heap := h'.push go } : Shared) = s5
  have h5 : s5.heap = h'.push go := by rw [← hs5]
  have sz5 : s5.heap.objs.size = h'.objs.size + 1 := by rw [h5, Heap.size_push]
  have kp : Kept s3 s5 := by
    refine ⟨by rw [← hs5], by rw [← hs5]; exact AllBare.push I3.bare rfl, fun b o e => ?_⟩
    rw [h5]
    exact Heap.get?_push_of_some _ (hs'.extBut b o (Nat.ne_of_lt (Heap.lt_size e)) (Heap.get?_push_of_some _ e))
  have hga : s5.heap.get? h'.objs.size = some go := by rw [h5, ← hgo]; exact Heap.get?_push_size _ rfl
  have isg : ∀ h : Heap, h.get? h'.objs.size = some go → h.IsGen h'.objs.size s3.gens.size := fun h e => ⟨go, _, _, e, by rw [← hgo], by rw [← hgo], by rw [← hgo]⟩
  have hgs : s5.gens[s3.gens.size]? = some (.fresh (.compStart (.GeneratorExp elt [⟨tg, iter, ifs, 0⟩] scope gpos) 0 (.ref it) .none (genEnv scope (cloFrom X.env.cells scope.names []) s3.heap.objs.size cv builtinsNs X.env))) := by
    rw [← hs5]
    exact Array.getElem?_push_size ..
  have hns : s5.heap.Ns s3.heap.objs.size (fun y => if y = ".0" then some (.ref it) else none) := by rw [h5]; exact hn'.push _
  have nstk : ∀ b, s3.heap.objs.size ≤ b → b ∉ frs X.stack := fun b hb z => by
    rcases List.mem_cons.mp (I3.stkSub _ z) with z | z
    · exact absurd (Nat.lt_of_lt_of_le I3.lt (show s3.heap.objs.size ≤ X.env.locals by rw [← z]; exact hb)) (Nat.lt_irrefl _)
    · exact I3.nofs hb z
  have lt35 : s3.heap.objs.size < s5.heap.objs.size := by omega
  refine ⟨s3, H3, fp, ⟨h'.objs.size, s3.gens.size, _, rfl, (show s3.heap.objs.size ≤ h'.objs.size by omega), (show h'.objs.size < s5.heap.objs.size by omega), isg _ hga, hgs, kp.os, kp.bare, I3.nolimit.keeps kp.keep, kp.keep, fun A' Sx s6 hrA hfrA hSx hk6 hSo hos hba => ?_⟩, fun H' s' ho hb hu hok => I3.call' (ch := fp) ho hu hok hb fun b hb => ⟨(f3 b hb).1.2.2.2.1, (f3 b hb).1.2.1, (f3 b hb).1.2.2.2.2.1, (f3 b hb).1.2.2.2.2.2⟩⟩
  have k6 : Kept s3 s6 := ⟨hos, hba, fun b o e => hk6 b o (kp.keep b o e)⟩
  have rm : Room k (A'.over (.compLoop (.GeneratorExp elt [⟨tg, iter, ifs, 0⟩] scope gpos) 0 (.ref it) .none (genEnv scope (cloFrom X.env.cells scope.names []) s3.heap.objs.size cv builtinsNs X.env)) []) := by
    have h1 := hrA.dp
    have h2 := hrA.un
    refine ⟨hrA.hd, ?_, ?_⟩
    · show A'.depth + 0 + 1 + 3 * k + 5 < _
      omega
    · show A'.units + 0 + 3 + 16 * k + 200 < _
      omega
  have Ig := gen_start I3 ok S hN f3 rm.hd (over_gen hfrA) k6 (hns.keeps hk6)
  obtain ⟨cS, heS⟩ := hSo
  have Sx3 : s3.heap.objs.size ≤ Sx := Nat.le_trans (Nat.le_of_lt lt35) hSx
  have SxC : Sx ≠ s3.heap.objs.size := Nat.ne_of_gt (Nat.lt_of_lt_of_le lt35 hSx)
  have aS : h'.objs.size ≠ Sx := Nat.ne_of_lt (Nat.lt_of_lt_of_le (by omega) hSx)
  have hG : GI (gcx X (A'.over (.compLoop (.GeneratorExp elt [⟨tg, iter, ifs, 0⟩] scope gpos) 0 (.ref it) .none (genEnv scope (cloFrom X.env.cells scope.names []) s3.heap.objs.size cv builtinsNs X.env)) []) s3 H3 (genEnv scope (cloFrom X.env.cells scope.names []) s3.heap.objs.size cv builtinsNs X.env) fp) Sx [(h'.objs.size, go)] [] (wipe σ (own.map (·.2))) H3 s6 := by
    refine ⟨#[], cS, .nil, Ig.pins_of fun p hp => ?_⟩
    rcases List.mem_cons.mp hp with z | z
    · rw [z]
      exact ⟨heS, I3.hok.fresh Sx3, SxC, nstk _ Sx3, fun v q => by cases q⟩
    · rw [List.mem_singleton.mp z]
      exact ⟨hk6 _ _ hga, I3.hok.fresh (by omega), by show h'.objs.size ≠ s3.heap.objs.size; omega, nstk _ (by omega), fun v q => by rw [← hgo] at q; cases q⟩
  have st6 : tn 0 s6.heap := T.keep _ _ _ st3 fun b hb o e => k6.keep b o e
  have hAp : Apart (gcx X (A'.over (.compLoop (.GeneratorExp elt [⟨tg, iter, ifs, 0⟩] scope gpos) 0 (.ref it) .none (genEnv scope (cloFrom X.env.cells scope.names []) s3.heap.objs.size cv builtinsNs X.env)) []) s3 H3 (genEnv scope (cloFrom X.env.cells scope.names []) s3.heap.objs.size cv builtinsNs X.env) fp) Sx := by
    refine ⟨Sx3, SxC, fun x c e z => ?_⟩
    obtain ⟨v, q⟩ := Ig.cell x c e
    have hcl : X.env.cells.lookup x = some c := by
      have e : (cloFrom X.env.cells scope.names []).lookup x = some c := e
      rcases cloFrom_mem (PySem.mem_of_lookup e) with hm | ⟨h1, rfl⟩
      · cases hm
      · obtain ⟨c, hc⟩ := hfree _ h1 rfl
        rw [hc]
        rfl
    obtain ⟨v3, q3⟩ := I3.cell x c hcl
    exact absurd (Nat.lt_of_lt_of_le q3.lt (by rw [z]; exact Sx3)) (Nat.lt_irrefl _)
  refine seg_start T st6 (seg_loopC T hc rfl S.co (fun z => ?_) (fun z => ?_) aS hAp isg (hg _ _ _ _ _ _ rm) (ht _ _ _ _ _ _ rm) (he _ _ _ _ _ _ rm) turn m0 sizeLine 0 [] _ _ H3 (Nat.add_zero _) hG st6 nf w0)
  · have q : h'.objs.size < s3.heap.objs.size := (f3 _ z).2
    omega
  · exact absurd (Nat.lt_of_lt_of_le (f3 _ z).2 Sx3) (Nat.lt_irrefl _)
theorem pe_tupX {c P : Addr} {elt tg iter : Expr} {ifs : List Expr} {gpos p pos : Pos} {scope : Scope} {own : List (Str × Nat)} {wi : TI} {g : TG} {tt : TT} {te : TE} {k : Nat}
    (hr : Room (k + 2) X.A) (hgl : Gl X "tuple") (hm : X.mg "tuple" = none) (hc : X.calm = true) (hN : X.N.Nodup) (TB : GxR.TabB X.base X.mg c P) (hcode : X.env.code = .ref c) (ok : BlkOk X.N X.env.scope scope own) (S : GenK scope) (hi : PI X tg iter wi)
    (hg : ∀ (A : Around) (s : Shared) (H : Hp) (C : Addr) (code : Value) (fp : List Addr), Room k A → PG (gcx X A s H (genEnv scope (cloFrom X.env.cells scope.names []) C code builtinsNs X.env) fp) tg g)
    (ht : ∀ (A : Around) (s : Shared) (H : Hp) (C : Addr) (code : Value) (fp : List Addr), Room k A → PTs (gcx X A s H (genEnv scope (cloFrom X.env.cells scope.names []) C code builtinsNs X.env) fp) ifs tt)
    (he : ∀ (A : Around) (s : Shared) (H : Hp) (C : Addr) (code : Value) (fp : List Addr), Room k A → PE (gcx X A s H (genEnv scope (cloFrom X.env.cells scope.names []) C code builtinsNs X.env) fp) elt te)
    (hs : ∀ v, genFold iter X.env v = pure v := by intro _; rfl)
    (hst : starEach [.GeneratorExp elt [⟨tg, iter, ifs, 0⟩] scope gpos] X.env = (false, eval (.GeneratorExp elt [⟨tg, iter, ifs, 0⟩] scope gpos) X.env) :: starEach [] X.env := by rfl) :
    PE X (.Call (.Name "tuple" p) [.GeneratorExp elt [⟨tg, iter, ifs, 0⟩] scope gpos] [] pos) (tCX wi g tt te (own.map (·.2)) P) := by
  refine ⟨fun pins s σ H Q I h => ?_⟩
  refine wpAny_Call_Name_kw (ld_blt I hgl hm boot_tuple (PyProof.Rows.callWith_type1 ?_ hst (by rfl)))
  rw [hst]
  show wpAny _ _ (spliced ((false, _) :: backTo pos (starEach [] X.env))) _ _ s
  refine Calls.spliced_cons (wpAny_mono (gen_made (k := k) (hr.mono (by omega)) hc hN TB hcode ok S hi hs hg ht he I h) (fun v s5 hx => ?_) fun _ _ e => e)
  obtain ⟨s3, H3, fp, hG, back⟩ := hx
  refine Calls.spliced_nil (call_tuple_new hr I.ok.frames hG fun s' acc H' ys q1 q2 q3 q4 q5 q6 q7 => ?_)
  have J := back H' s' q3 q4 q5 q6
  refine ⟨.ref s'.heap.objs.size, _, J.laid (t' := s'.toks) (o := .tup ys) (fun b u e => Heap.get?_push_of_some _ e) (Nat.le_refl _) ⟨q2, acc.toList, q1, ?_⟩, rfl, q7 _ (J.hok.fresh (Nat.le_refl _))⟩
  have z := IsTup.new s'.heap acc
  simpa using z
end
/-! ### turns, by source -/
theorem tup_tup {K : PySem.W.Frag} {a : Addr} {xs : List V} {g : TG} {tt : TT} {te : TE} {vs : List Nat} {σ : L2.St} {Q : List V → Hp → Prop} {H2 : Hp} (hz : xs.length ≤ sizeLine) (Pv : Nat → List V → Hp → Prop) (h0 : Pv 0 [] H2) (hl : ∀ i ys H, i ≤ xs.length → Pv i ys H → SqT K H a xs) (hy : ∀ i ys H, Pv i ys H → ys.length ≤ i)
    (hs : ∀ i x ys H, xs[i]? = some x → Pv i ys H → g x (wipe σ vs) H fun σ2 H2 => wipe σ2 vs = wipe σ vs ∧ tt σ2 H2 fun b H3 => if b = true then te σ2 H3 fun y H4 => Pv (i + 1) (ys ++ [y]) H4 else Pv (i + 1) ys H3) (hd : ∀ ys H, Pv xs.length ys H → Q ys H) :
    ∃ W : Nat → Nat → List V → Hp → Prop, (∃ m, W 0 m [] H2) ∧ TurnsC (Itt K a) g tt te vs σ Q W := by
  refine ⟨fun i m ys H => m = xs.length - i ∧ i ≤ xs.length ∧ Pv i ys H, ⟨xs.length, by simp, Nat.zero_le _, h0⟩, ?_⟩
  rintro i m ys H ⟨rfl, hi, p⟩
  have q := hl i ys H hi p
  by_cases hlt : i < xs.length
  · refine .inr ⟨⟨xs, xs[i], q, by simp [hlt]⟩, Nat.lt_of_le_of_lt (hy i ys H p) (Nat.lt_of_lt_of_le hlt hz), Pv (i + 1), fun ys' H' p' => ⟨xs.length - (i + 1), by omega, rfl, hlt, p'⟩, fun x H' y => ?_⟩
    obtain ⟨e, y⟩ := y
    subst e
    exact hs i x ys _ (y xs q) p
  · have e : i = xs.length := by omega
    subst e
    exact .inl ⟨⟨xs, q, Nat.le_refl _⟩, hd ys H p⟩
end Gx

set_option Elab.async false
set_option linter.all false
set_option maxRecDepth 100000
set_option maxHeartbeats 4000000
/-! runs, by themselves -/
namespace Dt
open PySem PySem.Spec PyProof.Rows L2
abbrev Log := List (Int × List Int)
abbrev Res := Bool × List Int × Log
def stand (tb : List (List Int)) (tk : List Int) : List Int := List.zipWith atF tb tk
def leftOf (tb : List (List Int)) (tk : List Int) : List (List Int) := List.zipWith (fun ds k => ds.drop (k.toNat + 1)) tb tk
def firstB (fs : List Int) (wds : List WD) (ord : List Int) : Option Int := ord.find? fun n => brkAt fs wds n.toNat
def plc (wds : List WD) (k : Int) : List Int := (wds.getD k.toNat ([], [])).1
def lenAt (tb : List (List Int)) (p : Int) : Int := ((tb.getD p.toNat []).length : Int)
def canN (tb : List (List Int)) (tk ps : List Int) : Bool := ps.all fun p => decide (atF tk p + 1 < lenAt tb p)
def bumpA (tk ps : List Int) : List Int := ps.foldl (fun t p => bump t p.toNat) tk
def goR (wds : List WD) (tb : List (List Int)) (ord : List Int) : Nat → List Int → Log → Option Res
  | 0, _, _ => none
  | n + 1, tk, log => match firstB (stand tb tk) wds ord with
    | none => some (true, stand tb tk, log)
    | some k => if canN tb tk (plc wds k) = true then goR wds tb ord n (bumpA tk (plc wds k)) (log ++ [(k, huesA (stand tb tk) (plc wds k))]) else some (false, stand tb tk, log)
structure GoodT (many hues : Int) (tb : List (List Int)) : Prop where
  len : (tb.length : Int) = many
  one : ∀ ds ∈ tb, 1 ≤ ds.length
  few : ∀ ds ∈ tb, ds.length ≤ 1000
  hue : ∀ ds ∈ tb, ∀ h ∈ ds, 0 ≤ h ∧ h < hues
structure GoodK (tb : List (List Int)) (tk : List Int) : Prop where
  len : tk.length = tb.length
  at_ : ∀ p : Nat, p < tb.length → 0 ≤ tk.getD p 0 ∧ tk.getD p 0 < ((tb.getD p []).length : Int)
/-- an order of so many numbers -/
structure GoodO (n : Nat) (ord : List Int) : Prop where
  mem : ∀ z ∈ ord, 0 ≤ z ∧ z < (n : Int)
  all : ∀ k : Nat, k < n → (k : Int) ∈ ord
  len : ord.length ≤ n
def zerosI (n : Nat) : List Int := List.replicate n 0
def rem (tb : List (List Int)) (tk : List Int) : Nat := (List.zipWith (fun (ds : List Int) (k : Int) => ds.length - 1 - k.toNat) tb tk).sum
def runOf (wds : List WD) (tb : List (List Int)) (ord : List Int) : Option Res := goR wds tb ord (rem tb (zerosI tb.length) + 1) (zerosI tb.length) []
theorem getD_get {α : Type} {l : List α} {p : Nat} {d : α} (h : p < l.length) : l.getD p d = l[p] := by
  rw [List.getD_eq_getElem?_getD, List.getElem?_eq_getElem h]
  rfl
theorem getD_mem {α : Type} {l : List α} {p : Nat} {d : α} (h : p < l.length) : l.getD p d ∈ l := by
  rw [getD_get h]
  exact List.getElem_mem h
theorem bump_get (tk : List Int) (p i : Nat) : (bump tk p).getD i 0 = if i = p ∧ p < tk.length then tk.getD p 0 + 1 else tk.getD i 0 := by
  unfold bump
  rw [List.getD_eq_getElem?_getD, List.getElem?_set]
  by_cases h : p = i
  · subst h
    by_cases h2 : p < tk.length
    · rw [if_pos rfl, if_pos h2, if_pos ⟨rfl, h2⟩]
      rfl
    · rw [if_pos rfl, if_neg h2, if_neg (fun z => h2 z.2), List.getD_eq_getElem?_getD, List.getElem?_eq_none (by omega)]
  · rw [if_neg h, if_neg (fun z => h z.1.symm), List.getD_eq_getElem?_getD]
theorem zeros_get (n p : Nat) : (zerosI n).getD p 0 = 0 := by
  unfold zerosI
  rw [List.getD_eq_getElem?_getD, List.getElem?_replicate]
  split <;> rfl
theorem zeros_good {many hues : Int} {tb : List (List Int)} (g : GoodT many hues tb) : GoodK tb (zerosI tb.length) := by
  refine ⟨by simp [zerosI], fun p hp => ?_⟩
  rw [zeros_get]
  have := g.one _ (getD_mem (d := []) hp)
  omega
theorem stand_len {tb : List (List Int)} {tk : List Int} (g : GoodK tb tk) : (stand tb tk).length = tb.length := by
  unfold stand
  rw [List.length_zipWith, g.len, Nat.min_self]
theorem left_len {tb : List (List Int)} {tk : List Int} (g : GoodK tb tk) : (leftOf tb tk).length = tb.length := by
  unfold leftOf
  rw [List.length_zipWith, g.len, Nat.min_self]
theorem stand_get {tb : List (List Int)} {tk : List Int} (g : GoodK tb tk) {p : Nat} (hp : p < tb.length) : (stand tb tk)[p]? = some (atF (tb.getD p []) (tk.getD p 0)) := by
  have h2 : p < tk.length := by rw [g.len]; exact hp
  unfold stand
  rw [List.getElem?_zipWith, List.getElem?_eq_getElem hp, List.getElem?_eq_getElem h2, getD_get hp, getD_get h2]
theorem left_get {tb : List (List Int)} {tk : List Int} (g : GoodK tb tk) {p : Nat} (hp : p < tb.length) : (leftOf tb tk)[p]? = some ((tb.getD p []).drop ((tk.getD p 0).toNat + 1)) := by
  have h2 : p < tk.length := by rw [g.len]; exact hp
  unfold leftOf
  rw [List.getElem?_zipWith, List.getElem?_eq_getElem hp, List.getElem?_eq_getElem h2, getD_get hp, getD_get h2]
theorem stand_good {many hues : Int} {tb : List (List Int)} {tk : List Int} (gt : GoodT many hues tb) (g : GoodK tb tk) : GoodF many hues (stand tb tk) := by
  refine ⟨by rw [stand_len g]; exact gt.len, fun h hh => ?_⟩
  obtain ⟨p, hp, e⟩ := List.getElem_of_mem hh
  rw [stand_len g] at hp
  have e2 := stand_get g hp
  rw [List.getElem?_eq_getElem (by rw [stand_len g]; exact hp), e] at e2
  cases e2
  have a := g.at_ p hp
  have m : (tk.getD p 0).toNat < (tb.getD p []).length := by omega
  exact gt.hue _ (getD_mem hp) _ (getD_mem m)
theorem first_some {fs : List Int} {wds : List WD} {ord : List Int} {k : Int} (h : firstB fs wds ord = some k) : k ∈ ord ∧ brkAt fs wds k.toNat = true := ⟨List.mem_of_find?_eq_some h, by
  have z := List.find?_some (p := fun n : Int => brkAt fs wds n.toNat) (l := ord) (a := k) h
  exact z⟩
theorem wd_of {wds : List WD} {k : Int} (h0 : 0 ≤ k) (h1 : k < (wds.length : Int)) : ∃ wd, wds[k.toNat]? = some wd ∧ plc wds k = wd.1 := by
  have h : k.toNat < wds.length := by omega
  exact ⟨wds[k.toNat], List.getElem?_eq_getElem h, by rw [plc, getD_get h]⟩
/-! ### one more draw at a place -/
theorem rem_bump : ∀ {tb : List (List Int)} {tk : List Int} {p : Nat}, p < tb.length → p < tk.length → 0 ≤ tk.getD p 0 → tk.getD p 0 + 1 < ((tb.getD p []).length : Int) → rem tb (bump tk p) + 1 = rem tb tk
  | [], _, _, h, _, _, _ => absurd h (Nat.not_lt_zero _)
  | _ :: _, [], _, _, h, _, _ => absurd h (Nat.not_lt_zero _)
  | ds :: r, k :: q, 0, _, _, h0, h1 => by
    simp only [List.getD_cons_zero] at h0 h1
    unfold rem bump
    simp only [List.getD_cons_zero, List.set_cons_zero, List.zipWith_cons_cons, List.sum_cons]
    omega
  | ds :: r, k :: q, p + 1, hp, hq, h0, h1 => by
    simp only [List.getD_cons_succ] at h0 h1
    have ih := rem_bump (tb := r) (tk := q) (p := p) (Nat.lt_of_succ_lt_succ hp) (Nat.lt_of_succ_lt_succ hq) h0 h1
    unfold rem bump at ih ⊢
    simp only [List.getD_cons_succ, List.set_cons_succ, List.zipWith_cons_cons, List.sum_cons] at ih ⊢
    omega
theorem good_bump {tb : List (List Int)} {tk : List Int} {p : Nat} (g : GoodK tb tk) (hp : p < tb.length) (h : tk.getD p 0 + 1 < ((tb.getD p []).length : Int)) : GoodK tb (bump tk p) := by
  refine ⟨by rw [bump_len]; exact g.len, fun i hi => ?_⟩
  have a := g.at_ i hi
  rw [bump_get]
  by_cases e : i = p
  · subst e
    rw [if_pos ⟨rfl, by rw [g.len]; exact hp⟩]
    omega
  · rw [if_neg (fun z => e z.1)]
    exact a
theorem stand_bump {tb : List (List Int)} {tk : List Int} {p : Nat} {x : Int} {r : List Int} (g : GoodK tb tk) (hp : p < tb.length) (h : (leftOf tb tk)[p]? = some (x :: r)) : stand tb (bump tk p) = (stand tb tk).set p x ∧ leftOf tb (bump tk p) = (leftOf tb tk).set p r ∧ tk.getD p 0 + 1 < ((tb.getD p []).length : Int) := by
  rw [left_get g hp] at h
  have a := g.at_ p hp
  have e := Option.some.inj h
  have hl : (tk.getD p 0).toNat + 1 < (tb.getD p []).length := by
    have z := congrArg List.length e
    rw [List.length_drop, List.length_cons] at z
    omega
  have hc : tk.getD p 0 + 1 < ((tb.getD p []).length : Int) := by omega
  have g2 := good_bump g hp hc
  have en : (tk.getD p 0 + 1).toNat = (tk.getD p 0).toNat + 1 := by omega
  have ex : (tb.getD p []).getD ((tk.getD p 0).toNat + 1) 0 = x := by
    have z := congrArg (fun l : List Int => l[0]?) e
    simp only [List.getElem?_drop, List.getElem?_cons_zero, Nat.add_zero] at z
    rw [List.getD_eq_getElem?_getD, z]
    rfl
  have er : (tb.getD p []).drop ((tk.getD p 0).toNat + 1 + 1) = r := by
    have z := congrArg (fun l : List Int => l.drop 1) e
    simp only [List.drop_drop, List.drop_succ_cons, List.drop_zero] at z
    exact z
  refine ⟨?_, ?_, hc⟩
  · refine List.ext_getElem? fun i => ?_
    rw [List.getElem?_set]
    by_cases hi : i < tb.length
    · rw [stand_get g2 hi, bump_get]
      by_cases e2 : p = i
      · subst e2
        rw [if_pos ⟨rfl, by rw [g.len]; exact hp⟩, if_pos rfl, if_pos (by rw [stand_len g]; exact hp)]
        unfold atF
        rw [en, ex]
      · rw [if_neg (fun z => e2 z.1.symm), if_neg e2, stand_get g hi]
    · rw [List.getElem?_eq_none (by rw [stand_len g2]; omega), if_neg (by omega), List.getElem?_eq_none (by rw [stand_len g]; omega)]
  · refine List.ext_getElem? fun i => ?_
    rw [List.getElem?_set]
    by_cases hi : i < tb.length
    · rw [left_get g2 hi, bump_get]
      by_cases e2 : p = i
      · subst e2
        rw [if_pos ⟨rfl, by rw [g.len]; exact hp⟩, if_pos rfl, if_pos (by rw [left_len g]; exact hp), en, er]
      · rw [if_neg (fun z => e2 z.1.symm), if_neg e2, left_get g hi]
    · rw [List.getElem?_eq_none (by rw [left_len g2]; omega), if_neg (by omega), List.getElem?_eq_none (by rw [left_len g]; omega)]
/-! ### one more draw at some places -/
structure Can (tb : List (List Int)) (tk ps : List Int) : Prop where
  nd : ps.Nodup
  pl : ∀ p ∈ ps, 0 ≤ p ∧ p < (tb.length : Int)
  nx : ∀ p ∈ ps, atF tk p + 1 < lenAt tb p
theorem Can.tail {tb : List (List Int)} {tk ps : List Int} {p : Int} (c : Can tb tk (p :: ps)) : Can tb (bump tk p.toNat) ps := by
  refine ⟨(List.nodup_cons.mp c.nd).2, fun q hq => c.pl q (List.mem_cons_of_mem _ hq), fun q hq => ?_⟩
  have hp := c.pl p List.mem_cons_self
  have hq2 := c.pl q (List.mem_cons_of_mem _ hq)
  have hne : q ≠ p := fun z => (List.nodup_cons.mp c.nd).1 (z ▸ hq)
  have := c.nx q (List.mem_cons_of_mem _ hq)
  unfold atF at this ⊢
  rw [bump_get, if_neg (fun z => hne (by omega))]
  exact this
theorem bumpA_good : ∀ {ps : List Int} {tb : List (List Int)} {tk : List Int}, GoodK tb tk → Can tb tk ps → GoodK tb (bumpA tk ps) ∧ rem tb (bumpA tk ps) + ps.length = rem tb tk
  | [], _, _, g, _ => ⟨g, rfl⟩
  | p :: ps, tb, tk, g, c => by
    have hp := c.pl p List.mem_cons_self
    have hn := c.nx p List.mem_cons_self
    have hpn : p.toNat < tb.length := by omega
    have g2 := good_bump g hpn hn
    have a := g.at_ _ hpn
    have r := rem_bump (tb := tb) (tk := tk) hpn (by rw [g.len]; exact hpn) a.1 hn
    obtain ⟨i1, i2⟩ := bumpA_good (ps := ps) g2 c.tail
    refine ⟨i1, ?_⟩
    show rem tb (bumpA (bump tk p.toNat) ps) + (ps.length + 1) = rem tb tk
    omega
theorem can_of {many hues : Int} {wds : List WD} {tb : List (List Int)} {tk : List Int} {k : Int} {wd : WD} (gr : GoodR many hues wds) (nd : ∀ wd ∈ wds, wd.1.Nodup) (gt : GoodT many hues tb) (hw : wds[k.toNat]? = some wd) (he : plc wds k = wd.1) (h : canN tb tk (plc wds k) = true) : Can tb tk (plc wds k) := by
  have hm := List.mem_of_getElem? hw
  rw [he] at h ⊢
  refine ⟨nd wd hm, fun p hp => ?_, fun p hp => ?_⟩
  · have := (gr.each wd hm).pl p hp
    have := gt.len
    omega
  · exact of_decide_eq_true (List.all_eq_true.mp h p hp)
def LogOk (wds : List WD) (log : Log) : Prop := ∀ e ∈ log, 0 ≤ e.1 ∧ e.1 < (wds.length : Int) ∧ ∃ wd, wds[e.1.toNat]? = some wd ∧ e.2 ∈ wd.2
theorem LogOk.nil (wds : List WD) : LogOk wds [] := fun _ h => nomatch h
theorem LogOk.snoc {wds : List WD} {log : Log} {fs : List Int} {k : Int} {wd : WD} (h : LogOk wds log) (h0 : 0 ≤ k) (h1 : k < (wds.length : Int)) (hw : wds[k.toNat]? = some wd) (he : plc wds k = wd.1) (hb : brkAt fs wds k.toNat = true) : LogOk wds (log ++ [(k, huesA fs (plc wds k))]) := by
  intro e hm
  rcases List.mem_append.mp hm with z | z
  · exact h e z
  · rw [List.mem_singleton.mp z]
    refine ⟨h0, h1, wd, hw, ?_⟩
    rw [brkAt_of hw] at hb
    rw [he]
    exact of_decide_eq_true hb
theorem goR_total {many hues : Int} {wds : List WD} {tb : List (List Int)} {ord : List Int} (gr : GoodR many hues wds) (nd : ∀ wd ∈ wds, wd.1.Nodup) (gt : GoodT many hues tb) (go : GoodO wds.length ord) :
    ∀ (n : Nat) (tk : List Int) (log : Log), GoodK tb tk → LogOk wds log → rem tb tk < n → ∃ R, goR wds tb ord n tk log = some R ∧ GoodF many hues R.2.1 ∧ LogOk wds R.2.2 ∧ R.2.2.length ≤ log.length + rem tb tk
  | 0, _, _, _, _, h => absurd h (Nat.not_lt_zero _)
  | n + 1, tk, log, g, hl, h => by
    cases e : firstB (stand tb tk) wds ord with
    | none => exact ⟨(true, stand tb tk, log), by simp only [goR, e], stand_good gt g, hl, Nat.le_add_right _ _⟩
    | some k =>
      obtain ⟨hk, hb⟩ := first_some e
      obtain ⟨k0, k1⟩ := go.mem k hk
      obtain ⟨wd, hw, he⟩ := wd_of k0 k1
      cases c : canN tb tk (plc wds k) with
      | false => exact ⟨(false, stand tb tk, log), by simp only [goR, e, c]; rfl, stand_good gt g, hl, Nat.le_add_right _ _⟩
      | true =>
        have cn := can_of gr nd gt hw he c
        obtain ⟨g2, r2⟩ := bumpA_good g cn
        have one := (gr.each wd (List.mem_of_getElem? hw)).one
        rw [← he] at one
        obtain ⟨R, hR, a1, a2, a3⟩ := goR_total gr nd gt go n (bumpA tk (plc wds k)) (log ++ [(k, huesA (stand tb tk) (plc wds k))]) g2 (hl.snoc k0 k1 hw he hb) (by omega)
        refine ⟨R, by simp only [goR, e, c, if_true]; exact hR, a1, a2, ?_⟩
        rw [List.length_append, List.length_singleton] at a3
        omega
theorem rem_le : ∀ (tb : List (List Int)) (tk : List Int) (b : Nat), (∀ ds ∈ tb, ds.length ≤ b) → rem tb tk ≤ tb.length * b
  | [], _, _, _ => by simp [rem]
  | _ :: _, [], _, _ => by simp [rem]
  | ds :: r, k :: q, b, h => by
    have ih := rem_le r q b fun d hd => h d (List.mem_cons_of_mem _ hd)
    have a := h ds List.mem_cons_self
    unfold rem at ih ⊢
    rw [List.zipWith_cons_cons, List.sum_cons, List.length_cons, Nat.succ_mul]
    omega
theorem runOf_some {many hues : Int} {wds : List WD} {tb : List (List Int)} {ord : List Int} (gr : GoodR many hues wds) (nd : ∀ wd ∈ wds, wd.1.Nodup) (gt : GoodT many hues tb) (go : GoodO wds.length ord) :
    ∃ R, runOf wds tb ord = some R ∧ GoodF many hues R.2.1 ∧ LogOk wds R.2.2 ∧ R.2.2.length ≤ 6000 := by
  obtain ⟨R, h1, h2, h3, h4⟩ := goR_total gr nd gt go (rem tb (zerosI tb.length) + 1) (zerosI tb.length) [] (zeros_good gt) (LogOk.nil _) (Nat.lt_succ_self _)
  refine ⟨R, h1, h2, h3, ?_⟩
  have a := rem_le tb (zerosI tb.length) 1000 gt.few
  have b := gt.len
  have c := gr.m6
  rw [List.length_nil] at h4
  have : tb.length ≤ 6 := by omega
  omega
/-! ### the first broken one, as the law finds it -/
theorem broL_iff {fs : List Int} {wds : List WD} {n : Nat} {z : Int} : z ∈ broL fs wds n ↔ 0 ≤ z ∧ z < (n : Int) ∧ brkAt fs wds z.toNat = true := by
  unfold broL
  rw [List.mem_map]
  constructor
  · rintro ⟨k, hk, rfl⟩
    obtain ⟨h1, h2⟩ := List.mem_filter.mp hk
    have := List.mem_range.mp h1
    exact ⟨by omega, by omega, by rw [Int.toNat_natCast]; exact h2⟩
  · rintro ⟨h0, h1, h2⟩
    exact ⟨z.toNat, List.mem_filter.mpr ⟨List.mem_range.mpr (by omega), h2⟩, by omega⟩
theorem first_filter {fs : List Int} {wds : List WD} {ord : List Int} (go : GoodO wds.length ord) : (ord.filter fun z => decide (z ∈ broL fs wds wds.length)).head? = firstB fs wds ord := by
  unfold firstB
  rw [List.head?_filter]
  have e : ∀ l : List Int, (∀ z ∈ l, 0 ≤ z ∧ z < (wds.length : Int)) → l.find? (fun z => decide (z ∈ broL fs wds wds.length)) = l.find? (fun n => brkAt fs wds n.toNat) := by
    intro l
    induction l with
    | nil => intro _; rfl
    | cons a r ih =>
      intro h
      have ha := h a List.mem_cons_self
      have hq : decide (a ∈ broL fs wds wds.length) = brkAt fs wds a.toNat := by
        cases c : brkAt fs wds a.toNat with
        | true => exact decide_eq_true (broL_iff.mpr ⟨ha.1, ha.2, c⟩)
        | false => exact decide_eq_false fun z => by rw [(broL_iff.mp z).2.2] at c; cases c
      rw [List.find?_cons, List.find?_cons, hq, ih fun z hz => h z (List.mem_cons_of_mem _ hz)]
  exact e ord go.mem
theorem first_none {fs : List Int} {wds : List WD} {ord : List Int} (go : GoodO wds.length ord) : firstB fs wds ord = none ↔ broL fs wds wds.length = [] := by
  constructor
  · intro h
    rw [List.eq_nil_iff_forall_not_mem]
    intro z hz
    obtain ⟨h0, h1, h2⟩ := broL_iff.mp hz
    have hm := go.all z.toNat (by omega)
    have e : ((z.toNat : Nat) : Int) = z := by omega
    rw [e] at hm
    have := List.find?_eq_none.mp h z hm
    exact this h2
  · intro h
    refine List.find?_eq_none.mpr fun z hz c => ?_
    have hm := go.mem z hz
    have : z ∈ broL fs wds wds.length := broL_iff.mpr ⟨hm.1, hm.2, c⟩
    rw [h] at this
    cases this
end Dt

set_option Elab.async false
set_option linter.all false
set_option maxRecDepth 100000
set_option maxHeartbeats 4000000
/-! calls, frames, tables, logs: over no program -/
namespace Rd
open PySem PySem.Spec PyProof.Rows L2 Dt
theorem same_upd {H : Hp} {p : Addr} {o : HO} (h : H p = none) : Same H (upd H p o) := fun b x e => by
  rw [upd_ne (ne_of_none e h)]
  exact e
def Cal (P : Program) (w : World) (K : PySem.W.Frag) (mg : Str → Option Value) (base : Heap) (k : Nat) (x : Str) (ps : List Str) (sp : Sp) : Prop :=
  ∃ (f : Addr) (fd : FuncData), FnOk P w K mg base CX0 k f fd ps sp ∧ mg x = some (.ref f) ∧ PySem.W.keepIn K (.ref f) = true ∧ Binds K fd ps []
theorem pe_cal {X : Cx} {k : Nat} {x : Str} {ps : List Str} {sp : Sp} {p pos : Pos} {e : Expr} {es : List Expr} {t : TA} (C : Cal X.prog X.w X.K X.mg X.base k x ps sp) (hr : Room k X.A) (hg : Gl X x)
    (ha : PA X (e :: es) t) (hdb : (x == ("__debug__" : Str)) = false := by decide) (he : starEach (e :: es) X.env = (false, eval e X.env) :: starEach es X.env := by rfl) (hpl : (backTo pos (starEach es X.env)).any (·.1) = false := by rfl) :
    PE X (.Call (.Name x p) (e :: es) [] pos) (tCall sp [] E0 t) := by
  obtain ⟨f, fd, F, hm, hk, hb⟩ := C
  exact pe_call F hr hg hm hk hb .nil pass0 ha hdb he hpl
/-- a def whose code object is known -/
structure FunC (K : PySem.W.Frag) (x qual : Str) (st : Stmt) (f : Addr) (fd : FuncData) (cdv : Value) : Prop where
  ex : ∃ (oc : Value) (od : Option Addr) (kV doc pm : Value) (an : Option Addr) (ct : Value) (osl : Array (Option Value)),
    fd = PySem.W.fnOf x qual (defArgs st) (defBody st) (defScope st) .none kV doc pm an cdv ct ∧ K.lookup f = some ⟨oc, od, .func fd, osl⟩ ∧ PySem.W.codeIn K cdv qual = true
theorem FunC.ok {P : Program} {w : World} {K : PySem.W.Frag} {mg : Str → Option Value} {base : Heap} {x qual : Str} {st : Stmt} {f : Addr} {fd : FuncData} {cdv : Value} {N ps : List Str} {k : Nat} {sp : Sp} (F : FunC K x qual st f fd cdv) (S : FnScope N ps (defScope st)) (len : ∀ vs H Q E, sp vs H Q E → vs.length = ps.length)
    (body : ∀ (A : Around) (outer : List Env) (s : Shared) (H : Hp) (vs : List V) (Q : VK) (E : XK), Room k (A.deeper (envOfC qual (defScope st) s.heap.objs.size f cdv)) → sp vs H Q E →
      ∃ t, PSs (cxOf CX0 P w K mg base N qual (defScope st) f cdv A outer s H E).nox (defBody st) t ∧ t { nx := fun _ H' => Q .non H', rt := Q } (start N vs) H) : FnOk P w K mg base CX0 (k + 1) f fd ps sp := by
  obtain ⟨oc, od, kV, doc, pm, an, ct, osl, rfl, lk, hcd⟩ := F.ex
  refine fn_of lk hcd S len fun A outer s H vs Q E hr hsp => ?_
  obtain ⟨t, h, q⟩ := body A outer s H vs Q E hr hsp
  exact ⟨t, h.nox, q⟩
theorem units65 {A : Around} {k : Nat} (hr : Room k A) : A.units + 65 < cLine := by have := hr.un; omega
/-! ### frames but for some tables -/
def Tabs (Ps : List Addr) (H : Hp) : Prop := ∀ P ∈ Ps, GxR.TabG H P
def FrS (Ps : List Addr) (H H' : Hp) : Prop := (∀ b o, b ∉ Ps → H b = some o → H' b = some o) ∧ Tabs Ps H'
/-- tuples and lists stay -/
def Seqs (H H' : Hp) : Prop := Tups H H' ∧ ∀ b xs, H b = some (.lst xs) → H' b = some (.lst xs)
theorem Seqs.refl (H : Hp) : Seqs H H := ⟨Tups.refl H, fun _ _ e => e⟩
theorem Seqs.trans {H H1 H2 : Hp} (a : Seqs H H1) (b : Seqs H1 H2) : Seqs H H2 := ⟨a.1.trans b.1, fun c xs e => b.2 c xs (a.2 c xs e)⟩
theorem seqs_same {H H' : Hp} (s : Same H H') : Seqs H H' := ⟨tups_same s, fun b xs e => s b _ e⟩
theorem FrS.refl {Ps : List Addr} {H : Hp} (t : Tabs Ps H) : FrS Ps H H := ⟨fun _ _ _ e => e, t⟩
theorem FrS.trans {Ps : List Addr} {H H1 H2 : Hp} (a : FrS Ps H H1) (b : FrS Ps H1 H2) : FrS Ps H H2 := ⟨fun x o n e => b.1 x o n (a.1 x o n e), b.2⟩
theorem FrS.of {Ps : List Addr} {H H' : Hp} (t : Tabs Ps H) (s : Same H H') : FrS Ps H H' := ⟨fun b o _ e => s b o e, fun P hP => let ⟨ps, h, q⟩ := t P hP; ⟨ps, s _ _ h, q⟩⟩
theorem FrS.same {Ps : List Addr} {H H1 H2 : Hp} (a : FrS Ps H H1) (s : Same H1 H2) : FrS Ps H H2 := a.trans (FrS.of a.2 s)
theorem FrS.one {Ps : List Addr} {P : Addr} {H H' : Hp} (t : Tabs Ps H) (hP : P ∈ Ps) (f : GxR.Tabbed P H H') : FrS Ps H H' := by
  refine ⟨fun b o n e => ?_, fun Q hQ => ?_⟩
  · rw [f.2 b (fun z => n (by rw [z]; exact hP))]
    exact e
  · by_cases z : Q = P
    · rw [z]; exact f.1
    · obtain ⟨ps, h, q⟩ := t Q hQ
      exact ⟨ps, by rw [f.2 Q z]; exact h, q⟩
theorem Tabs.tup {Ps : List Addr} {H : Hp} (t : Tabs Ps H) {b : Addr} {xs : List V} (e : H b = some (.tup xs)) : b ∉ Ps := fun z => by
  obtain ⟨ps, h, _⟩ := t b z
  rw [e] at h
  cases h
theorem Tabs.lst {Ps : List Addr} {H : Hp} (t : Tabs Ps H) {b : Addr} {xs : List V} (e : H b = some (.lst xs)) : b ∉ Ps := fun z => by
  obtain ⟨ps, h, _⟩ := t b z
  rw [e] at h
  cases h
theorem FrS.seqs {Ps : List Addr} {H H' : Hp} (t : Tabs Ps H) (f : FrS Ps H H') : Seqs H H' := ⟨fun b xs e => f.1 b _ (t.tup e) e, fun b xs e => f.1 b _ (t.lst e) e⟩
theorem FrS.tups {Ps : List Addr} {H H' : Hp} (t : Tabs Ps H) (f : FrS Ps H H') : Tups H H' := (f.seqs t).1
theorem FrS.free {Ps : List Addr} {H H' : Hp} {b : Addr} (f : FrS Ps H H') (h : H' b = none) : H b = none := by
  cases e : H b with
  | none => rfl
  | some o =>
    by_cases z : b ∈ Ps
    · obtain ⟨ps, q, _⟩ := f.2 b z
      rw [q] at h
      cases h
    · rw [f.1 b o z e] at h
      cases h
/-- a store at a place that wasn't there at first -/
theorem FrS.put {Ps : List Addr} {H H1 : Hp} {b : Addr} {o : HO} (a : FrS Ps H H1) (n : H b = none) (nb : b ∉ Ps) : FrS Ps H (upd H1 b o) :=
  ⟨fun x u nx e => by rw [upd_ne (ne_of_none e n)]; exact a.1 x u nx e, fun P hP => by
    obtain ⟨ps, h, q⟩ := a.2 P hP
    exact ⟨ps, by rw [upd_ne (fun z : P = b => nb (by rw [← z]; exact hP))]; exact h, q⟩⟩
theorem Tabs.new {Ps : List Addr} {H : Hp} (t : Tabs Ps H) {b : Addr} (n : H b = none) : b ∉ Ps := fun z => by
  obtain ⟨ps, h, _⟩ := t b z
  rw [n] at h
  cases h
theorem Tabs.same {Ps : List Addr} {H H' : Hp} (t : Tabs Ps H) (s : Same H H') : Tabs Ps H' := (FrS.of t s).2
theorem Tabs.put {Ps : List Addr} {H : Hp} (t : Tabs Ps H) {b : Addr} {o : HO} (nb : b ∉ Ps) : Tabs Ps (upd H b o) := fun P hP => by
  obtain ⟨ps, h, q⟩ := t P hP
  exact ⟨ps, by rw [upd_ne (fun z : P = b => nb (by rw [← z]; exact hP))]; exact h, q⟩
theorem free_same {H H' : Hp} {b : Addr} (s : Same H H') (h : H' b = none) : H b = none := s.free h
theorem same_put {H H1 : Hp} {b : Addr} {o : HO} (s : Same H H1) (n : H b = none) : Same H (upd H1 b o) := fun x u e => by
  rw [upd_ne (ne_of_none e n)]
  exact s x u e
/-! ### numbers, lists -/
theorem cut_from {α : Type} (f : α → V) (l : List α) (k : Nat) : cutV (l.map f) (some (k : Int)) none = (l.drop k).map f := by
  unfold cutV
  rw [HT.sIx_nat, HT.sIx_none, List.length_map, ← List.map_drop]
  by_cases h : k ≤ l.length
  · rw [Nat.min_eq_left h, List.take_of_length_le (by rw [List.length_map, List.length_drop]; exact Nat.le_refl _)]
  · have h2 : l.drop k = [] := List.drop_eq_nil_of_le (by omega)
    rw [Nat.min_eq_right (by omega), Nat.sub_self, List.take_zero, h2]
    rfl
theorem cut_to {α : Type} (f : α → V) (l : List α) (k : Nat) : cutV (l.map f) none (some (k : Int)) = (l.take k).map f := by
  unfold cutV
  rw [HT.sIx_nat, HT.sIx_none, List.length_map, List.drop_zero, Nat.sub_zero, ← List.map_take]
  by_cases h : k ≤ l.length
  · rw [Nat.min_eq_left h]
  · rw [Nat.min_eq_right (by omega), List.take_of_length_le (Nat.le_refl _), List.take_of_length_le (by omega)]
theorem log_small {m : Int} (h0 : 0 ≤ m) (h : m < 4294967296) : m.natAbs.log2 < 9000 := by
  have e : m.natAbs < 2 ^ 32 := by omega
  by_cases z : m.natAbs = 0
  · rw [z]; decide
  · have := (Nat.log2_lt z).mpr e
    omega
def toI : V → Int
  | .int i => i
  | _ => 0
def rowAt (H : Hp) (t : Addr) : List Int := match H t with
  | some (.tup xs) => xs.map toI
  | _ => []
theorem rowAt_of {H : Hp} {t : Addr} {row : Dt.Row} (h : IsRow H t row) : rowAt H t = row := by
  unfold rowAt
  rw [show H t = some (.tup (row.map V.int)) from h]
  show (row.map V.int).map toI = row
  rw [List.map_map]
  have e : (toI ∘ V.int) = id := by funext z; rfl
  rw [e, List.map_id]
def rngI (m : Int) : List Int := (List.range m.toNat).map fun (i : Nat) => (i : Int)
theorem rngI_len (m : Int) : (rngI m).length = m.toNat := by
  unfold rngI
  rw [List.length_map, List.length_range]
theorem rngI_mem {m z : Int} (h : z ∈ rngI m) : 0 ≤ z ∧ z < m := by
  obtain ⟨i, hi, rfl⟩ := List.mem_map.mp h
  have := List.mem_range.mp hi
  omega
theorem rngI_all {m : Int} {k : Nat} (h : (k : Int) < m) : (k : Int) ∈ rngI m := List.mem_map.mpr ⟨k, List.mem_range.mpr (by omega), rfl⟩
theorem rngI_nodup (m : Int) : (rngI m).Nodup := by
  unfold rngI
  refine List.Pairwise.map _ (fun a b h z => h ?_) (List.nodup_range (n := m.toNat))
  omega
theorem rgV_eq (m : Int) : rgV 0 m = (rngI m).map V.int := by
  unfold rgV rngI
  rw [List.map_map]
  have e : (m - 0).toNat = m.toNat := by rw [Int.sub_zero]
  rw [e]
  refine List.map_congr_left fun i _ => ?_
  show V.int (0 + (i : Int)) = V.int (i : Int)
  rw [Int.zero_add]
theorem map_erase {α : Type} (f : α → V) (ls : List α) (k : Nat) : (ls.map f).eraseIdx k = (ls.eraseIdx k).map f := by
  induction ls generalizing k with
  | nil => rfl
  | cons a r ih => cases k with
    | zero => rfl
    | succ k => simp [ih]
theorem erase_perm {α : Type} : ∀ (l : List α) (k : Nat) (h : k < l.length), (l[k] :: l.eraseIdx k).Perm l
  | [], k, h => absurd h (Nat.not_lt_zero _)
  | a :: r, 0, _ => List.Perm.refl _
  | a :: r, k + 1, h => by
    have ih := erase_perm r k (Nat.lt_of_succ_lt_succ h)
    show ((r[k]'(Nat.lt_of_succ_lt_succ h)) :: a :: r.eraseIdx k).Perm (a :: r)
    exact (List.Perm.swap a _ _).trans (List.Perm.cons a ih)
theorem map_get {α : Type} {f : α → V} {l : List α} {i : Nat} {x : V} (h : (l.map f)[i]? = some x) : ∃ a, l[i]? = some a ∧ x = f a := by
  rw [List.getElem?_map] at h
  cases e : l[i]? with
  | none => rw [e] at h; cases h
  | some a => rw [e] at h; cases h; exact ⟨a, rfl, rfl⟩
theorem map_at {α : Type} {f : α → V} {l : List α} {i : Nat} {a : α} (h : l[i]? = some a) : (l.map f)[i]? = some (f a) := by
  rw [List.getElem?_map, h]
  rfl
theorem atI_of {α : Type} {f : α → V} {l : List α} {p : Int} {a : α} (h0 : 0 ≤ p) (h : l[p.toNat]? = some a) : atI (l.map f) p = some (f a) := by
  have e : p = ((p.toNat : Nat) : Int) := by omega
  have q := atI_nat (xs := l.map f) (j := p.toNat) (v := f a) (map_at h)
  rw [← e] at q
  exact q
theorem ixN_of {n : Nat} {p : Int} (h0 : 0 ≤ p) (h1 : p < n) : ixN n p = some p.toNat := by
  unfold ixN
  rw [if_pos h0, if_pos h1]
theorem take_snoc {α : Type} {l : List α} {i : Nat} {a : α} (h : l[i]? = some a) : l.take (i + 1) = l.take i ++ [a] := by
  rw [List.take_add_one, h]
  rfl
/-! ### the tape -/
def Tape (H : Hp) (tp : Addr) : Prop := ∃ b c : Int, H tp = some (.lst [.int b, .int c]) ∧ 0 ≤ b ∧ 0 ≤ c ∧ c ≤ 2147483647
def Taped (tp : Addr) (H H' : Hp) : Prop := (∀ b o, b ≠ tp → H b = some o → H' b = some o) ∧ Tape H' tp
theorem Tape.same {H H' : Hp} {tp : Addr} (h : Tape H tp) (s : Same H H') : Tape H' tp := let ⟨b, c, h1, r⟩ := h; ⟨b, c, s _ _ h1, r⟩
theorem Tape.seqs {H H' : Hp} {tp : Addr} (h : Tape H tp) (s : Seqs H H') : Tape H' tp := let ⟨b, c, h1, r⟩ := h; ⟨b, c, s.2 _ _ h1, r⟩
theorem Tape.new {H : Hp} {tp b : Addr} (h : Tape H tp) (n : H b = none) : b ≠ tp := fun z => by
  obtain ⟨_, _, h1, _⟩ := h
  rw [z, h1] at n
  cases n
theorem Tape.put {H : Hp} {tp b : Addr} {o : HO} (h : Tape H tp) (n : b ≠ tp) : Tape (upd H b o) tp := let ⟨x, c, h1, r⟩ := h; ⟨x, c, by rw [upd_ne n.symm]; exact h1, r⟩
theorem Taped.refl {H : Hp} {tp : Addr} (h : Tape H tp) : Taped tp H H := ⟨fun _ _ _ e => e, h⟩
theorem Taped.trans {H H1 H2 : Hp} {tp : Addr} (a : Taped tp H H1) (b : Taped tp H1 H2) : Taped tp H H2 := ⟨fun x o n e => b.1 x o n (a.1 x o n e), b.2⟩
theorem Taped.same {H H1 H2 : Hp} {tp : Addr} (a : Taped tp H H1) (s : Same H1 H2) : Taped tp H H2 := ⟨fun x o n e => s _ _ (a.1 x o n e), a.2.same s⟩
theorem Taped.put {H H1 : Hp} {tp b : Addr} {o : HO} (a : Taped tp H H1) (n : H b = none) (nb : b ≠ tp) : Taped tp H (upd H1 b o) :=
  ⟨fun x u nx e => by rw [upd_ne (ne_of_none e n)]; exact a.1 x u nx e, a.2.put nb⟩
theorem Taped.tups {H H' : Hp} {tp : Addr} (t : Tape H tp) (a : Taped tp H H') : Tups H H' := fun b xs e => by
  obtain ⟨_, _, h1, _⟩ := t
  exact a.1 b _ (fun z => by rw [z, h1] at e; cases e) e
theorem Taped.free {H H' : Hp} {tp b : Addr} (a : Taped tp H H') (n : H' b = none) : H b = none := by
  cases e : H b with
  | none => rfl
  | some o =>
    have m := a.2.new n
    rw [a.1 b o m e] at n
    cases n
theorem Taped.tabs {Ps : List Addr} {H H' : Hp} {tp : Addr} (t : Tape H tp) (a : Taped tp H H') (tt : Tabs Ps H) : Tabs Ps H' := fun P hP => by
  obtain ⟨ps, h, q⟩ := tt P hP
  obtain ⟨_, _, h1, _⟩ := t
  exact ⟨ps, a.1 P _ (fun z => by rw [z, h1] at h; cases h) h, q⟩
/-- len of a list or a tuple -/
def rLen (K : PySem.W.Frag) : List V → Hp → VK → Prop := fun xs H Q => ∃ p ys, xs = [.ref p] ∧ (SqL K H p ys ∨ SqT K H p ys) ∧ Q (.int (ys.length : Nat)) H
/-! ### pairs of ints, written -/
def pairsT : List (Int × Int) → TA
  | [] => tNil
  | p :: r => tCons (tTup (tCons (tC (.int p.1)) (tCons (tC (.int p.2)) tNil))) (pairsT r)
def IsPr (H : Hp) (t : Addr) (p : Int × Int) : Prop := H t = some (.tup [.int p.1, .int p.2])
theorem pairs_read {σ : L2.St} : ∀ (prs : List (Int × Int)) (H : Hp) (k : List V → Hp → Prop), (∀ ts H', Same H H' → Paired (IsPr H') ts prs → k (ts.map V.ref) H') → pairsT prs σ H k
  | [], H, k, h => h [] H (fun _ _ e => e) .nil
  | p :: r, H, k, h => by
    refine ⟨(by show 2 ≤ sizeLine; decide), fun t nt => ?_⟩
    refine pairs_read r _ _ fun ts H' sm pr => ?_
    exact h (t :: ts) H' ((same_upd nt).trans sm) (.cons (sm _ _ upd_same) pr)
theorem pairs_list {σ : L2.St} {prs : List (Int × Int)} {H : Hp} {Q : VK} (hl : prs.length ≤ 1000) (h : ∀ l ts H', Same H H' → H l = none → H' l = some (.lst (ts.map V.ref)) → Paired (IsPr H') ts prs → Q (.ref l) H') : tLst (pairsT prs) σ H Q := by
  refine pairs_read prs H _ fun ts H' sm pr => ?_
  refine ⟨by rw [List.length_map, pairedLen pr]; exact Nat.le_of_lt (small1000 hl), fun l nl => ?_⟩
  have sl := same_upd (o := .lst (ts.map V.ref)) nl
  exact h l ts _ (sm.trans sl) (sm.free nl) upd_same (pairedMap (fun _ _ e => sl _ _ e) pr)
theorem pairs_asg {i : Nat} {prs : List (Int × Int)} {D : Ends} {σ : L2.St} {H : Hp} (hl : prs.length ≤ 1000) (h : ∀ l ts H', Same H H' → H l = none → H' l = some (.lst (ts.map V.ref)) → Paired (IsPr H') ts prs → D.nx (σ.set i (some (.ref l))) H') : tAsg (tLst (pairsT prs)) (gName i) D σ H := by
  unfold tAsg
  exact pairs_list hl fun l ts H' a b c d => h l ts H' a b c d
theorem pairs_set {i : Nat} {prs : List (Int × Int)} {u : TS} {D : Ends} {σ : L2.St} {H : Hp} (hl : prs.length ≤ 1000) (h : ∀ l ts H', Same H H' → H l = none → H' l = some (.lst (ts.map V.ref)) → Paired (IsPr H') ts prs → u D (σ.set i (some (.ref l))) H') : tSeq (tAsg (tLst (pairsT prs)) (gName i)) u D σ H := pairs_asg hl h
/-! ### things popped at drawn places -/
structure Pops {α : Type} (f : α → V) (tp : Addr) (H : Hp) (l D : Addr) (zs0 : List α) (i : Nat) (H5 : Hp) (acc ls : List α) : Prop where
  fr : Taped tp H H5
  hL : H5 l = some (.lst (ls.map f))
  hD : H5 D = some (.lst (acc.map f))
  la : acc.length = i
  ll : ls.length + i = zs0.length
  pm : (acc ++ ls).Perm zs0
theorem pop_step {α : Type} {f : α → V} {tp : Addr} {H : Hp} {l D : Addr} {zs0 : List α} {i : Nat} {H5 H6 : Hp} {acc ls : List α} {d : Int} (nl : H l = none) (nlt : l ≠ tp) (nD : H D = none) (nDt : D ≠ tp) (nlD : l ≠ D) (hz : zs0.length ≤ 999) (p : Pops f tp H l D zs0 i H5 acc ls) (D6 : Taped tp H5 H6) (d0 : 0 ≤ d) (d1 : d < (ls.length : Int)) :
    ∃ y, (ls.map f)[d.toNat]? = some y ∧ H6 l = some (.lst (ls.map f)) ∧ seqIndex? d (ls.map f).length = some d.toNat ∧ ∃ acc', upd H6 l (.lst ((ls.map f).eraseIdx d.toNat)) D = some (.lst acc') ∧ acc'.length < sizeLine ∧ ∃ acc2 ls2, Pops f tp H l D zs0 (i + 1) (upd (upd H6 l (.lst ((ls.map f).eraseIdx d.toNat))) D (.lst (acc' ++ [y]))) acc2 ls2 := by
  have hd : d.toNat < ls.length := by omega
  have hL6 := D6.1 l _ nlt p.hL
  have hD6 := D6.1 D _ nDt p.hD
  have la := p.la
  have ll := p.ll
  refine ⟨f ls[d.toNat], map_at (List.getElem?_eq_getElem hd), hL6, seqIndex_of d0 (by rw [List.length_map]; exact d1), acc.map f, ?_, ?_, acc ++ [ls[d.toNat]], ls.eraseIdx d.toNat, ?_, ?_, ?_, ?_, ?_, ?_⟩
  · rw [upd_ne (Ne.symm nlD)]
    exact hD6
  · rw [List.length_map]
    exact small1000 (by omega)
  · exact ((p.fr.trans D6).put nl nlt).put nD nDt
  · rw [upd_ne nlD, upd_same, map_erase]
  · rw [upd_same, List.map_append]
    rfl
  · rw [List.length_append, la]
    rfl
  · rw [List.length_eraseIdx_of_lt hd]
    omega
  · refine List.Perm.trans ?_ p.pm
    rw [List.append_assoc]
    exact List.Perm.append_left acc (erase_perm ls _ hd)
/-! ### lists of rows -/
def IsFills (H : Hp) (l : Addr) (fss : List (List Int)) : Prop := ∃ as : List Addr, H l = some (.lst (as.map V.ref)) ∧ Paired (IsRow H) as fss
theorem pairedSnoc {α β : Type} {F : α → β → Prop} {a : α} {b : β} : ∀ {l : List α} {m : List β}, Paired F l m → F a b → Paired F (l ++ [a]) (m ++ [b])
  | _, _, .nil, h => .cons h .nil
  | _, _, .cons h t, k => .cons h (pairedSnoc t k)
theorem pairedApp {α β : Type} {F : α → β → Prop} {l2 : List α} {m2 : List β} : ∀ {l : List α} {m : List β}, Paired F l m → Paired F l2 m2 → Paired F (l ++ l2) (m ++ m2)
  | _, _, .nil, h => h
  | _, _, .cons h t, k => .cons h (pairedApp t k)
theorem yes_if {σ : L2.St} {H : Hp} {A B : Hp → Prop} (h : A H) : tYes σ H (fun b H3 => if b = true then A H3 else B H3) := by
  dsimp only [tYes]
  rw [if_pos rfl]
  exact h
theorem longer_at {hues j : Nat} (f : List Int) (h : j < hues) : (longer hues f)[j]? = some (f ++ [(j : Int)]) := by
  unfold longer
  rw [List.getElem?_map, List.getElem?_range h]
  rfl
theorem pairedZip {α β : Type} {F : α → β → Prop} : ∀ {l : List α} {m : List β}, Paired F l m → ∃ zs : List (α × β), zs.map (·.1) = l ∧ zs.map (·.2) = m ∧ ∀ z ∈ zs, F z.1 z.2
  | _, _, .nil => ⟨[], rfl, rfl, fun _ h => nomatch h⟩
  | a :: _, b :: _, .cons h t => by
    obtain ⟨zs, h1, h2, h3⟩ := pairedZip t
    refine ⟨(a, b) :: zs, by rw [List.map_cons, h1], by rw [List.map_cons, h2], fun z hz => ?_⟩
    rcases List.mem_cons.mp hz with e | e
    · rw [e]; exact h
    · exact h3 z e
theorem pairedOf {α β : Type} {F : α → β → Prop} {g : α → β} : ∀ {l : List α}, (∀ a ∈ l, F a (g a)) → Paired F l (l.map g)
  | [], _ => .nil
  | a :: r, h => .cons (h a List.mem_cons_self) (pairedOf fun b hb => h b (List.mem_cons_of_mem _ hb))
theorem longer_nodup (hues : Nat) (f : List Int) : (longer hues f).Nodup := by
  unfold longer
  refine List.Pairwise.map _ (fun a b h z => h ?_) (List.nodup_range (n := hues))
  have := List.append_cancel_left z
  simp only [List.cons.injEq, and_true] at this
  omega
theorem flat_nodup {hues : Nat} : ∀ {l : List (List Int)}, l.Nodup → (l.flatMap (longer hues)).Nodup
  | [], _ => by simp
  | f :: r, h => by
    rw [List.flatMap_cons]
    have hh := List.nodup_cons.mp h
    refine List.nodup_append.mpr ⟨longer_nodup hues f, flat_nodup hh.2, fun a ha b hb e => ?_⟩
    obtain ⟨i, _, rfl⟩ := List.mem_map.mp ha
    obtain ⟨g, hg, hb2⟩ := List.mem_flatMap.mp hb
    obtain ⟨j, _, rfl⟩ := List.mem_map.mp hb2
    have e2 : f = g := by
      have := congrArg List.dropLast e
      simpa using this
    exact hh.1 (e2 ▸ hg)
theorem fill_nodup (hues : Nat) : ∀ n : Nat, (fillL hues n).Nodup
  | 0 => by simp [fillL]
  | n + 1 => flat_nodup (fill_nodup hues n)
/-- places rising, no row twice -/
structure Neat (wd : WD) : Prop where
  pl : wd.1.Pairwise (· < ·)
  rows : wd.2.Nodup
theorem Neat.nd {wd : WD} (h : Neat wd) : wd.1.Nodup := h.pl.imp fun z e => by omega
theorem rise_of {ps : List Int} (h : ps.Pairwise (· ≤ ·)) (n : ps.Nodup) : ps.Pairwise (· < ·) := by
  have z := List.Pairwise.and h n
  exact z.imp fun ⟨a, b⟩ => by omega
/-! ### tables of draws -/
abbrev IsInts (H : Hp) (a : Addr) (ns : List Int) : Prop := H a = some (.lst (ns.map V.int))
/-- a list of lists of ints, none of them in Av -/
def IsTab (Av : Addr → Prop) (H : Hp) (ta : Addr) (tb : List (List Int)) : Prop := ∃ das : List Addr, H ta = some (.lst (das.map V.ref)) ∧ ¬ Av ta ∧ (∀ d ∈ das, ¬ Av d) ∧ Paired (IsInts H) das tb
theorem IsTab.mono {Av : Addr → Prop} {H H' : Hp} {ta : Addr} {tb : List (List Int)} (h : IsTab Av H ta tb) (k : ∀ b xs, ¬ Av b → H b = some (.lst xs) → H' b = some (.lst xs)) : IsTab Av H' ta tb := by
  obtain ⟨das, h1, h2, h3, h4⟩ := h
  refine ⟨das, k _ _ h2 h1, h2, h3, ?_⟩
  clear h1
  induction h4 with
  | nil => exact .nil
  | @cons a b l m e t ih => exact .cons (k _ _ (h3 a List.mem_cons_self) e) (ih fun d hd => h3 d (List.mem_cons_of_mem _ hd))
theorem IsTab.seqs {Av : Addr → Prop} {H H' : Hp} {ta : Addr} {tb : List (List Int)} (h : IsTab Av H ta tb) (s : Seqs H H') : IsTab Av H' ta tb := h.mono fun b xs _ e => s.2 b xs e
theorem IsTab.weak {Av Bv : Addr → Prop} {H : Hp} {ta : Addr} {tb : List (List Int)} (h : IsTab Av H ta tb) (k : ∀ b, Bv b → Av b) : IsTab Bv H ta tb := let ⟨das, h1, h2, h3, h4⟩ := h; ⟨das, h1, fun z => h2 (k _ z), fun d hd z => h3 d hd (k _ z), h4⟩
theorem IsTab.none {Av : Addr → Prop} {H : Hp} {ta : Addr} {tb : List (List Int)} (h : IsTab Av H ta tb) : IsTab (fun _ => False) H ta tb := h.weak fun _ z => z.elim
abbrev Old (H : Hp) : Addr → Prop := fun b => H b ≠ none
theorem IsTab.taped {tp : Addr} {H H' : Hp} {ta : Addr} {tb : List (List Int)} (h : IsTab (· = tp) H ta tb) (f : Taped tp H H') : IsTab (· = tp) H' ta tb := h.mono fun b xs n e => f.1 b _ n e
theorem Tape.old {H : Hp} {tp : Addr} (h : Tape H tp) : ∀ b, b = tp → Old H b := fun b e z => by
  obtain ⟨_, _, h1, _⟩ := h
  rw [e, h1] at z
  cases z
theorem dpTabs {K : PySem.W.Frag} {H : Hp} : ∀ {das : List Addr} {tb : List (List Int)}, Paired (IsInts H) das tb → DpAll K H (das.map V.ref) (tb.map fun l => .list (l.map .int))
  | _, _, .nil => .nil
  | _, _, .cons h t => .cons (.lst (.inl (.inl h)) (dpInts _)) (dpTabs t)
theorem dpTab {K : PySem.W.Frag} {Av : Addr → Prop} {H : Hp} {ta : Addr} {tb : List (List Int)} (h : IsTab Av H ta tb) : Dp K H (.ref ta) (listsD tb) := by
  obtain ⟨das, h1, _, _, h4⟩ := h
  exact .lst (.inl (.inl h1)) (dpTabs h4)
/-! ### logs and what a run tells -/
def IsEnt (H : Hp) (e : Addr) (x : Int × List Int) : Prop := ∃ r, H e = some (.tup [.int x.1, .ref r]) ∧ IsRow H r x.2
def IsLog (H : Hp) (la : Addr) (log : Log) : Prop := ∃ es : List Addr, H la = some (.lst (es.map V.ref)) ∧ Paired (IsEnt H) es log
theorem IsEnt.mono {H H' : Hp} {e : Addr} {x : Int × List Int} (h : IsEnt H e x) (t : Tups H H') : IsEnt H' e x := let ⟨r, h1, h2⟩ := h; ⟨r, t _ _ h1, t _ _ h2⟩
theorem IsLog.seqs {H H' : Hp} {la : Addr} {log : Log} (h : IsLog H la log) (s : Seqs H H') : IsLog H' la log := let ⟨es, h1, h2⟩ := h; ⟨es, s.2 _ _ h1, pairedMap (fun _ _ e => e.mono s.1) h2⟩
theorem IsLog.keep {H H' : Hp} {la : Addr} {log : Log} (h : IsLog H la log) (t : Tups H H') (k : ∀ xs, H la = some (.lst xs) → H' la = some (.lst xs)) : IsLog H' la log := let ⟨es, h1, h2⟩ := h; ⟨es, k _ h1, pairedMap (fun _ _ e => e.mono t) h2⟩
def entD (x : Int × List Int) : PyData := .tuple [.int x.1, rowD x.2]
def logD (log : Log) : PyData := .list (log.map entD)
def endS (b : Bool) : Str := if b = true then "kept" else "spent"
def resD (R : Res) : PyData := .tuple [.str (endS R.1), rowD R.2.1, logD R.2.2]
theorem dpEnts {K : PySem.W.Frag} {H : Hp} : ∀ {es : List Addr} {log : Log}, Paired (IsEnt H) es log → DpAll K H (es.map V.ref) (log.map entD)
  | _, _, .nil => .nil
  | _, _, .cons ⟨r, h1, h2⟩ t => .cons (.tup (.inl (.inl h1)) (.cons (.int _) (.cons (dpRow h2) .nil))) (dpEnts t)
theorem dpLog {K : PySem.W.Frag} {H : Hp} {la : Addr} {log : Log} (h : IsLog H la log) : Dp K H (.ref la) (logD log) := let ⟨es, h1, h2⟩ := h; .lst (.inl (.inl h1)) (dpEnts h2)
/-- what a run tells: the tuple, the filling and the log's list, which is new -/
def IsRes (H0 H : Hp) (t : Addr) (R : Res) : Prop := ∃ fa la, H t = some (.tup [.str (endS R.1), .ref fa, .ref la]) ∧ IsRow H fa R.2.1 ∧ IsLog H la R.2.2 ∧ H0 la = none
theorem dpRes {K : PySem.W.Frag} {H0 H : Hp} {t : Addr} {R : Res} (h : IsRes H0 H t R) : Dp K H (.ref t) (resD R) := let ⟨fa, la, h1, h2, h3, _⟩ := h; .tup (.inl (.inl h1)) (.cons (.str _) (.cons (dpRow h2) (.cons (dpLog h3) .nil)))
theorem IsRes.seqs {H0 H H' : Hp} {t : Addr} {R : Res} (h : IsRes H0 H t R) (s : Seqs H H') : IsRes H0 H' t R := let ⟨fa, la, h1, h2, h3, h4⟩ := h; ⟨fa, la, s.1 _ _ h1, s.1 _ _ h2, h3.seqs s, h4⟩
theorem IsRes.old {H0 H1 H : Hp} {t : Addr} {R : Res} (h : IsRes H1 H t R) (k : ∀ b, H1 b = none → H0 b = none) : IsRes H0 H t R := let ⟨fa, la, h1, h2, h3, h4⟩ := h; ⟨fa, la, h1, h2, h3, k _ h4⟩
/-- each log's pair is fine -/
theorem fine_ent {many hues : Int} {wds : List WD} (gr : GoodR many hues wds) {x : Int × List Int} (h : 0 ≤ x.1 ∧ x.1 < (wds.length : Int) ∧ ∃ wd, wds[x.1.toNat]? = some wd ∧ x.2 ∈ wd.2) : Fine (entD x) 3 80 := by
  obtain ⟨h0, h1, wd, hw, hr⟩ := h
  have e8 := gr.eight
  have g := gr.each wd (List.mem_of_getElem? hw)
  have a := fine_int (i := x.1) h0 (by omega)
  have b : Fine (rowD x.2) 2 64 := fine_row (fun z hz => ⟨((g.row _ hr).2 z hz).1, by have := ((g.row _ hr).2 z hz).2; have := gr.h4; omega⟩) (by have := (g.row _ hr).1; have := g.three; omega)
  exact (Fine.tuple (FineAll.cons (a.mono (by omega) (Nat.le_refl _)) (FineAll.cons b (FineAll.nil _)))).mono (Nat.le_refl _) (by omega)
theorem fine_log {many hues : Int} {wds : List WD} (gr : GoodR many hues wds) {log : Log} (h : LogOk wds log) (hl : log.length ≤ 6000) : Fine (logD log) 4 600000 :=
  (Fine.list (fineAll_map log fun x hx => fine_ent gr (h x hx))).mono (Nat.le_refl _) (by omega)
theorem fine_end (b : Bool) : Fine (.str (endS b)) 1 64 := by
  cases b <;> exact ⟨by decide +kernel, by decide +kernel, by decide +kernel, by decide +kernel, by decide +kernel, by decide +kernel⟩
theorem fine_res {many hues : Int} {wds : List WD} (gr : GoodR many hues wds) {R : Res} (gf : GoodF many hues R.2.1) (h : LogOk wds R.2.2) (hl : R.2.2.length ≤ 6000) : Fine (resD R) 5 700000 :=
  (Fine.tuple (FineAll.cons ((fine_end R.1).mono (by omega) (Nat.le_refl _)) (FineAll.cons ((fine_fill gf gr.m6 gr.h4).mono (by omega) (Nat.le_refl _)) (FineAll.cons (fine_log gr h hl) (FineAll.nil _))))).mono (Nat.le_refl _) (by omega)
theorem fine_tabT {many hues : Int} {tb : List (List Int)} (m6 : many ≤ 6) (h4 : hues ≤ 4) (g : GoodT many hues tb) : Fine (listsD tb) 3 100000 := by
  have hl := g.len
  refine (Fine.list (fineAll_map tb (n := 2) (w := 15000) fun l hm => (fine_ints fun z hz => ⟨(g.hue l hm z hz).1, by have := (g.hue l hm z hz).2; omega⟩).mono (Nat.le_refl _) (by have := g.few l hm; omega))).mono (Nat.le_refl _) ?_
  have : tb.length ≤ 6 := by omega
  omega
/-! ### equality of data -/
theorem eqv_str (a b : Str) : PyData.eqv (.str a) (.str b) = (a == b) := by simp [PyData.eqv]
end Rd
namespace Gx
open PySem PySem.Spec PyProof.Rows L2 GenW
theorem tup_zipL {K : PySem.W.Frag} {a b : Addr} {xs ys : List V} {g : TG} {tt : TT} {te : TE} {vs : List Nat} {σ : L2.St} {Q : List V → Hp → Prop} {H2 : Hp} (hl : xs.length = ys.length) (hz : xs.length ≤ sizeLine) (Pv : Nat → List V → Hp → Prop) (h0 : Pv 0 [] H2) (hq : ∀ i zs H, Pv i zs H → SqL K H a xs ∧ SqL K H b ys) (hy : ∀ i zs H, Pv i zs H → zs.length ≤ i)
    (hs : ∀ i x y T zs H, xs[i]? = some x → ys[i]? = some y → Pv i zs H → H T = none → g (.ref T) (wipe σ vs) (upd H T (.tup [x, y])) fun σ2 H2 => wipe σ2 vs = wipe σ vs ∧ tt σ2 H2 fun b H3 => if b = true then te σ2 H3 fun y H4 => Pv (i + 1) (zs ++ [y]) H4 else Pv (i + 1) zs H3) (hd : ∀ zs H, Pv xs.length zs H → Q zs H) :
    ∃ W : Nat → Nat → List V → Hp → Prop, (∃ m, W 0 m [] H2) ∧ TurnsC (Itz K a b) g tt te vs σ Q W := by
  refine ⟨fun i m zs H => m = xs.length - i ∧ i ≤ xs.length ∧ Pv i zs H, ⟨xs.length, by simp, Nat.zero_le _, h0⟩, ?_⟩
  rintro i m zs H ⟨rfl, hi, p⟩
  obtain ⟨qx, qy⟩ := hq i zs H p
  by_cases hlt : i < xs.length
  · have hx : xs[i]? = some xs[i] := List.getElem?_eq_getElem hlt
    have hlt2 : i < ys.length := by omega
    have hy2 : ys[i]? = some ys[i] := List.getElem?_eq_getElem hlt2
    refine .inr ⟨⟨xs, ys, _, _, qx, qy, hx, hy2⟩, Nat.lt_of_le_of_lt (hy i zs H p) (Nat.lt_of_lt_of_le hlt hz), Pv (i + 1), fun zs' H' p' => ⟨xs.length - (i + 1), by omega, rfl, hlt, p'⟩, fun v H' y => ?_⟩
    obtain ⟨T, x', y', rfl, hT, rfl, f1, f2⟩ := y
    exact hs i x' y' T zs H (f1 xs qx) (f2 ys qy) p hT
  · have e : i = xs.length := by omega
    subst e
    exact .inl ⟨⟨xs, ys, qx, qy, Or.inl (Nat.le_refl _)⟩, hd zs H p⟩
end Gx
namespace Rd
open PySem PySem.Spec PyProof.Rows L2 Dt
def leftAt (tb : List (List Int)) (tk : List Int) (p : Int) : List Int := (leftOf tb tk).getD p.toNat []
theorem leftAt_get {tb : List (List Int)} {tk : List Int} {p : Int} (g : GoodK tb tk) (h0 : 0 ≤ p) (h1 : p < (tb.length : Int)) : (leftOf tb tk)[p.toNat]? = some (leftAt tb tk p) := by
  have h : p.toNat < (leftOf tb tk).length := by rw [left_len g]; omega
  rw [leftAt, getD_get h]
  exact List.getElem?_eq_getElem h
theorem leftAt_nil {tb : List (List Int)} {tk : List Int} {p : Int} (g : GoodK tb tk) (h0 : 0 ≤ p) (h1 : p < (tb.length : Int)) : (leftAt tb tk p = []) ↔ ¬ (atF tk p + 1 < lenAt tb p) := by
  have hp : p.toNat < tb.length := by omega
  have e := left_get g hp
  rw [leftAt_get g h0 h1] at e
  rw [Option.some.inj e, List.drop_eq_nil_iff]
  have a := g.at_ _ hp
  unfold atF lenAt
  omega
theorem eqv_ints_nil (l : List Int) : PyData.eqv (.list (l.map .int)) (.list []) = decide (l = []) := by
  cases l with
  | nil => simp [PyData.eqv, PyData.eqvAll]
  | cons a r => simp [PyData.eqv, PyData.eqvAll]
theorem any_left {tb : List (List Int)} {tk : List Int} (g : GoodK tb tk) : ∀ ps : List Int, (∀ p ∈ ps, 0 ≤ p ∧ p < (tb.length : Int)) → ((ps.map fun p => PyData.list ((leftAt tb tk p).map .int)).any fun z => PyData.eqv z (.list [])) = !canN tb tk ps
  | [], _ => rfl
  | p :: r, h => by
    have hp := h p List.mem_cons_self
    rw [List.map_cons, List.any_cons, any_left g r fun q hq => h q (List.mem_cons_of_mem _ hq), eqv_ints_nil]
    unfold canN
    rw [List.all_cons, Bool.not_and]
    congr 1
    by_cases e : leftAt tb tk p = []
    · rw [decide_eq_true e, decide_eq_false ((leftAt_nil g hp.1 hp.2).mp e)]
      rfl
    · rw [decide_eq_false e, decide_eq_true (Classical.not_not.mp fun z => e ((leftAt_nil g hp.1 hp.2).mpr z))]
      rfl
theorem stand0 {many hues : Int} {tb : List (List Int)} (g : GoodT many hues tb) {i : Nat} {ds : List Int} (h : tb[i]? = some ds) : (stand tb (zerosI tb.length))[i]? = some (atF ds 0) := by
  have hi : i < tb.length := (List.getElem?_eq_some_iff.mp h).1
  rw [stand_get (zeros_good g) hi, zeros_get, List.getD_eq_getElem?_getD, h]
  rfl
theorem left0 {many hues : Int} {tb : List (List Int)} (g : GoodT many hues tb) {i : Nat} {ds : List Int} (h : tb[i]? = some ds) : (leftOf tb (zerosI tb.length))[i]? = some (ds.drop 1) := by
  have hi : i < tb.length := (List.getElem?_eq_some_iff.mp h).1
  rw [left_get (zeros_good g) hi, zeros_get, List.getD_eq_getElem?_getD, h]
  rfl
theorem paired_upd {H : Hp} {D : Addr} {o : HO} : ∀ {l : List Addr} {m : List (List Int)}, Paired (IsInts H) l m → (∀ d ∈ l, d ≠ D) → Paired (IsInts (upd H D o)) l m
  | _, _, .nil, _ => .nil
  | a :: _, _, .cons h t, n => .cons (by show upd H D o a = _; rw [upd_ne (n a List.mem_cons_self)]; exact h) (paired_upd t fun d hd => n d (List.mem_cons_of_mem _ hd))
theorem paired_set {α β : Type} {F : α → β → Prop} : ∀ {l : List α} {m : List β} {i : Nat} {a : α} {b : β}, Paired F l m → F a b → Paired F (l.set i a) (m.set i b)
  | _, _, _, _, _, .nil, _ => .nil
  | _, _, 0, _, _, .cons _ t, h => .cons h t
  | _, _, i + 1, _, _, .cons e t, h => .cons e (paired_set (i := i) t h)
theorem paired_fresh {H : Hp} {D : Addr} {l : List Addr} {m : List (List Int)} (p : Paired (IsInts H) l m) (n : H D = none) : ∀ d ∈ l, d ≠ D := fun d hd z => by
  obtain ⟨j, hj⟩ := List.getElem?_of_mem hd
  obtain ⟨row, _, e⟩ := pairedGetL p hj
  have e2 : H d = some (.lst (row.map V.int)) := e
  rw [z, n] at e2
  cases e2
end Rd
namespace Rd
open PySem PySem.Spec PyProof.Rows L2 Dt
/-! ### the script's list, the tape and the tables, together -/
def rListO (K : PySem.W.Frag) : List V → Hp → VK → Prop := fun xs H Q => ∃ p ys, xs = [.ref p] ∧ (SqL K H p ys ∨ SqT K H p ys) ∧ ∀ l, H l = none → Q (.ref l) (upd H l (.lst ys))
theorem sq_keep {K : PySem.W.Frag} {H H' : Hp} {a : Addr} {xs : List V} (h : SqL K H a xs) (k : ∀ o, H a = some o → H' a = some o) : SqL K H' a xs := by
  rcases h with (h | ⟨o, h⟩) | h
  · exact .inl (.inl (k _ h))
  · exact .inl (.inr ⟨o, k _ h⟩)
  · exact .inr h
theorem sq_new {K : PySem.W.Frag} {H : Hp} {a tp : Addr} {xs : List V} (h : SqL K H a xs) (n : H tp = none) (e : a = tp) (H' : Hp) : SqL K H' a xs := by
  rcases h with (h | ⟨o, h⟩) | h
  · rw [e, n] at h; cases h
  · rw [e, n] at h; cases h
  · exact .inr h
theorem Tabs.sq {K : PySem.W.Frag} {Ps : List Addr} {H H' : Hp} {a : Addr} {xs : List V} (t : Tabs Ps H) (f : FrS Ps H H') (h : SqL K H a xs) : SqL K H' a xs := by
  rcases h with (h | ⟨o, h⟩) | h
  · exact .inl (.inl (f.1 _ _ (t.lst h) h))
  · exact .inl (.inr ⟨o, f.1 _ _ (fun z => by obtain ⟨ps, q, _⟩ := t a z; rw [h] at q; cases q) h⟩)
  · exact .inr h
structure LI (K : PySem.W.Frag) (a : Addr) (xs : List V) (Ps : List Addr) (tp : Addr) (H : Hp) : Prop where
  tape : Tape H tp
  tabs : Tabs Ps H
  scr : SqL K H a xs
  far : a = tp → ∀ H', SqL K H' a xs
theorem LI.frs {K : PySem.W.Frag} {a : Addr} {xs : List V} {Ps : List Addr} {tp : Addr} {H H' : Hp} (h : LI K a xs Ps tp H) (f : FrS Ps H H') : LI K a xs Ps tp H' := ⟨h.tape.seqs (f.seqs h.tabs), f.2, h.tabs.sq f h.scr, h.far⟩
theorem LI.same {K : PySem.W.Frag} {a : Addr} {xs : List V} {Ps : List Addr} {tp : Addr} {H H' : Hp} (h : LI K a xs Ps tp H) (s : Same H H') : LI K a xs Ps tp H' := h.frs (FrS.of h.tabs s)
theorem LI.taped {K : PySem.W.Frag} {a : Addr} {xs : List V} {Ps : List Addr} {tp : Addr} {H H' : Hp} (h : LI K a xs Ps tp H) (f : Taped tp H H') : LI K a xs Ps tp H' := by
  refine ⟨f.2, f.tabs h.tape h.tabs, ?_, h.far⟩
  by_cases e : a = tp
  · exact h.far e H'
  · exact sq_keep h.scr fun o => f.1 a o e
theorem fine_eqv {d : PyData} {n w : Nat} (h : Fine d n w) : PyData.eqv d d = true := PySem.SeqAt.eqv_refl d h.lay
theorem pairedRep {α β : Type} {F : α → β → Prop} {a : α} {b : β} (h : F a b) : ∀ n : Nat, Paired F (List.replicate n a) (List.replicate n b)
  | 0 => .nil
  | n + 1 => .cons h (pairedRep h n)
theorem rep_flat {α : Type} (f : α → V) (a : α) (n : Nat) : (List.replicate n [f a]).flatten = (List.replicate n a).map f := by
  rw [List.map_replicate]
  induction n with
  | zero => rfl
  | succ n ih => rw [List.replicate_succ, List.flatten_cons, ih, List.replicate_succ]; rfl
theorem goodT_rep {many hues : Int} {tb : List (List Int)} {ds : List Int} (g : GoodT many hues tb) (h : ds ∈ tb) (m0 : 0 ≤ many) : GoodT many hues (List.replicate many.toNat ds) := by
  refine ⟨by rw [List.length_replicate]; omega, fun x hx => ?_, fun x hx => ?_, fun x hx => ?_⟩
  · rw [(List.mem_replicate.mp hx).2]; exact g.one ds h
  · rw [(List.mem_replicate.mp hx).2]; exact g.few ds h
  · rw [(List.mem_replicate.mp hx).2]; exact g.hue ds h
end Rd

set_option Elab.async false
set_option linter.all false
set_option maxRecDepth 100000
set_option maxHeartbeats 4000000
/-! runs step by step, and the draws told back -/
namespace Dt
open PySem PySem.Spec PyProof.Rows L2
inductive Steps (wds : List WD) (tb : List (List Int)) (ord : List Int) : List Int → Log → List Int → Log → Prop
  | refl (tk : List Int) (log : Log) : Steps wds tb ord tk log tk log
  | step {tk tk' : List Int} {log log' : Log} {k : Int} : firstB (stand tb tk) wds ord = some k → canN tb tk (plc wds k) = true → Steps wds tb ord (bumpA tk (plc wds k)) (log ++ [(k, huesA (stand tb tk) (plc wds k))]) tk' log' → Steps wds tb ord tk log tk' log'
/-- how a run ends -/
structure EndsAt (wds : List WD) (tb : List (List Int)) (ord : List Int) (tk : List Int) (b : Bool) : Prop where
  kept : b = true → firstB (stand tb tk) wds ord = none
  spent : b = false → ∃ k, firstB (stand tb tk) wds ord = some k ∧ canN tb tk (plc wds k) = false
theorem goR_steps {wds : List WD} {tb : List (List Int)} {ord : List Int} {R : Res} : ∀ (n : Nat) (tk : List Int) (log : Log), goR wds tb ord n tk log = some R → ∃ tkE, Steps wds tb ord tk log tkE R.2.2 ∧ R.2.1 = stand tb tkE ∧ EndsAt wds tb ord tkE R.1
  | 0, _, _, h => nomatch h
  | n + 1, tk, log, h => by
    rw [goR] at h
    cases e : firstB (stand tb tk) wds ord with
    | none =>
      rw [e] at h
      have z := Option.some.inj h
      rw [← z]
      exact ⟨tk, .refl _ _, rfl, fun _ => e, fun z => nomatch z⟩
    | some k =>
      rw [e] at h
      dsimp only at h
      cases c : canN tb tk (plc wds k) with
      | false =>
        rw [c, if_neg (by decide)] at h
        have z := Option.some.inj h
        rw [← z]
        exact ⟨tk, .refl _ _, rfl, (fun z => nomatch z), fun _ => ⟨k, e, c⟩⟩
      | true =>
        rw [c, if_pos rfl] at h
        obtain ⟨tkE, h1, h2, h3⟩ := goR_steps n _ _ h
        exact ⟨tkE, .step e c h1, h2, h3⟩
theorem steps_goR {wds : List WD} {tb : List (List Int)} {ord : List Int} {tk tk' : List Int} {log log' : Log} (s : Steps wds tb ord tk log tk' log') : ∃ c : Nat, ∀ m, goR wds tb ord (m + c) tk log = goR wds tb ord m tk' log' := by
  induction s with
  | refl tk log => exact ⟨0, fun m => rfl⟩
  | @step tk tk' log log' k e c s ih =>
    obtain ⟨n, hn⟩ := ih
    refine ⟨n + 1, fun m => ?_⟩
    show goR wds tb ord (m + n + 1) tk log = _
    rw [goR, e]
    dsimp only
    rw [c, if_pos rfl]
    exact hn m
theorem ends_goR {wds : List WD} {tb : List (List Int)} {ord : List Int} {tk : List Int} {b : Bool} (h : EndsAt wds tb ord tk b) (m : Nat) (log : Log) : goR wds tb ord (m + 1) tk log = some (b, stand tb tk, log) := by
  rw [goR]
  cases b with
  | true => rw [h.kept rfl]
  | false =>
    obtain ⟨k, h1, h2⟩ := h.spent rfl
    rw [h1]
    dsimp only
    rw [h2, if_neg (by decide)]
theorem goR_more {wds : List WD} {tb : List (List Int)} {ord : List Int} {R : Res} : ∀ (n : Nat) (tk : List Int) (log : Log) (m : Nat), goR wds tb ord n tk log = some R → goR wds tb ord (n + m) tk log = some R
  | 0, _, _, _, h => nomatch h
  | n + 1, tk, log, m, h => by
    rw [show n + 1 + m = (n + m) + 1 by omega]
    rw [goR] at h ⊢
    cases e : firstB (stand tb tk) wds ord with
    | none => rw [e] at h; exact h
    | some k =>
      rw [e] at h
      dsimp only at h ⊢
      cases c : canN tb tk (plc wds k) with
      | false => rw [c, if_neg (by decide)] at h; rw [if_neg (by decide)]; exact h
      | true =>
        rw [c, if_pos rfl] at h
        rw [if_pos rfl]
        exact goR_more n _ _ m h
theorem goR_one {wds : List WD} {tb : List (List Int)} {ord : List Int} {R R' : Res} {n n' : Nat} {tk : List Int} {log : Log} (h : goR wds tb ord n tk log = some R) (h' : goR wds tb ord n' tk log = some R') : R = R' := by
  have a := goR_more n tk log n' h
  have b := goR_more n' tk log n h'
  rw [Nat.add_comm] at b
  exact Option.some.inj (a.symm.trans b)
/-- a run by its steps -/
theorem runOf_of {many hues : Int} {wds : List WD} {tb : List (List Int)} {ord : List Int} (gr : GoodR many hues wds) (nd : ∀ wd ∈ wds, wd.1.Nodup) (gt : GoodT many hues tb) (go : GoodO wds.length ord) {tk : List Int} {log : Log} {b : Bool} (s : Steps wds tb ord (zerosI tb.length) [] tk log) (e : EndsAt wds tb ord tk b) : runOf wds tb ord = some (b, stand tb tk, log) := by
  obtain ⟨R, hR, _⟩ := runOf_some gr nd gt go
  obtain ⟨c, hc⟩ := steps_goR s
  have z := ends_goR e 0 log
  rw [← hc (0 + 1)] at z
  rw [hR]
  exact congrArg some (goR_one hR z)
theorem runOf_steps {wds : List WD} {tb : List (List Int)} {ord : List Int} {R : Res} (h : runOf wds tb ord = some R) : ∃ tkE, Steps wds tb ord (zerosI tb.length) [] tkE R.2.2 ∧ R.2.1 = stand tb tkE ∧ EndsAt wds tb ord tkE R.1 := goR_steps _ _ _ h
/-! ### what stays along steps -/
structure Fit (many hues : Int) (wds : List WD) (tb : List (List Int)) (ord : List Int) : Prop where
  gr : GoodR many hues wds
  nd : ∀ wd ∈ wds, wd.1.Nodup
  len : (tb.length : Int) = many
  go : GoodO wds.length ord
theorem can_fit {many hues : Int} {wds : List WD} {tb : List (List Int)} {tk : List Int} {ord : List Int} {k : Int} (f : Fit many hues wds tb ord) (e : firstB (stand tb tk) wds ord = some k) (h : canN tb tk (plc wds k) = true) : Can tb tk (plc wds k) ∧ ∃ wd, wds[k.toNat]? = some wd ∧ plc wds k = wd.1 ∧ brkAt (stand tb tk) wds k.toNat = true ∧ 0 ≤ k ∧ k < (wds.length : Int) := by
  obtain ⟨hk, hb⟩ := first_some e
  obtain ⟨k0, k1⟩ := f.go.mem k hk
  obtain ⟨wd, hw, he⟩ := wd_of k0 k1
  refine ⟨⟨?_, fun p hp => ?_, fun p hp => of_decide_eq_true (List.all_eq_true.mp h p hp)⟩, wd, hw, he, hb, k0, k1⟩
  · rw [he]; exact f.nd wd (List.mem_of_getElem? hw)
  · rw [he] at hp
    have := (f.gr.each wd (List.mem_of_getElem? hw)).pl p hp
    have := f.len
    omega
theorem steps_good {many hues : Int} {wds : List WD} {tb : List (List Int)} {ord : List Int} (f : Fit many hues wds tb ord) {tk tk' : List Int} {log log' : Log} (s : Steps wds tb ord tk log tk' log') (g : GoodK tb tk) : GoodK tb tk' := by
  induction s with
  | refl => exact g
  | step e c s ih => exact ih (bumpA_good g (can_fit f e c).1).1
theorem atF_bump (tk : List Int) (p q : Int) (h0 : 0 ≤ p) (h1 : p < (tk.length : Int)) (hq : 0 ≤ q) : atF (bump tk p.toNat) q = atF tk q + (if q = p then 1 else 0) := by
  unfold atF
  rw [bump_get]
  by_cases e : q = p
  · subst e
    rw [if_pos ⟨rfl, by omega⟩, if_pos rfl]
  · rw [if_neg (fun z => e (by omega)), if_neg e, Int.add_zero]
theorem atF_bumpA : ∀ (ps : List Int) (tk : List Int) (q : Int), ps.Nodup → (∀ p ∈ ps, 0 ≤ p ∧ p < (tk.length : Int)) → 0 ≤ q → atF (bumpA tk ps) q = atF tk q + (if q ∈ ps then 1 else 0)
  | [], tk, q, _, _, _ => by simp [bumpA]
  | p :: r, tk, q, nd, h, hq => by
    have hp := h p List.mem_cons_self
    have nd2 := List.nodup_cons.mp nd
    show atF (bumpA (bump tk p.toNat) r) q = _
    rw [atF_bumpA r (bump tk p.toNat) q nd2.2 (fun x hx => by rw [bump_len]; exact h x (List.mem_cons_of_mem _ hx)) hq, atF_bump tk p q hp.1 hp.2 hq]
    by_cases e : q = p
    · subst e
      rw [if_pos rfl, if_neg nd2.1, if_pos List.mem_cons_self]
      omega
    · rw [if_neg e, Int.add_zero]
      by_cases e2 : q ∈ r
      · rw [if_pos e2, if_pos (List.mem_cons_of_mem _ e2)]
      · rw [if_neg e2, if_neg (fun z => (List.mem_cons.mp z).elim e e2)]
def cntP (wds : List WD) (log : Log) (p : Int) : Nat := (log.filter fun e => decide (p ∈ plc wds e.1)).length
theorem cntP_snoc (wds : List WD) (log : Log) (e : Int × List Int) (p : Int) : cntP wds (log ++ [e]) p = cntP wds log p + (if p ∈ plc wds e.1 then 1 else 0) := by
  unfold cntP
  rw [List.filter_append, List.length_append]
  by_cases h : p ∈ plc wds e.1
  · simp [h]
  · simp [h]
theorem steps_cnt {many hues : Int} {wds : List WD} {tb : List (List Int)} {ord : List Int} (f : Fit many hues wds tb ord) {tk tk' : List Int} {log log' : Log} (s : Steps wds tb ord tk log tk' log') (g : GoodK tb tk) (h : ∀ p, 0 ≤ p → p < (tb.length : Int) → atF tk p = cntP wds log p) : ∀ p, 0 ≤ p → p < (tb.length : Int) → atF tk' p = cntP wds log' p := by
  induction s with
  | refl => exact h
  | @step tk tk' log log' k e c s ih =>
    have cf := (can_fit f e c).1
    refine ih (bumpA_good g cf).1 fun p p0 p1 => ?_
    rw [atF_bumpA _ _ _ cf.nd (fun x hx => by rw [g.len]; exact cf.pl x hx) p0, cntP_snoc, h p p0 p1]
    by_cases e2 : p ∈ plc wds k
    · rw [if_pos e2, if_pos e2]; rfl
    · rw [if_neg e2, if_neg e2]; rfl
theorem steps_le {many hues : Int} {wds : List WD} {tb : List (List Int)} {ord : List Int} (f : Fit many hues wds tb ord) {tk tk' : List Int} {log log' : Log} (s : Steps wds tb ord tk log tk' log') (g : GoodK tb tk) : ∀ p, 0 ≤ p → atF tk p ≤ atF tk' p := by
  induction s with
  | refl => exact fun _ _ => Int.le_refl _
  | @step tk tk' log log' k e c s ih =>
    intro p p0
    have cf := (can_fit f e c).1
    have a := ih (bumpA_good g cf).1 p p0
    rw [atF_bumpA _ _ _ cf.nd (fun x hx => by rw [g.len]; exact cf.pl x hx) p0] at a
    split at a <;> omega
theorem steps_pre {wds : List WD} {tb : List (List Int)} {ord : List Int} {tk tk' : List Int} {log log' : Log} (s : Steps wds tb ord tk log tk' log') : ∃ more, log' = log ++ more := by
  induction s with
  | refl => exact ⟨[], by rw [List.append_nil]⟩
  | step e c s ih =>
    obtain ⟨more, h⟩ := ih
    exact ⟨_, by rw [h, List.append_assoc]⟩
/-! ### tables that agree so far -/
structure Agree (tb tb' : List (List Int)) (tk : List Int) : Prop where
  len : tb'.length = tb.length
  long : ∀ p : Nat, p < tb.length → tk.getD p 0 < ((tb'.getD p []).length : Int)
  eq : ∀ p : Nat, p < tb.length → (tb'.getD p []).take ((tk.getD p 0).toNat + 1) = (tb.getD p []).take ((tk.getD p 0).toNat + 1)
theorem take_at {a b : List Int} {n j : Nat} (h : a.take (n + 1) = b.take (n + 1)) (hj : j ≤ n) : a.getD j 0 = b.getD j 0 := by
  have z := congrArg (fun l : List Int => l[j]?) h
  simp only [List.getElem?_take] at z
  rw [if_pos (by omega), if_pos (by omega)] at z
  rw [List.getD_eq_getElem?_getD, List.getD_eq_getElem?_getD, z]
theorem Agree.stand {tb tb' : List (List Int)} {tk tkE : List Int} (a : Agree tb tb' tkE) (g : GoodK tb tk) (h : ∀ p, 0 ≤ p → atF tk p ≤ atF tkE p) : stand tb' tk = stand tb tk := by
  have g' : GoodK tb' tk := by
    refine ⟨by rw [a.len]; exact g.len, fun p hp => ?_⟩
    rw [a.len] at hp
    have b := g.at_ p hp
    have c := a.long p hp
    have d := h p (by omega)
    unfold atF at d
    rw [Int.toNat_natCast] at d
    omega
  refine List.ext_getElem? fun i => ?_
  by_cases hi : i < tb.length
  · rw [stand_get g' (by rw [a.len]; exact hi), stand_get g hi]
    have b := g.at_ i hi
    have d := h i (by omega)
    unfold atF at d ⊢
    rw [Int.toNat_natCast] at d
    rw [take_at (a.eq i hi) (by omega)]
  · rw [List.getElem?_eq_none (by rw [stand_len g', a.len]; omega), List.getElem?_eq_none (by rw [stand_len g]; omega)]
theorem agree_good {tb tb' : List (List Int)} {tk tkE : List Int} (a : Agree tb tb' tkE) (g : GoodK tb tk) (h : ∀ p, 0 ≤ p → atF tk p ≤ atF tkE p) : GoodK tb' tk := by
  refine ⟨by rw [a.len]; exact g.len, fun p hp => ?_⟩
  rw [a.len] at hp
  have b := g.at_ p hp
  have c := a.long p hp
  have d := h p (by omega)
  unfold atF at d
  rw [Int.toNat_natCast] at d
  omega
theorem steps_agree {many hues : Int} {wds : List WD} {tb tb' : List (List Int)} {ord : List Int} (f : Fit many hues wds tb ord) {tk tkE : List Int} {log log' : Log} (s : Steps wds tb ord tk log tkE log') (g : GoodK tb tk) (a : Agree tb tb' tkE) : Steps wds tb' ord tk log tkE log' := by
  induction s with
  | refl => exact .refl _ _
  | @step tk tkE log log' k e c s ih =>
    have cf := (can_fit f e c).1
    have g2 := (bumpA_good g cf).1
    have le2 := steps_le f s g2
    have le1 := steps_le f (.step e c s) g
    have es := a.stand g le1
    have ih2 := ih g2 a
    refine .step (k := k) (by rw [es]; exact e) ?_ (by rw [es]; exact ih2)
    refine List.all_eq_true.mpr fun p hp => decide_eq_true ?_
    have pp := cf.pl p hp
    have b := le2 p pp.1
    rw [atF_bumpA _ _ _ cf.nd (fun x hx => by rw [g.len]; exact cf.pl x hx) pp.1, if_pos hp] at b
    have d := a.long p.toNat (by omega)
    unfold atF lenAt at *
    omega
/-! ### the draws told back -/
def app1 (tb : List (List Int)) (p : Nat) (h : Int) : List (List Int) := tb.set p (tb.getD p [] ++ [h])
def appA (tb : List (List Int)) (ps row : List Int) : List (List Int) := (ps.zip row).foldl (fun t x => app1 t x.1.toNat x.2) tb
def toldL (wds : List WD) (n : Nat) (log : Log) : List (List Int) := log.foldl (fun t e => appA t (plc wds e.1) e.2) (List.replicate n [])
def finA (tb : List (List Int)) (fs : List Int) (i : Nat) : List (List Int) := (List.range i).foldl (fun t j => app1 t j (fs.getD j 0)) tb
def toldT (wds : List WD) (fs : List Int) (log : Log) : List (List Int) := finA (toldL wds fs.length log) fs fs.length
def takes (tb : List (List Int)) (tk : List Int) : List (List Int) := List.zipWith (fun ds k => ds.take k.toNat) tb tk
def firsts (tb : List (List Int)) (tk : List Int) : List (List Int) := List.zipWith (fun ds k => ds.take (k.toNat + 1)) tb tk
theorem app1_len (tb : List (List Int)) (p : Nat) (h : Int) : (app1 tb p h).length = tb.length := by simp [app1]
theorem app1_get (tb : List (List Int)) (p i : Nat) (h : Int) : (app1 tb p h).getD i [] = if i = p ∧ p < tb.length then tb.getD p [] ++ [h] else tb.getD i [] := by
  unfold app1
  rw [List.getD_eq_getElem?_getD, List.getElem?_set]
  by_cases e : p = i
  · subst e
    by_cases h2 : p < tb.length
    · rw [if_pos rfl, if_pos h2, if_pos ⟨rfl, h2⟩]; rfl
    · rw [if_pos rfl, if_neg h2, if_neg (fun z => h2 z.2), List.getD_eq_getElem?_getD, List.getElem?_eq_none (by omega)]
  · rw [if_neg e, if_neg (fun z => e z.1.symm), List.getD_eq_getElem?_getD]
theorem appA_len : ∀ (ps row : List Int) (tb : List (List Int)), (appA tb ps row).length = tb.length
  | [], _, _ => rfl
  | _ :: _, [], _ => rfl
  | p :: r, h :: q, tb => by
    show (appA (app1 tb p.toNat h) r q).length = _
    rw [appA_len r q, app1_len]
theorem toldL_len (wds : List WD) (n : Nat) : ∀ log : Log, (toldL wds n log).length = n := fun log => by
  unfold toldL
  have : ∀ (log : Log) (tb : List (List Int)), (log.foldl (fun t e => appA t (plc wds e.1) e.2) tb).length = tb.length := by
    intro log
    induction log with
    | nil => intro _; rfl
    | cons e r ih => intro tb; rw [List.foldl_cons, ih, appA_len]
  rw [this, List.length_replicate]
theorem toldL_snoc (wds : List WD) (n : Nat) (log : Log) (e : Int × List Int) : toldL wds n (log ++ [e]) = appA (toldL wds n log) (plc wds e.1) e.2 := by
  unfold toldL
  rw [List.foldl_append]
  rfl
theorem finA_succ (tb : List (List Int)) (fs : List Int) (i : Nat) : finA tb fs (i + 1) = app1 (finA tb fs i) i (fs.getD i 0) := by
  unfold finA
  rw [List.range_succ, List.foldl_append]
  rfl
theorem finA_len (tb : List (List Int)) (fs : List Int) : ∀ i : Nat, (finA tb fs i).length = tb.length
  | 0 => rfl
  | i + 1 => by rw [finA_succ, app1_len, finA_len tb fs i]
theorem finA_get (tb : List (List Int)) (fs : List Int) : ∀ (i q : Nat), i ≤ tb.length → (finA tb fs i).getD q [] = if q < i then tb.getD q [] ++ [fs.getD q 0] else tb.getD q []
  | 0, q, _ => by rw [if_neg (Nat.not_lt_zero _)]; rfl
  | i + 1, q, h => by
    rw [finA_succ, app1_get, finA_len, finA_get tb fs i q (by omega), finA_get tb fs i i (by omega)]
    by_cases e : q = i
    · subst e
      rw [if_pos ⟨rfl, by omega⟩, if_neg (Nat.lt_irrefl _), if_pos (Nat.lt_succ_self _)]
    · rw [if_neg (fun z => e z.1)]
      by_cases e2 : q < i
      · rw [if_pos e2, if_pos (by omega)]
      · rw [if_neg e2, if_neg (by omega)]
theorem toldT_len (wds : List WD) (fs : List Int) (log : Log) : (toldT wds fs log).length = fs.length := by
  rw [toldT, finA_len, toldL_len]
theorem toldT_get (wds : List WD) (fs : List Int) (log : Log) {q : Nat} (h : q < fs.length) : (toldT wds fs log).getD q [] = (toldL wds fs.length log).getD q [] ++ [fs.getD q 0] := by
  rw [toldT, finA_get _ _ _ _ (by rw [toldL_len]; exact Nat.le_refl _), if_pos h]
theorem takes_len {tb : List (List Int)} {tk : List Int} (g : GoodK tb tk) : (takes tb tk).length = tb.length := by
  unfold takes
  rw [List.length_zipWith, g.len, Nat.min_self]
theorem takes_get {tb : List (List Int)} {tk : List Int} (g : GoodK tb tk) {p : Nat} (hp : p < tb.length) : (takes tb tk)[p]? = some ((tb.getD p []).take (tk.getD p 0).toNat) := by
  have h2 : p < tk.length := by rw [g.len]; exact hp
  unfold takes
  rw [List.getElem?_zipWith, List.getElem?_eq_getElem hp, List.getElem?_eq_getElem h2, getD_get hp, getD_get h2]
theorem firsts_len {tb : List (List Int)} {tk : List Int} (g : GoodK tb tk) : (firsts tb tk).length = tb.length := by
  unfold firsts
  rw [List.length_zipWith, g.len, Nat.min_self]
theorem firsts_get {tb : List (List Int)} {tk : List Int} (g : GoodK tb tk) {p : Nat} (hp : p < tb.length) : (firsts tb tk)[p]? = some ((tb.getD p []).take ((tk.getD p 0).toNat + 1)) := by
  have h2 : p < tk.length := by rw [g.len]; exact hp
  unfold firsts
  rw [List.getElem?_zipWith, List.getElem?_eq_getElem hp, List.getElem?_eq_getElem h2, getD_get hp, getD_get h2]
theorem getD_of {α : Type} {l : List α} {i : Nat} {a d : α} (h : l[i]? = some a) : l.getD i d = a := by
  rw [List.getD_eq_getElem?_getD, h]
  rfl
theorem take1 {tb : List (List Int)} {tk : List Int} {p : Nat} (g : GoodK tb tk) (hp : p < tb.length) (h : tk.getD p 0 + 1 < ((tb.getD p []).length : Int)) : app1 (takes tb tk) p (atF (tb.getD p []) (tk.getD p 0)) = takes tb (bump tk p) := by
  have g2 := good_bump g hp h
  have a := g.at_ p hp
  refine List.ext_getElem? fun i => ?_
  unfold app1
  rw [List.getElem?_set]
  by_cases hi : i < tb.length
  · rw [takes_get g2 hi, bump_get]
    by_cases e : p = i
    · subst e
      rw [if_pos rfl, if_pos (by rw [takes_len g]; exact hp), if_pos ⟨rfl, by rw [g.len]; exact hp⟩, getD_of (takes_get g hp)]
      have en : (tk.getD p 0 + 1).toNat = (tk.getD p 0).toNat + 1 := by omega
      have hl : (tk.getD p 0).toNat < (tb.getD p []).length := by omega
      rw [en, List.take_add_one, atF, getD_get hl, List.getElem?_eq_getElem hl]
      rfl
    · rw [if_neg e, if_neg (fun z => e z.1.symm), takes_get g hi]
  · rw [if_neg (by omega), List.getElem?_eq_none (by rw [takes_len g]; omega), List.getElem?_eq_none (by rw [takes_len g2]; omega)]
theorem takeA : ∀ (ps : List Int) {tb : List (List Int)} {tk : List Int} (w : Int → Int), GoodK tb tk → Can tb tk ps → (∀ p ∈ ps, w p = atF (tb.getD p.toNat []) (atF tk p)) → appA (takes tb tk) ps (ps.map w) = takes tb (bumpA tk ps)
  | [], _, _, _, _, _, _ => rfl
  | p :: r, tb, tk, w, g, c, h => by
    have hp := c.pl p List.mem_cons_self
    have hn := c.nx p List.mem_cons_self
    have hpn : p.toNat < tb.length := by omega
    show appA (app1 (takes tb tk) p.toNat (w p)) r (r.map w) = takes tb (bumpA (bump tk p.toNat) r)
    rw [h p List.mem_cons_self, show atF tk p = tk.getD p.toNat 0 from rfl, take1 g hpn hn]
    refine takeA r w (good_bump g hpn hn) c.tail fun q hq => ?_
    have hq2 := c.pl q (List.mem_cons_of_mem _ hq)
    have hne : q ≠ p := fun z => (List.nodup_cons.mp c.nd).1 (z ▸ hq)
    rw [h q (List.mem_cons_of_mem _ hq), atF_bump tk p q hp.1 (by rw [g.len]; exact hp.2) hq2.1, if_neg hne, Int.add_zero]
theorem steps_told {many hues : Int} {wds : List WD} {tb : List (List Int)} {ord : List Int} (f : Fit many hues wds tb ord) {tk tk' : List Int} {log log' : Log} (s : Steps wds tb ord tk log tk' log') (g : GoodK tb tk) (h : toldL wds tb.length log = takes tb tk) : toldL wds tb.length log' = takes tb tk' := by
  induction s with
  | refl => exact h
  | @step tk tk' log log' k e c s ih =>
    have cf := (can_fit f e c).1
    refine ih (bumpA_good g cf).1 ?_
    rw [toldL_snoc, h]
    refine takeA _ _ g cf fun p hp => ?_
    have pp := cf.pl p hp
    have hpn : p.toNat < tb.length := by omega
    show atF (stand tb tk) p = _
    rw [atF, getD_of (stand_get g hpn)]
    rfl
theorem told_end {wds : List WD} {tb : List (List Int)} {tk : List Int} {log : Log} (g : GoodK tb tk) (h : toldL wds tb.length log = takes tb tk) : toldT wds (stand tb tk) log = firsts tb tk := by
  refine List.ext_getElem? fun i => ?_
  by_cases hi : i < tb.length
  · have hs : i < (stand tb tk).length := by rw [stand_len g]; exact hi
    have e := toldT_get wds (stand tb tk) log hs
    rw [stand_len g, h, getD_of (takes_get g hi), getD_of (stand_get g hi)] at e
    have hl : i < (toldT wds (stand tb tk) log).length := by rw [toldT_len]; exact hs
    rw [getD_get hl] at e
    rw [List.getElem?_eq_getElem hl, e, firsts_get g hi]
    have a := g.at_ i hi
    have hl2 : (tk.getD i 0).toNat < (tb.getD i []).length := by omega
    rw [List.take_add_one, atF, getD_get hl2, List.getElem?_eq_getElem hl2]
    rfl
  · rw [List.getElem?_eq_none (by rw [toldT_len, stand_len g]; omega), List.getElem?_eq_none (by rw [firsts_len g]; omega)]
theorem takes_zero {tb : List (List Int)} : toldL wds tb.length [] = takes tb (zerosI tb.length) := by
  show List.replicate tb.length [] = _
  unfold takes zerosI
  refine List.ext_getElem? fun i => ?_
  rw [List.getElem?_zipWith, List.getElem?_replicate, List.getElem?_replicate]
  by_cases hi : i < tb.length
  · rw [if_pos hi, if_pos hi, List.getElem?_eq_getElem hi]
    rfl
  · rw [if_neg hi, if_neg hi, List.getElem?_eq_none (by omega)]
/-- all of a run -/
structure RunEnd (many hues : Int) (wds : List WD) (tb : List (List Int)) (ord : List Int) (R : Res) (tk : List Int) : Prop where
  gk : GoodK tb tk
  st : Steps wds tb ord (zerosI tb.length) [] tk R.2.2
  fs : R.2.1 = stand tb tk
  en : EndsAt wds tb ord tk R.1
  told : toldT wds R.2.1 R.2.2 = firsts tb tk
  cnt : ∀ p, 0 ≤ p → p < (tb.length : Int) → atF tk p = cntP wds R.2.2 p
theorem runEnd_of {many hues : Int} {wds : List WD} {tb : List (List Int)} {ord : List Int} {R : Res} (gr : GoodR many hues wds) (nd : ∀ wd ∈ wds, wd.1.Nodup) (gt : GoodT many hues tb) (go : GoodO wds.length ord) (h : runOf wds tb ord = some R) : ∃ tk, RunEnd many hues wds tb ord R tk := by
  obtain ⟨tk, s, e, en⟩ := runOf_steps h
  have f : Fit many hues wds tb ord := ⟨gr, nd, gt.len, go⟩
  have g0 := zeros_good gt
  have gk := steps_good f s g0
  refine ⟨tk, gk, s, e, en, ?_, steps_cnt f s g0 fun p p0 _ => ?_⟩
  · rw [e]
    exact told_end gk (steps_told f s g0 takes_zero)
  · unfold atF
    rw [zeros_get]
    rfl
theorem firsts_good {many hues : Int} {tb : List (List Int)} {tk : List Int} (gt : GoodT many hues tb) (g : GoodK tb tk) : GoodT many hues (firsts tb tk) := by
  have key : ∀ ds ∈ firsts tb tk, ∃ d ∈ tb, ∃ n, ds = d.take (n + 1) := fun ds h => by
    obtain ⟨i, hi, e⟩ := List.getElem_of_mem h
    rw [firsts_len g] at hi
    have z := firsts_get g hi
    rw [List.getElem?_eq_getElem (by rw [firsts_len g]; exact hi), e] at z
    exact ⟨_, getD_mem hi, _, Option.some.inj z⟩
  refine ⟨by rw [firsts_len g]; exact gt.len, fun ds h => ?_, fun ds h => ?_, fun ds h z hz => ?_⟩
  · obtain ⟨d, hd, n, rfl⟩ := key ds h
    have := gt.one d hd
    rw [List.length_take]
    omega
  · obtain ⟨d, hd, n, rfl⟩ := key ds h
    have := gt.few d hd
    rw [List.length_take]
    omega
  · obtain ⟨d, hd, n, rfl⟩ := key ds h
    exact gt.hue d hd z (List.mem_of_mem_take hz)
theorem firsts_agree {tb : List (List Int)} {tk : List Int} (g : GoodK tb tk) : Agree tb (firsts tb tk) tk := by
  refine ⟨firsts_len g, fun p hp => ?_, fun p hp => ?_⟩
  · rw [getD_of (firsts_get g hp), List.length_take]
    have := g.at_ p hp
    omega
  · rw [getD_of (firsts_get g hp), List.take_take, Nat.min_self]
/-- the run of the draws taken alone -/
theorem run_firsts {many hues : Int} {wds : List WD} {tb : List (List Int)} {ord : List Int} {R : Res} {tk : List Int} (gr : GoodR many hues wds) (nd : ∀ wd ∈ wds, wd.1.Nodup) (gt : GoodT many hues tb) (go : GoodO wds.length ord) (e : RunEnd many hues wds tb ord R tk) : runOf wds (firsts tb tk) ord = some R := by
  have f : Fit many hues wds tb ord := ⟨gr, nd, gt.len, go⟩
  have ag := firsts_agree e.gk
  have s' := steps_agree f e.st (zeros_good gt) ag
  have es : stand (firsts tb tk) tk = stand tb tk := ag.stand e.gk fun _ _ => Int.le_refl _
  have s2 : Steps wds (firsts tb tk) ord (zerosI (firsts tb tk).length) [] tk R.2.2 := by rw [firsts_len e.gk]; exact s'
  have z := runOf_of gr nd (firsts_good gt e.gk) go (b := R.1) s2 ⟨fun b => by rw [es]; exact e.en.kept b, fun b => by
    obtain ⟨k, h1, h2⟩ := e.en.spent b
    refine ⟨k, by rw [es]; exact h1, ?_⟩
    obtain ⟨hk, hb⟩ := first_some h1
    obtain ⟨k0, k1⟩ := go.mem k hk
    obtain ⟨wd, hw, he⟩ := wd_of k0 k1
    have gw := gr.each wd (List.mem_of_getElem? hw)
    obtain ⟨p, hp⟩ := List.exists_mem_of_length_pos (show 0 < wd.1.length from gw.one)
    rw [canN, List.all_eq_false]
    refine ⟨p, by rw [he]; exact hp, ?_⟩
    have pp := gw.pl p hp
    have hl := gt.len
    have hpn : p.toNat < tb.length := by omega
    have a := e.gk.at_ _ hpn
    rw [decide_eq_true_eq, lenAt, getD_of (firsts_get e.gk hpn), List.length_take]
    unfold atF
    omega⟩
  rw [z, es, ← e.fs]
/-- the run of a table that goes on -/
theorem run_longer {many hues : Int} {wds : List WD} {tb tb' : List (List Int)} {ord : List Int} {R R' : Res} {tk : List Int} (gr : GoodR many hues wds) (nd : ∀ wd ∈ wds, wd.1.Nodup) (gt : GoodT many hues tb) (gt' : GoodT many hues tb') (go : GoodO wds.length ord) (e : RunEnd many hues wds tb ord R tk) (hR' : runOf wds tb' ord = some R')
    (pre : ∀ p : Nat, p < tb.length → ∃ more, tb'.getD p [] = tb.getD p [] ++ more) : (R.1 = true → R' = R) ∧ ∃ more, R'.2.2 = R.2.2 ++ more := by
  have f : Fit many hues wds tb ord := ⟨gr, nd, gt.len, go⟩
  have hl := gt.len
  have hl' := gt'.len
  have ag : Agree tb tb' tk := by
    refine ⟨by omega, fun p hp => ?_, fun p hp => ?_⟩
    · obtain ⟨more, hm⟩ := pre p hp
      have a := e.gk.at_ p hp
      rw [hm, List.length_append]
      omega
    · obtain ⟨more, hm⟩ := pre p hp
      have a := e.gk.at_ p hp
      rw [hm, List.take_append_of_le_length (by omega)]
  have s' := steps_agree f e.st (zeros_good gt) ag
  have es : stand tb' tk = stand tb tk := ag.stand e.gk fun _ _ => Int.le_refl _
  rw [← ag.len] at s'
  refine ⟨fun b => ?_, ?_⟩
  · have z := runOf_of gr nd gt' go (b := R.1) s' ⟨fun b => by rw [es]; exact e.en.kept b, fun z => by rw [b] at z; cases z⟩
    rw [hR', es, ← e.fs] at z
    exact Option.some.inj z
  · obtain ⟨c, hc⟩ := steps_goR s'
    have a := goR_more _ _ _ c hR'
    rw [hc] at a
    obtain ⟨tkE, s2, _⟩ := goR_steps _ _ _ a
    exact steps_pre s2
end Dt

set_option Elab.async false
set_option linter.all false
set_option maxRecDepth 100000
set_option maxHeartbeats 4000000
namespace Rd
open PySem PySem.Spec PyProof.Rows L2 Dt
/-- a statement that is never come to -/
theorem ps_never {X : Cx} {st : Stmt} : PS X st (fun _ _ _ => False) := ⟨fun _ _ _ _ _ _ h => h.elim⟩
/-! ### lists within one that are changed -/
theorem paired_mod {H : Hp} {d : Addr} {l' : List Int} : ∀ {das : List Addr} {T : List (List Int)} {p : Nat}, Paired (IsInts H) das T → das.Nodup → das[p]? = some d → Paired (IsInts (upd H d (.lst (l'.map V.int)))) das (T.set p l')
  | _, _, p, .nil, _, h => by simp at h
  | a :: r, l :: q, 0, .cons h t, nd, e => by
    have ea : a = d := Option.some.inj e
    subst ea
    have nd2 := List.nodup_cons.mp nd
    exact .cons (by show upd H a _ a = _; exact upd_same) (paired_upd t fun x hx (z : x = a) => nd2.1 (by rw [← z]; exact hx))
  | a :: r, l :: q, p + 1, .cons h t, nd, e => by
    have nd2 := List.nodup_cons.mp nd
    have hm : d ∈ r := List.mem_of_getElem? (show r[p]? = some d from e)
    exact .cons (by show upd H d _ a = _; rw [upd_ne (fun z : a = d => nd2.1 (by rw [z]; exact hm))]; exact h) (paired_mod t nd2.2 e)
theorem paired_len_upd {H : Hp} {D : Addr} {o : HO} {das : List Addr} {T : List (List Int)} (p : Paired (IsInts H) das T) (n : D ∉ das) : Paired (IsInts (upd H D o)) das T := paired_upd p fun d hd (z : d = D) => n (by rw [← z]; exact hd)
/-- a new list of new lists, no two one -/
structure NewTab (H H' : Hp) (ta : Addr) (das : List Addr) (T : List (List Int)) : Prop where
  ht : H' ta = some (.lst (das.map V.ref))
  nt : H ta = none
  nd : das.Nodup
  new : ∀ d ∈ das, H d = none ∧ d ≠ ta
  pr : Paired (IsInts H') das T
theorem NewTab.tab {H H' : Hp} {ta : Addr} {das : List Addr} {T : List (List Int)} (h : NewTab H H' ta das T) : IsTab (Old H) H' ta T := ⟨das, h.ht, fun z => z h.nt, fun d hd z => z (h.new d hd).1, h.pr⟩
theorem NewTab.app {H H' : Hp} {ta : Addr} {das : List Addr} {T : List (List Int)} {p : Nat} {d : Addr} {l : List Int} {x : Int} (h : NewTab H H' ta das T) (hd : das[p]? = some d) (hl : T[p]? = some l) : NewTab H (upd H' d (.lst ((l ++ [x]).map V.int))) ta das (app1 T p x) := by
  have hm := List.mem_of_getElem? hd
  refine ⟨by rw [upd_ne (h.new d hm).2.symm]; exact h.ht, h.nt, h.nd, h.new, ?_⟩
  unfold app1
  rw [getD_of hl]
  exact paired_mod h.pr h.nd hd
theorem NewTab.mono {H H' H2 : Hp} {ta : Addr} {das : List Addr} {T : List (List Int)} (h : NewTab H H' ta das T) (s : Seqs H' H2) : NewTab H H2 ta das T := ⟨s.2 _ _ h.ht, h.nt, h.nd, h.new, pairedMap (fun _ _ e => s.2 _ _ e) h.pr⟩
/-! ### how long told draws are -/
theorem app1_le (T : List (List Int)) (p q : Nat) (h : Int) : ((app1 T p h).getD q []).length ≤ (T.getD q []).length + 1 := by
  rw [app1_get]
  split
  · rename_i e
    rw [e.1, List.length_append]
    exact Nat.le_refl _
  · omega
theorem appA_le : ∀ (ps row : List Int) (T : List (List Int)) (q : Nat), ((appA T ps row).getD q []).length ≤ (T.getD q []).length + ps.length
  | [], _, _, _ => Nat.le_refl _
  | _ :: _, [], _, _ => Nat.le_add_right _ _
  | p :: r, h :: s, T, q => by
    have a := appA_le r s (app1 T p.toNat h) q
    have b := app1_le T p.toNat q h
    show ((appA (app1 T p.toNat h) r s).getD q []).length ≤ _
    rw [List.length_cons]
    omega
theorem appA_snoc (T : List (List Int)) : ∀ {ps row : List Int} {j : Nat} {p h : Int}, ps[j]? = some p → row[j]? = some h → appA T (ps.take (j + 1)) (row.take (j + 1)) = app1 (appA T (ps.take j) (row.take j)) p.toNat h := by
  intro ps row j p h hp hh
  unfold appA
  have e : (ps.take (j + 1)).zip (row.take (j + 1)) = (ps.take j).zip (row.take j) ++ [(p, h)] := by
    rw [take_snoc hp, take_snoc hh]
    rw [List.zip_append]
    · rfl
    · rw [List.length_take, List.length_take]
      have a := (List.getElem?_eq_some_iff.mp hp).1
      have b := (List.getElem?_eq_some_iff.mp hh).1
      omega
  rw [e, List.foldl_append]
  rfl
theorem toldL_le {wds : List WD} (h3 : ∀ wd ∈ wds, wd.1.length ≤ 3) (n q : Nat) : ∀ log : Log, ((toldL wds n log).getD q []).length ≤ 3 * log.length := by
  have pl3 : ∀ k : Int, (plc wds k).length ≤ 3 := fun k => by
    unfold plc
    rw [List.getD_eq_getElem?_getD]
    cases e : wds[k.toNat]? with
    | none => simp
    | some wd => exact h3 wd (List.mem_of_getElem? e)
  have key : ∀ (log : Log) (T : List (List Int)), ((log.foldl (fun t e => appA t (plc wds e.1) e.2) T).getD q []).length ≤ (T.getD q []).length + 3 * log.length := by
    intro log
    induction log with
    | nil => intro T; exact Nat.le_refl _
    | cons e r ih =>
      intro T
      rw [List.foldl_cons, List.length_cons]
      have a := ih (appA T (plc wds e.1) e.2)
      have b := appA_le (plc wds e.1) e.2 T q
      have c := pl3 e.1
      omega
  intro log
  have a := key log (List.replicate n [])
  have b : ((List.replicate n ([] : List Int)).getD q []).length = 0 := by
    rw [List.getD_eq_getElem?_getD, List.getElem?_replicate]
    split <;> rfl
  unfold toldL
  omega
/-! ### logs looked at -/
def entB (wds : List WD) (x : Int × List Int) : Bool := decide (0 ≤ x.1 ∧ x.1 < (wds.length : Int) ∧ x.2 ∈ (wds.getD x.1.toNat ([], [])).2)
def logB (wds : List WD) (log : Log) : Bool := log.all (entB wds)
theorem logB_ok {wds : List WD} {log : Log} (h : logB wds log = true) : LogOk wds log := fun e he => by
  obtain ⟨h0, h1, h2⟩ := of_decide_eq_true (List.all_eq_true.mp h e he)
  have hk : e.1.toNat < wds.length := by omega
  rw [getD_get hk] at h2
  exact ⟨h0, h1, _, List.getElem?_eq_getElem hk, h2⟩
theorem logB_of {wds : List WD} {log : Log} (h : LogOk wds log) : logB wds log = true := List.all_eq_true.mpr fun e he => by
  obtain ⟨h0, h1, wd, hw, hr⟩ := h e he
  exact decide_eq_true ⟨h0, h1, by rw [getD_of hw]; exact hr⟩
theorem shaped_row (r : Dt.Row) : SeqAt.shaped (rowD r) = true := by
  have a : ∀ l : List Int, PyData.canLayAll0 (l.map .int) = true := Gv.canAll_ints
  have b : ∀ l : List Int, PyData.depthAll (l.map .int) ≤ 1 := fun l => by
    induction l with
    | nil => simp [PyData.depthAll]
    | cons x q ih => simp only [List.map_cons, PyData.depthAll, PyData.depth]; omega
  show ((rowD r).canLay0 && decide ((rowD r).depth ≤ 64)) = true
  have d : (rowD r).depth ≤ 64 := by
    unfold rowD
    simp only [PyData.depth]
    have := b r
    omega
  have c : (rowD r).canLay0 = true := by
    unfold rowD
    simp only [PyData.canLay0]
    exact a r
  rw [c, decide_eq_true d]
  rfl
theorem row_hue {many hues : Int} {wds : List WD} (gr : GoodR many hues wds) {log : Log} (h : LogOk wds log) : ∀ e ∈ log, ∀ z ∈ e.2, 0 ≤ z ∧ z < hues := fun e he z hz => by
  obtain ⟨_, _, wd, hw, hr⟩ := h e he
  exact ((gr.each wd (List.mem_of_getElem? hw)).row _ hr).2 z hz
theorem app1_all {Pz : Int → Prop} {T : List (List Int)} {p : Nat} {x : Int} (h : ∀ l ∈ T, ∀ z ∈ l, Pz z) (hx : Pz x) : ∀ l ∈ app1 T p x, ∀ z ∈ l, Pz z := fun l hl z hz => by
  rcases List.mem_or_eq_of_mem_set hl with e | e
  · exact h l e z hz
  · rw [e] at hz
    rcases List.mem_append.mp hz with q | q
    · by_cases hp : p < T.length
      · exact h _ (getD_mem (d := []) hp) z q
      · rw [List.getD_eq_getElem?_getD, List.getElem?_eq_none (by omega)] at q
        cases q
    · rw [List.mem_singleton.mp q]; exact hx
theorem appA_all {Pz : Int → Prop} : ∀ (ps row : List Int) (T : List (List Int)), (∀ l ∈ T, ∀ z ∈ l, Pz z) → (∀ z ∈ row, Pz z) → ∀ l ∈ appA T ps row, ∀ z ∈ l, Pz z
  | [], _, _, h, _ => h
  | _ :: _, [], _, h, _ => h
  | p :: r, x :: s, T, h, hr => appA_all r s (app1 T p.toNat x) (app1_all h (hr x List.mem_cons_self)) fun z hz => hr z (List.mem_cons_of_mem _ hz)
theorem toldL_all {Pz : Int → Prop} (wds : List WD) (n : Nat) : ∀ log : Log, (∀ e ∈ log, ∀ z ∈ e.2, Pz z) → ∀ l ∈ toldL wds n log, ∀ z ∈ l, Pz z := by
  have key : ∀ (log : Log) (T : List (List Int)), (∀ l ∈ T, ∀ z ∈ l, Pz z) → (∀ e ∈ log, ∀ z ∈ e.2, Pz z) → ∀ l ∈ log.foldl (fun t e => appA t (plc wds e.1) e.2) T, ∀ z ∈ l, Pz z := by
    intro log
    induction log with
    | nil => intro T h _; exact h
    | cons e r ih =>
      intro T h hl
      rw [List.foldl_cons]
      exact ih _ (appA_all _ _ _ h (hl e List.mem_cons_self)) fun x hx => hl x (List.mem_cons_of_mem _ hx)
  intro log h
  refine key log _ (fun l hl z hz => ?_) h
  rw [(List.mem_replicate.mp hl).2] at hz
  cases hz
theorem told_good {many hues : Int} {wds : List WD} (gr : GoodR many hues wds) {fs : List Int} {log : Log} (gf : GoodF many hues fs) (h : LogOk wds log) (few : ∀ ds ∈ toldT wds fs log, ds.length ≤ 1000) : GoodT many hues (toldT wds fs log) := by
  have each : ∀ ds ∈ toldT wds fs log, ∃ q, q < fs.length ∧ ds = (toldL wds fs.length log).getD q [] ++ [fs.getD q 0] := fun ds hd => by
    obtain ⟨i, hi, e⟩ := List.getElem_of_mem hd
    rw [toldT_len] at hi
    refine ⟨i, hi, ?_⟩
    rw [← toldT_get wds fs log hi, getD_get (by rw [toldT_len]; exact hi), e]
  refine ⟨by rw [toldT_len]; exact gf.len, fun ds hd => ?_, few, fun ds hd z hz => ?_⟩
  · obtain ⟨q, _, e⟩ := each ds hd
    rw [e, List.length_append]
    exact Nat.le_add_left _ _
  · obtain ⟨q, hq, e⟩ := each ds hd
    rw [e] at hz
    rcases List.mem_append.mp hz with y | y
    · have hq2 : q < (toldL wds fs.length log).length := by rw [toldL_len]; exact hq
      exact toldL_all (Pz := fun z => 0 ≤ z ∧ z < hues) wds _ log (row_hue gr h) _ (getD_mem hq2) z y
    · rw [List.mem_singleton.mp y]
      exact gf.hue _ (Dt.getD_mem hq)
/-! ### equality of what is told -/
theorem eqv_ent (x y : Int × List Int) : PyData.eqv (entD x) (entD y) = decide (x = y) := by
  obtain ⟨a, r⟩ := x
  obtain ⟨b, s⟩ := y
  unfold entD
  have e := eqv_row r s
  simp only [PyData.eqv, PyData.eqvAll, e, Bool.and_true]
  by_cases h : a = b
  · subst h
    by_cases h2 : r = s
    · subst h2; simp
    · simp [h2]
  · simp [h]
theorem eqvAll_ents : ∀ a b : Log, PyData.eqvAll (a.map entD) (b.map entD) = decide (a = b)
  | [], [] => by simp [PyData.eqvAll]
  | [], _ :: _ => by simp [PyData.eqvAll]
  | _ :: _, [] => by simp [PyData.eqvAll]
  | x :: r, y :: q => by
    simp only [List.map_cons, PyData.eqvAll, eqv_ent, eqvAll_ents r q]
    by_cases h : x = y
    · subst h; simp
    · simp [h]
theorem eqv_log (a b : Log) : PyData.eqv (logD a) (logD b) = decide (a = b) := by
  unfold logD
  rw [PyData.eqv]
  exact eqvAll_ents a b
theorem eqv_endS (a b : Bool) : PyData.eqv (.str (endS a)) (.str (endS b)) = decide (a = b) := by
  cases a <;> cases b <;> decide +kernel
theorem eqv_res (R S : Res) : PyData.eqv (resD R) (resD S) = decide (R = S) := by
  obtain ⟨a, f, l⟩ := R
  obtain ⟨b, g, m⟩ := S
  unfold resD
  have e1 := eqv_endS a b
  have e2 := eqv_row f g
  have e3 := eqv_log l m
  rw [PyData.eqv]
  simp only [PyData.eqvAll, e1, e2, e3, Bool.and_true]
  by_cases h1 : a = b
  · by_cases h2 : f = g
    · by_cases h3 : l = m
      · subst h1; subst h2; subst h3; simp
      · simp [h3]
    · simp [h2]
  · simp [h1]
def isRunB (wds : List WD) (ord : List Int) (b : Bool) (fs : List Int) (log : Log) : Bool := logB wds log && decide (runOf wds (toldT wds fs log) ord = some (b, fs, log))
/-! ### frames but for the tape and some tables -/
structure FrT (tp : Addr) (Ps : List Addr) (H H' : Hp) : Prop where
  keep : ∀ b o, b ≠ tp → b ∉ Ps → H b = some o → H' b = some o
  tape : Tape H' tp
  tabs : Tabs Ps H'
theorem FrT.frs {tp : Addr} {Ps : List Addr} {H H' : Hp} (t : Tape H tp) (tt : Tabs Ps H) (f : FrS Ps H H') : FrT tp Ps H H' := ⟨fun b o _ n e => f.1 b o n e, t.seqs (f.seqs tt), f.2⟩
theorem FrT.taped {tp : Addr} {Ps : List Addr} {H H' : Hp} (t : Tape H tp) (tt : Tabs Ps H) (f : Taped tp H H') : FrT tp Ps H H' := ⟨fun b o n _ e => f.1 b o n e, f.2, f.tabs t tt⟩
theorem FrT.trans {tp : Addr} {Ps : List Addr} {H H1 H2 : Hp} (a : FrT tp Ps H H1) (b : FrT tp Ps H1 H2) : FrT tp Ps H H2 := ⟨fun x o n m e => b.keep x o n m (a.keep x o n m e), b.tape, b.tabs⟩
theorem FrT.refl {tp : Addr} {Ps : List Addr} {H : Hp} (t : Tape H tp) (tt : Tabs Ps H) : FrT tp Ps H H := ⟨fun _ _ _ _ e => e, t, tt⟩
theorem FrT.same {tp : Addr} {Ps : List Addr} {H H1 H2 : Hp} (a : FrT tp Ps H H1) (s : Same H1 H2) : FrT tp Ps H H2 := ⟨fun x o n m e => s _ _ (a.keep x o n m e), a.tape.same s, a.tabs.same s⟩
theorem FrT.put {tp : Addr} {Ps : List Addr} {H H1 : Hp} {b : Addr} {o : HO} (a : FrT tp Ps H H1) (n : H b = none) (nt : b ≠ tp) (np : b ∉ Ps) : FrT tp Ps H (upd H1 b o) := ⟨fun x u m k e => by rw [upd_ne (ne_of_none e n)]; exact a.keep x u m k e, a.tape.put nt, a.tabs.put np⟩
theorem FrT.tups {tp : Addr} {Ps : List Addr} {H H' : Hp} (t : Tape H tp) (tt : Tabs Ps H) (f : FrT tp Ps H H') : Tups H H' := fun b xs e => f.keep b _ (fun z => by
  obtain ⟨_, _, h1, _⟩ := t
  rw [z, h1] at e
  cases e) (tt.tup e) e
theorem FrT.lst {tp : Addr} {Ps : List Addr} {H H' : Hp} (tt : Tabs Ps H) (f : FrT tp Ps H H') {b : Addr} {xs : List V} (n : b ≠ tp) (e : H b = some (.lst xs)) : H' b = some (.lst xs) := f.keep b _ n (tt.lst e) e
theorem FrT.free {tp : Addr} {Ps : List Addr} {H H' : Hp} {b : Addr} (f : FrT tp Ps H H') (h : H' b = none) : H b = none := by
  cases e : H b with
  | none => rfl
  | some o =>
    have h1 := f.tape.new h
    have h2 := f.tabs.new h
    rw [f.keep b o h1 h2 e] at h
    cases h
theorem LI.frt {K : PySem.W.Frag} {a : Addr} {xs : List V} {Ps : List Addr} {tp : Addr} {H H' : Hp} (h : LI K a xs Ps tp H) (f : FrT tp Ps H H') : LI K a xs Ps tp H' := by
  refine ⟨f.tape, f.tabs, ?_, h.far⟩
  by_cases e : a = tp
  · exact h.far e H'
  · rcases h.scr with (z | ⟨o, z⟩) | z
    · exact .inl (.inl (f.lst h.tabs e z))
    · exact .inl (.inr ⟨o, f.keep a _ e (fun y => by obtain ⟨ps, q, _⟩ := h.tabs a y; rw [z] at q; cases q) z⟩)
    · exact .inr z
theorem IsTab.frt {tp : Addr} {Ps : List Addr} {H H' : Hp} {ta : Addr} {tb : List (List Int)} (h : IsTab (· = tp) H ta tb) (tt : Tabs Ps H) (f : FrT tp Ps H H') : IsTab (· = tp) H' ta tb := h.mono fun b xs n e => f.lst tt n e
/-- a list of the items of two lists -/
theorem lc_zipL {K : PySem.W.Frag} {a b : Addr} {xs ys : List V} {g : TG} {tt : TT} {te : TE} {vs : List Nat} {σ : L2.St} {H1 : Hp} {D : Addr} {Qd : Hp → Prop} (hl : xs.length = ys.length) (Pv : Nat → Hp → Prop) (h0 : Pv 0 (upd H1 D (.lst []))) (hq : ∀ i H, Pv i H → SqL K H a xs ∧ SqL K H b ys)
    (hs : ∀ i x y T H, xs[i]? = some x → ys[i]? = some y → Pv i H → H T = none → g (.ref T) (wipe σ vs) (upd H T (.tup [x, y])) fun σ2 H2 => wipe σ2 vs = wipe σ vs ∧ tt σ2 H2 fun b H3 =>
      if b = true then te σ2 H3 fun y H4 => ∃ acc, H4 D = some (.lst acc) ∧ acc.length < sizeLine ∧ Pv (i + 1) (upd H4 D (.lst (acc ++ [y]))) else Pv (i + 1) H3) (hd : ∀ H, Pv xs.length H → Qd H) :
    ∃ W : Nat → Nat → Hp → Prop, (∃ m, W 0 m (upd H1 D (.lst []))) ∧ ∀ i m H, W i m H →
      ((Itz K a b).stop i H ∧ Qd H) ∨ ((Itz K a b).go i H ∧ ∃ Nx : Hp → Prop, (∀ H', Nx H' → ∃ m', m' < m ∧ W (i + 1) m' H') ∧ ∀ x H', (Itz K a b).yld i H x H' → g x (wipe σ vs) H' fun σ2 H2 => wipe σ2 vs = wipe σ vs ∧ tt σ2 H2 fun b H3 =>
        if b = true then te σ2 H3 fun y H4 => ∃ acc, H4 D = some (.lst acc) ∧ acc.length < sizeLine ∧ Nx (upd H4 D (.lst (acc ++ [y]))) else Nx H3) := by
  refine ⟨fun i m H => m = xs.length - i ∧ i ≤ xs.length ∧ Pv i H, ⟨xs.length, by simp, Nat.zero_le _, h0⟩, ?_⟩
  rintro i m H ⟨rfl, hi, p⟩
  obtain ⟨qx, qy⟩ := hq i H p
  by_cases hlt : i < xs.length
  · have hx : xs[i]? = some xs[i] := List.getElem?_eq_getElem hlt
    have hlt2 : i < ys.length := by omega
    have hy : ys[i]? = some ys[i] := List.getElem?_eq_getElem hlt2
    refine .inr ⟨⟨xs, ys, _, _, qx, qy, hx, hy⟩, Pv (i + 1), fun H' p' => ⟨xs.length - (i + 1), by omega, rfl, hlt, p'⟩, fun v H' y => ?_⟩
    obtain ⟨T, x', y', rfl, hT, rfl, f1, f2⟩ := y
    exact hs i x' y' T H (f1 xs qx) (f2 ys qy) p hT
  · have e : i = xs.length := by omega
    subst e
    exact .inl ⟨⟨xs, ys, qx, qy, Or.inl (Nat.le_refl _)⟩, hd H p⟩
theorem pairedTake {α β : Type} {F : α → β → Prop} : ∀ {l : List α} {m : List β} (n : Nat), Paired F l m → Paired F (l.take n) (m.take n)
  | _, _, 0, _ => by rw [List.take_zero, List.take_zero]; exact .nil
  | _, _, _ + 1, .nil => .nil
  | _, _, n + 1, .cons h t => .cons h (pairedTake n t)
theorem pairedDrop {α β : Type} {F : α → β → Prop} : ∀ {l : List α} {m : List β} (n : Nat), Paired F l m → Paired F (l.drop n) (m.drop n)
  | _, _, 0, h => h
  | _, _, _ + 1, .nil => .nil
  | _, _, n + 1, .cons _ t => pairedDrop n t
end Rd

set_option Elab.async false
set_option linter.all false
set_option maxRecDepth 100000
set_option maxHeartbeats 4000000
/-! the greatest of a list of pairs -/
namespace Rd
open PySem PySem.Spec PyProof.Rows L2 Dt
def pairD (z : Int × Int) : PyData := .tuple [.int z.1, .int z.2]
theorem pairD_inj {a b : Int × Int} (h : pairD a = pairD b) : a = b := by
  unfold pairD at h
  injection h with h
  injection h with h1 h2
  injection h1 with h1
  injection h2 with h2 _
  injection h2 with h2
  exact Prod.ext h1 h2
def ltP (a b : Int × Int) : Bool := PySem.W.dataLt (pairD a) (pairD b)
theorem ltP_le {a b : Int × Int} (h : ltP a b = true) : a.1 ≤ b.1 := by
  by_cases e : a.1 = b.1
  · omega
  · unfold ltP pairD at h
    rw [PySem.W.dataLt_tuple, PySem.W.dataLt_all_no (by simp [PySem.W.alike]) (by simp [PyData.eqv]; exact e), PySem.W.dataLt_int] at h
    have := of_decide_eq_true h
    omega
theorem ltP_of {a b : Int × Int} (h : a.1 < b.1) : ltP a b = true := by
  unfold ltP pairD
  rw [PySem.W.dataLt_tuple, PySem.W.dataLt_all_no (by simp [PySem.W.alike]) (by simp [PyData.eqv]; omega), PySem.W.dataLt_int]
  exact decide_eq_true h
def maxP (x : Int × Int) (xs : List (Int × Int)) : Int × Int := xs.foldl (fun a y => if ltP a y then y else a) x
theorem maxD_pairs : ∀ (xs : List (Int × Int)) (x : Int × Int), PySem.W.maxD (pairD x) (xs.map pairD) = pairD (maxP x xs)
  | [], _ => rfl
  | y :: r, x => by
    have ih := maxD_pairs r (if ltP x y then y else x)
    unfold PySem.W.maxD maxP at ih ⊢
    rw [List.map_cons, List.foldl_cons, List.foldl_cons, ← ih]
    congr 1
    unfold ltP
    split <;> rfl
theorem maxP_is : ∀ (xs : List (Int × Int)) (x : Int × Int), maxP x xs ∈ x :: xs ∧ x.1 ≤ (maxP x xs).1 ∧ ∀ y ∈ xs, y.1 ≤ (maxP x xs).1
  | [], x => ⟨List.mem_cons_self, Int.le_refl _, fun _ h => nomatch h⟩
  | y :: r, x => by
    obtain ⟨m, a, b⟩ := maxP_is r (if ltP x y then y else x)
    have e : maxP x (y :: r) = maxP (if ltP x y then y else x) r := rfl
    rw [e]
    by_cases c : ltP x y = true
    · rw [if_pos c] at m a b ⊢
      have := ltP_le c
      refine ⟨List.mem_cons_of_mem _ m, by omega, fun z hz => ?_⟩
      rcases List.mem_cons.mp hz with rfl | hz
      · exact a
      · exact b z hz
    · rw [if_neg c] at m a b ⊢
      have : y.1 ≤ x.1 := by
        by_cases d : x.1 < y.1
        · exact absurd (ltP_of d) c
        · omega
      refine ⟨?_, a, fun z hz => ?_⟩
      · rcases List.mem_cons.mp m with m | m
        · rw [m]
          exact List.mem_cons_self
        · exact List.mem_cons_of_mem _ (List.mem_cons_of_mem _ m)
      · rcases List.mem_cons.mp hz with rfl | hz
        · omega
        · exact b z hz
/-- max(xs) of a list of pairs: one of the greatest first ones -/
def rMaxP (K : PySem.W.Frag) : List V → Hp → VK → Prop := fun vs H Q => ∃ (a : Addr) (ts : List Addr) (k : Addr → Int × Int), vs = [V.ref a] ∧ SqL K H a (ts.map V.ref) ∧ ts ≠ [] ∧ (∀ t ∈ ts, H t = some (.tup [.int (k t).1, .int (k t).2])) ∧
  ∀ t ∈ ts, (∀ u ∈ ts, (k u).1 ≤ (k t).1) → Q (.ref t) H
theorem dpPairs {K : PySem.W.Frag} {H : Hp} {k : Addr → Int × Int} : ∀ {ts : List Addr}, (∀ t ∈ ts, H t = some (.tup [.int (k t).1, .int (k t).2])) → DpAll K H (ts.map V.ref) ((ts.map k).map pairD)
  | [], _ => .nil
  | t :: r, h => .cons (.tup (.inl (.inl (h t List.mem_cons_self))) (.cons (.int _) (.cons (.int _) .nil))) (dpPairs fun u hu => h u (List.mem_cons_of_mem _ hu))
theorem readsAll_get {h : Heap} : ∀ {vs : List Value} {xs : List PyData} {as : List Addr}, ReadsAll h vs xs as → ∀ {i : Nat} {v : Value} {d : PyData}, vs[i]? = some v → xs[i]? = some d → ∃ bs, Reads h v d bs
  | _, _, _, .nil, _, _, _, hv, _ => by simp at hv
  | _, _, _, .cons r rs, 0, v, d, hv, hd => by
    cases Option.some.inj (show some _ = some v from hv)
    cases Option.some.inj (show some _ = some d from hd)
    exact ⟨_, r⟩
  | _, _, _, .cons r rs, i + 1, v, d, hv, hd => readsAll_get rs (i := i) hv hd
theorem cr_maxP {X : Cx} (hc : X.calm = true) (hu : X.A.units + 64 < cLine) : CallR X (.builtin "max") (rMaxP X.K) := by
  intro pins s σ H vs us Q I r h
  obtain ⟨a, ts, k, rfl, hs, hne, hk, q⟩ := h
  obtain ⟨its, rv, hl, _⟩ := I.list hs
  rw [Vals.ref1 r]
  have ei := Tt.vals_refs rv
  obtain ⟨as, rr⟩ := Dp.readsAll I _ _ _ (dpPairs hk) rv
  cases ts with
  | nil => exact absurd rfl hne
  | cons t0 tr =>
    refine PySem.W.max_list_data (x := pairD (k t0)) (xs := (tr.map k).map pairD) (I.ok.hd hc) hl.isList rr ⟨fun x hx y hy => ?_, fun x hx => ?_⟩ ?_ fun i v h' tk bs hi hrd hkp => ?_
    · have px : ∀ x ∈ pairD (k t0) :: (tr.map k).map pairD, ∃ z, x = pairD z := fun x hx => by
        rcases List.mem_cons.mp hx with e | e
        · exact ⟨_, e⟩
        · obtain ⟨z, _, e⟩ := List.mem_map.mp e
          exact ⟨z, e.symm⟩
      obtain ⟨z, rfl⟩ := px x hx
      obtain ⟨z', rfl⟩ := px y hy
      simp [pairD, PySem.W.alike, PySem.W.alikeAll]
    · rcases List.mem_cons.mp hx with e | e
      · rw [e]
        exact fun z => nomatch z
      · obtain ⟨z, _, e⟩ := List.mem_map.mp e
        rw [← e]
        exact fun z => nomatch z
    · have d : PyData.depthAll (pairD (k t0) :: (tr.map k).map pairD) ≤ 3 := by
        have all : ∀ zs : List (Int × Int), PyData.depthAll (zs.map pairD) ≤ 3 := fun zs => by
          induction zs with
          | nil => simp [PyData.depthAll]
          | cons z r ih =>
            rw [List.map_cons]
            simp only [PyData.depthAll, pairD, PyData.depth]
            omega
        exact all (k t0 :: tr.map k)
      omega
    · have hi' : ((t0 :: tr).map Value.ref)[i]? = some v := by
        rw [← ei]
        have z := hi
        rw [List.getElem?_toArray] at z
        exact z
      rw [List.getElem?_map] at hi'
      cases et : (t0 :: tr)[i]? with
      | none => rw [et] at hi'; cases hi'
      | some t =>
        rw [et] at hi'
        cases hi'
        have mt := List.mem_of_getElem? et
        obtain ⟨bs2, r2⟩ := readsAll_get rr (i := i) (v := .ref t) (d := pairD (k t)) (by rw [ei, List.getElem?_map, et]; rfl) (by rw [List.getElem?_map, List.getElem?_map, et]; rfl)
        have e := (PyProof.Rows.reads_det (fun b o e _ => hkp b o e) r2 hrd).1
        rw [maxD_pairs] at e
        have ek := pairD_inj e
        obtain ⟨_, m1, m2⟩ := maxP_is (tr.map k) (k t0)
        refine ⟨.ref t, H, I.kept hkp, rfl, q t mt fun u hu' => ?_⟩
        rw [← ek]
        rcases List.mem_cons.mp hu' with rfl | hu'
        · exact m1
        · exact m2 _ (List.mem_map.mpr ⟨u, hu', rfl⟩)
end Rd

set_option Elab.async false
set_option linter.all false
set_option maxRecDepth 100000
set_option maxHeartbeats 4000000
/-! how many fillings break one wish: rows times hues to the power of the other places -/
namespace Rd
open PySem PySem.Spec PyProof.Rows L2 Dt
def okG (g : Nat → Option Int) (n : Nat) (f : List Int) : Bool := (List.range n).all fun i => match g i with
  | none => true
  | some z => decide (f.getD i 0 = z)
theorem okG_snoc (g : Nat → Option Int) {n : Nat} {f : List Int} (hl : f.length = n) (x : Int) : okG g (n + 1) (f ++ [x]) = (okG g n f && (match g n with | none => true | some z => decide (x = z))) := by
  unfold okG
  rw [List.range_succ, List.all_append]
  have e1 : ((List.range n).all fun i => match g i with | none => true | some z => decide ((f ++ [x]).getD i 0 = z)) = (List.range n).all fun i => match g i with | none => true | some z => decide (f.getD i 0 = z) := by
    rw [Bool.eq_iff_iff, List.all_eq_true, List.all_eq_true]
    have e : ∀ i ∈ List.range n, (f ++ [x]).getD i 0 = f.getD i 0 := fun i hi => by
      have := List.mem_range.mp hi
      rw [List.getD_eq_getElem?_getD, List.getD_eq_getElem?_getD, List.getElem?_append_left (by omega)]
    constructor
    · intro h i hi
      have := h i hi
      rw [e i hi] at this
      exact this
    · intro h i hi
      rw [e i hi]
      exact h i hi
  rw [e1]
  have e2 : (f ++ [x]).getD n 0 = x := by
    rw [List.getD_eq_getElem?_getD, List.getElem?_append_right (by omega), hl, Nat.sub_self]
    rfl
  simp only [List.all_cons, List.all_nil, Bool.and_true, e2]
def wt (h : Nat) (g : Nat → Option Int) : Nat → Nat
  | 0 => 1
  | n + 1 => wt h g n * (match g n with | none => h | some _ => 1)
theorem cnt_none : ∀ (h : Nat) (z : Int), ¬ (0 ≤ z ∧ z < (h : Int)) → (List.range h).countP (fun i => decide (((i : Nat) : Int) = z)) = 0
  | 0, _, _ => rfl
  | h + 1, z, n => by
    rw [List.range_succ, List.countP_append, cnt_none h z (by omega), List.countP_cons, decide_eq_false (by omega : ¬ ((h : Nat) : Int) = z)]
    rfl
theorem cnt_eq : ∀ (h : Nat) (z : Int), 0 ≤ z → z < (h : Int) → (List.range h).countP (fun i => decide (((i : Nat) : Int) = z)) = 1
  | 0, z, h0, h1 => by omega
  | h + 1, z, h0, h1 => by
    rw [List.range_succ, List.countP_append, List.countP_cons]
    by_cases e : z = (h : Int)
    · rw [cnt_none h z (by omega), decide_eq_true e.symm]
      rfl
    · rw [cnt_eq h z h0 (by omega), decide_eq_false (by omega : ¬ ((h : Nat) : Int) = z)]
      rfl
theorem sum_map_if {α : Type} (p : α → Bool) (c : Nat) : ∀ l : List α, (l.map fun x => if p x = true then c else 0).sum = l.countP p * c
  | [] => by simp
  | x :: r => by
    rw [List.map_cons, List.sum_cons, sum_map_if p c r, List.countP_cons]
    by_cases e : p x = true
    · rw [if_pos e, if_pos e, Nat.add_mul]; omega
    · rw [if_neg e, if_neg e, Nat.zero_add, Nat.add_zero]
theorem cnt_ok (h : Nat) (g : Nat → Option Int) (hg : ∀ i z, g i = some z → 0 ≤ z ∧ z < (h : Int)) : ∀ n : Nat, (fillL h n).countP (okG g n) = wt h g n
  | 0 => rfl
  | n + 1 => by
    show ((fillL h n).flatMap (longer h)).countP (okG g (n + 1)) = _
    rw [List.countP_flatMap]
    have e : (fillL h n).map (List.countP (okG g (n + 1)) ∘ longer h) = (fillL h n).map fun f => if okG g n f = true then (match g n with | none => h | some _ => 1) else 0 := by
      refine List.map_congr_left fun f hf => ?_
      have fl := (fill_good hf).1
      show ((longer h f).countP (okG g (n + 1))) = _
      unfold longer
      rw [List.countP_map]
      have e3 : (okG g (n + 1) ∘ fun x : Nat => f ++ [((x : Nat) : Int)]) = fun x : Nat => (okG g n f && (match g n with | none => true | some z => decide (((x : Nat) : Int) = z))) := by
        funext x
        exact okG_snoc g fl _
      rw [e3]
      cases ok : okG g n f with
      | false => simp
      | true =>
        cases eg : g n with
        | none => simp
        | some z =>
          simp only [Bool.true_and, if_true]
          exact cnt_eq h z (hg n z eg).1 (hg n z eg).2
    rw [e, sum_map_if, cnt_ok h g hg n]
    rfl
/-- what a row asks of a place -/
def askG (ps row : List Int) (i : Nat) : Option Int := if ((i : Nat) : Int) ∈ ps then some (row.getD (ps.idxOf ((i : Nat) : Int)) 0) else none
theorem ok_ask {ps row f : List Int} {n : Nat} (nd : ps.Nodup) (hp : ∀ p ∈ ps, 0 ≤ p ∧ p < (n : Int)) (hr : row.length = ps.length) : okG (askG ps row) n f = decide (huesA f ps = row) := by
  rw [Bool.eq_iff_iff, decide_eq_true_eq]
  unfold okG
  rw [List.all_eq_true]
  constructor
  · intro h
    refine List.ext_getElem (by rw [huesA, List.length_map, hr]) fun k h1 h2 => ?_
    have hk : k < ps.length := by rw [huesA, List.length_map] at h1; exact h1
    have hm := List.getElem_mem hk
    obtain ⟨p0, p1⟩ := hp _ hm
    have z := h ps[k].toNat (List.mem_range.mpr (by omega))
    have e : ((ps[k].toNat : Nat) : Int) = ps[k] := by omega
    have ei : ps.idxOf ps[k] = k := nd.idxOf_getElem k hk
    unfold askG at z
    rw [e, if_pos hm, ei] at z
    have z := of_decide_eq_true z
    simp only [huesA, List.getElem_map, atF]
    rw [z, List.getD_eq_getElem?_getD, List.getElem?_eq_getElem h2]
    rfl
  · intro h i hi
    unfold askG
    by_cases e : ((i : Nat) : Int) ∈ ps
    · rw [if_pos e]
      refine decide_eq_true ?_
      have hx := List.idxOf_lt_length_of_mem e
      have e2 : (List.map (atF f) ps).getD (List.idxOf ((i : Nat) : Int) ps) 0 = f.getD i 0 := by
        rw [List.getD_eq_getElem?_getD, List.getElem?_map, List.getElem?_eq_getElem hx]
        simp only [Option.map_some, Option.getD_some, List.getElem_idxOf, atF, Int.toNat_natCast]
      rw [← h, huesA, e2]
    · rw [if_neg e]
theorem wt_ask (h : Nat) (ps row : List Int) : ∀ n : Nat, wt h (askG ps row) n = h ^ ((List.range n).countP fun i => decide (¬ ((i : Nat) : Int) ∈ ps))
  | 0 => rfl
  | n + 1 => by
    rw [wt, wt_ask h ps row n, List.range_succ, List.countP_append, List.countP_cons, List.countP_nil, Nat.zero_add, Nat.pow_add]
    congr 1
    unfold askG
    by_cases e : ((n : Nat) : Int) ∈ ps
    · rw [if_pos e, decide_eq_false (fun z => z e)]
      rfl
    · rw [if_neg e, decide_eq_true e]
      simp
theorem cnt_in (n : Nat) : ∀ ps : List Int, ps.Nodup → (∀ p ∈ ps, 0 ≤ p ∧ p < (n : Int)) → ((List.range n).countP fun i => decide (((i : Nat) : Int) ∈ ps)) = ps.length
  | [], _, _ => by simp
  | p :: r, nd, hp => by
    obtain ⟨n1, n2⟩ := List.nodup_cons.mp nd
    have ih := cnt_in n r n2 fun q hq => hp q (List.mem_cons_of_mem _ hq)
    have h1 := cnt_eq n p (hp p List.mem_cons_self).1 (hp p List.mem_cons_self).2
    rw [List.length_cons, ← ih, ← h1]
    clear ih h1 hp nd n2
    induction n with
    | zero => rfl
    | succ n ih =>
      rw [List.range_succ, List.countP_append, List.countP_append, List.countP_append, ih]
      have e : ((([n] : List Nat).countP fun i => decide (((i : Nat) : Int) ∈ p :: r)) : Nat) = (([n] : List Nat).countP fun i => decide (((i : Nat) : Int) ∈ r)) + (([n] : List Nat).countP fun i => decide (((i : Nat) : Int) = p)) := by
        rw [List.countP_singleton, List.countP_singleton, List.countP_singleton]
        by_cases a : ((n : Nat) : Int) = p
        · have b : ¬ ((n : Nat) : Int) ∈ r := fun z => n1 (a ▸ z)
          rw [decide_eq_true a, decide_eq_false b, decide_eq_true (List.mem_cons.mpr (.inl a))]
          rfl
        · rw [decide_eq_false a]
          by_cases b : ((n : Nat) : Int) ∈ r
          · rw [decide_eq_true b, decide_eq_true (List.mem_cons_of_mem _ b)]
            rfl
          · rw [decide_eq_false b, decide_eq_false fun z => (List.mem_cons.mp z).elim a b]
            rfl
      rw [e]
      omega
theorem cnt_out {n : Nat} {ps : List Int} (nd : ps.Nodup) (hp : ∀ p ∈ ps, 0 ≤ p ∧ p < (n : Int)) : ((List.range n).countP fun i => decide (¬ ((i : Nat) : Int) ∈ ps)) = n - ps.length := by
  have a := cnt_in n ps nd hp
  have b := List.length_eq_countP_add_countP (l := List.range n) (fun i : Nat => decide (((i : Nat) : Int) ∈ ps))
  rw [List.length_range, a] at b
  have e : (fun i : Nat => decide (¬ ((i : Nat) : Int) ∈ ps)) = fun i : Nat => decide ¬ (decide (((i : Nat) : Int) ∈ ps) = true) := by
    funext i
    by_cases m : ((i : Nat) : Int) ∈ ps
    · rw [decide_eq_false (fun z => z m), decide_eq_true m]
      rfl
    · rw [decide_eq_true m, decide_eq_false m]
      rfl
  rw [e]
  omega
theorem cnt_row (h : Nat) {n : Nat} {ps row : List Int} (nd : ps.Nodup) (hp : ∀ p ∈ ps, 0 ≤ p ∧ p < (n : Int)) (hr : row.length = ps.length) (hh : ∀ z ∈ row, 0 ≤ z ∧ z < (h : Int)) : ((fillL h n).countP fun f => decide (huesA f ps = row)) = h ^ (n - ps.length) := by
  have c := cnt_ok h (askG ps row) (fun i z e => ?_) n
  · have e : okG (askG ps row) n = fun f => decide (huesA f ps = row) := funext fun f => ok_ask nd hp hr
    rw [e, wt_ask, cnt_out nd hp] at c
    exact c
  · unfold askG at e
    by_cases m : ((i : Nat) : Int) ∈ ps
    · rw [if_pos m] at e
      injection e with e
      have hx := List.idxOf_lt_length_of_mem m
      rw [List.getD_eq_getElem?_getD, List.getElem?_eq_getElem (by omega)] at e
      rw [← e]
      exact hh _ (List.getElem_mem _)
    · rw [if_neg m] at e
      cases e
/-- how many fillings a wish's rows break -/
theorem cnt_brk (h : Nat) {n : Nat} {ps : List Int} (nd : ps.Nodup) (hp : ∀ p ∈ ps, 0 ≤ p ∧ p < (n : Int)) : ∀ rows : List (List Int), rows.Nodup → (∀ r ∈ rows, r.length = ps.length ∧ ∀ z ∈ r, 0 ≤ z ∧ z < (h : Int)) → ((fillL h n).countP fun f => decide (huesA f ps ∈ rows)) = rows.length * h ^ (n - ps.length)
  | [], _, _ => by simp
  | r :: q, nr, hr => by
    obtain ⟨n1, n2⟩ := List.nodup_cons.mp nr
    have ih := cnt_brk h nd hp q n2 fun x hx => hr x (List.mem_cons_of_mem _ hx)
    have h1 := cnt_row h nd hp (hr r List.mem_cons_self).1 (hr r List.mem_cons_self).2
    rw [List.length_cons, Nat.add_mul, Nat.one_mul, ← ih, ← h1]
    clear ih h1 hr nr n2
    induction fillL h n with
    | nil => rfl
    | cons f l il =>
      rw [List.countP_cons, List.countP_cons, List.countP_cons, il]
      by_cases a : huesA f ps = r
      · have b : ¬ huesA f ps ∈ q := fun z => n1 (a ▸ z)
        rw [decide_eq_true a, decide_eq_false b, decide_eq_true (List.mem_cons.mpr (.inl a))]
        simp
        omega
      · rw [decide_eq_false a]
        by_cases b : huesA f ps ∈ q
        · rw [decide_eq_true b, decide_eq_true (List.mem_cons_of_mem _ b)]
          simp
          omega
        · rw [decide_eq_false b, decide_eq_false fun z => (List.mem_cons.mp z).elim a b]
          simp
/-! ### counts: their sum, and wishes counted twice -/
theorem bro_cnt (f : List Int) : ∀ wds : List WD, (List.range wds.length).countP (brkAt f wds) = wds.countP (brk f)
  | [] => rfl
  | w :: r => by
    rw [List.length_cons, List.range_succ_eq_map, List.countP_cons, List.countP_map, List.countP_cons]
    have e : (brkAt f (w :: r) ∘ Nat.succ) = brkAt f r := by
      funext k
      simp [brkAt]
    rw [e, bro_cnt f r]
    rfl
theorem bro_len (f : List Int) (wds : List WD) : (broL f wds wds.length).length = wds.countP (brk f) := by
  unfold broL
  rw [List.length_map, ← List.countP_eq_length_filter, bro_cnt]
theorem bump_sum : ∀ (ns : List Int) (i : Nat), i < ns.length → (bump ns i).sum = ns.sum + 1
  | [], i, h => absurd h (Nat.not_lt_zero _)
  | x :: r, 0, _ => by
    show (x + 1) + r.sum = (x + r.sum) + 1
    omega
  | x :: r, i + 1, h => by
    have z := bump_sum r i (Nat.lt_of_succ_lt_succ h)
    show x + (bump r i).sum = (x + r.sum) + 1
    omega
/-- each number times its place -/
def wsum : Nat → List Int → Int
  | _, [] => 0
  | k, x :: r => (k : Int) * x + wsum (k + 1) r
theorem bump_wsum : ∀ (ns : List Int) (i k : Nat), i < ns.length → wsum k (bump ns i) = wsum k ns + ((k + i : Nat) : Int)
  | [], i, k, h => absurd h (Nat.not_lt_zero _)
  | x :: r, 0, k, _ => by
    show (k : Int) * (x + 1) + wsum (k + 1) r = ((k : Int) * x + wsum (k + 1) r) + ((k + 0 : Nat) : Int)
    rw [Int.mul_add, Int.mul_one]
    omega
  | x :: r, i + 1, k, h => by
    have z := bump_wsum r i (k + 1) (Nat.lt_of_succ_lt_succ h)
    show (k : Int) * x + wsum (k + 1) (bump r i) = ((k : Int) * x + wsum (k + 1) r) + ((k + (i + 1) : Nat) : Int)
    rw [z]
    omega
theorem bro_le (f : List Int) (wds : List WD) : (broL f wds wds.length).length ≤ wds.length := by
  rw [bro_len]
  exact List.countP_le_length
theorem cnt_sums (wds : List WD) : ∀ (fss : List (List Int)) (ns : List Int), ns.length = wds.length + 1 → (fss.foldl (fun ns f => bump ns (broL f wds wds.length).length) ns).sum = ns.sum + (fss.length : Nat) ∧ wsum 0 (fss.foldl (fun ns f => bump ns (broL f wds wds.length).length) ns) = wsum 0 ns + ((fss.map fun f => wds.countP (brk f)).sum : Nat)
  | [], ns, _ => by simp
  | f :: r, ns, hl => by
    have b := bro_le f wds
    obtain ⟨z1, z2⟩ := cnt_sums wds r (bump ns (broL f wds wds.length).length) (by rw [bump_len]; exact hl)
    rw [List.foldl_cons, z1, z2, bump_sum ns _ (by omega), bump_wsum ns _ 0 (by omega), bro_len, List.map_cons, List.sum_cons, List.length_cons]
    constructor <;> omega
theorem wsum_rep : ∀ (n k : Nat), wsum k (List.replicate n 0) = 0
  | 0, _ => rfl
  | n + 1, k => by
    show (k : Int) * 0 + wsum (k + 1) (List.replicate n 0) = 0
    rw [wsum_rep n (k + 1)]
    omega
theorem sum_rep : ∀ n : Nat, (List.replicate n (0 : Int)).sum = 0
  | 0 => rfl
  | n + 1 => by
    show (0 : Int) + (List.replicate n 0).sum = 0
    rw [sum_rep n]
    rfl
theorem cnt_sum (wds : List WD) (fss : List (List Int)) : (cntL wds fss).sum = (fss.length : Nat) := by
  have z := (cnt_sums wds fss (cnt0 wds) (by simp [cnt0])).1
  unfold cntL
  rw [z, cnt0, sum_rep]
  omega
theorem cnt_wsum (wds : List WD) (fss : List (List Int)) : wsum 0 (cntL wds fss) = ((fss.map fun f => wds.countP (brk f)).sum : Nat) := by
  have z := (cnt_sums wds fss (cnt0 wds) (by simp [cnt0])).2
  unfold cntL
  rw [z, cnt0, wsum_rep]
  omega
theorem swap_cnt {α β : Type} (p : α → β → Bool) (m : List β) : ∀ l : List α, (l.map fun a => m.countP (p a)).sum = (m.map fun b => l.countP fun a => p a b).sum
  | [] => by
    induction m with
    | nil => rfl
    | cons b r ih => simpa using ih
  | a :: l => by
    rw [List.map_cons, List.sum_cons, swap_cnt p m l]
    clear swap_cnt
    induction m with
    | nil => rfl
    | cons b r ih =>
      rw [List.map_cons, List.map_cons, List.sum_cons, List.sum_cons, List.countP_cons, List.countP_cons, ← ih]
      omega
/-- the wishes of the fillings counted by fillings, and by wishes -/
theorem cnt_due {many hues : Int} {wds : List WD} (m0 : 0 ≤ many) (hw : ∀ wd ∈ wds, wd.1.Nodup ∧ wd.2.Nodup ∧ (∀ p ∈ wd.1, 0 ≤ p ∧ p < many) ∧ ∀ r ∈ wd.2, r.length = wd.1.length ∧ ∀ z ∈ r, 0 ≤ z ∧ z < hues) (h0 : 0 ≤ hues) :
    wsum 0 (cntL wds (fillL hues.toNat many.toNat)) = ((wds.map fun wd => wd.2.length * hues.toNat ^ (many.toNat - wd.1.length)).sum : Nat) := by
  rw [cnt_wsum, swap_cnt]
  congr 2
  refine List.map_congr_left fun wd hd => ?_
  obtain ⟨n1, n2, n3, n4⟩ := hw wd hd
  exact cnt_brk hues.toNat n1 (fun p hp => by have := n3 p hp; omega) wd.2 n2 fun r hr => ⟨(n4 r hr).1, fun z hz => by have := (n4 r hr).2 z hz; omega⟩
/-! ### counts, place by place -/
theorem bump_get (ns : List Int) (i k : Nat) (hk : k < ns.length) : (bump ns i).getD k 0 = ns.getD k 0 + (if i = k then 1 else 0) := by
  unfold Dt.bump
  by_cases e : i = k
  · subst e
    rw [if_pos rfl, List.getD_eq_getElem?_getD, List.getElem?_set_self hk]
    rfl
  · rw [if_neg e, List.getD_eq_getElem?_getD, List.getElem?_set_ne e, ← List.getD_eq_getElem?_getD]
    omega
theorem cnt_gets (wds : List WD) {k : Nat} (hk : k < wds.length + 1) : ∀ (fss : List (List Int)) (ns : List Int), ns.length = wds.length + 1 → (fss.foldl (fun ns f => bump ns (broL f wds wds.length).length) ns).getD k 0 = ns.getD k 0 + ((fss.countP fun f => decide (wds.countP (brk f) = k) : Nat) : Int)
  | [], ns, _ => by simp
  | f :: r, ns, hl => by
    rw [List.foldl_cons, cnt_gets wds hk r (bump ns (broL f wds wds.length).length) (by rw [bump_len]; exact hl), bump_get ns _ k (by omega), bro_len, List.countP_cons]
    by_cases e : wds.countP (brk f) = k
    · rw [if_pos e, if_pos (decide_eq_true e)]
      omega
    · rw [if_neg e, decide_eq_false e, if_neg (by decide)]
      omega
def cntF (wds : List WD) (fss : List (List Int)) (k : Nat) : Int := ((fss.countP fun f => decide (wds.countP (brk f) = k) : Nat) : Int)
theorem cnt_form (wds : List WD) (fss : List (List Int)) : cntL wds fss = (List.range (wds.length + 1)).map (cntF wds fss) := by
  refine List.ext_getElem (by rw [cnt_len, List.length_map, List.length_range]) fun k h1 h2 => ?_
  have hk : k < wds.length + 1 := by rw [cnt_len] at h1; exact h1
  have z := cnt_gets wds hk fss (cnt0 wds) (by simp [cnt0])
  have z0 : (cnt0 wds).getD k 0 = 0 := by
    rw [cnt0, List.getD_eq_getElem?_getD, List.getElem?_replicate_of_lt hk]
    rfl
  rw [z0, Int.zero_add] at z
  rw [List.getElem_map, List.getElem_range]
  have e : (cntL wds fss).getD k 0 = (cntL wds fss)[k] := by
    rw [List.getD_eq_getElem?_getD, List.getElem?_eq_getElem h1]
    rfl
  rw [← e]
  exact z
theorem cntF_twice (wds : List WD) (fss : List (List Int)) (k : Nat) : cntF (wds ++ wds) fss (2 * k) = cntF wds fss k ∧ cntF (wds ++ wds) fss (2 * k + 1) = 0 := by
  unfold cntF
  have e1 : (fun f : List Int => decide ((wds ++ wds).countP (brk f) = 2 * k)) = fun f => decide (wds.countP (brk f) = k) := by
    funext f
    rw [List.countP_append, Bool.eq_iff_iff, decide_eq_true_eq, decide_eq_true_eq]
    omega
  have e2 : (fun f : List Int => decide ((wds ++ wds).countP (brk f) = 2 * k + 1)) = fun _ => false := by
    funext f
    rw [List.countP_append]
    exact decide_eq_false (by omega)
  rw [e1, e2]
  exact ⟨rfl, by simp⟩
/-- a wish more, which each of the fillings breaks -/
theorem cnt_every {wds : List WD} {fss : List (List Int)} {wd : WD} (h : ∀ f ∈ fss, brk f wd = true) : cntL (wds ++ [wd]) fss = 0 :: cntL wds fss := by
  have e : ∀ f ∈ fss, (wds ++ [wd]).countP (brk f) = wds.countP (brk f) + 1 := fun f hf => by
    rw [List.countP_append, List.countP_singleton, h f hf]
    rfl
  have e0 : cntF (wds ++ [wd]) fss 0 = 0 := by
    unfold cntF
    have z : (fss.countP fun f => decide ((wds ++ [wd]).countP (brk f) = 0)) = 0 := List.countP_eq_zero.mpr fun f hf => by
      rw [e f hf]
      simp
    rw [z]
    rfl
  have e1 : ∀ k, cntF (wds ++ [wd]) fss (k + 1) = cntF wds fss k := fun k => by
    unfold cntF
    congr 1
    refine List.countP_congr fun f hf => ?_
    rw [e f hf, decide_eq_true_eq, decide_eq_true_eq]
    omega
  rw [cnt_form, cnt_form, List.length_append, List.range_succ_eq_map, List.map_cons, List.map_map, e0]
  congr 1
  exact List.map_congr_left fun k _ => e1 k
/-- what lists of lengths count -/
theorem cnt_lengths (wds : List WD) (fss : List (List Int)) : ((List.range (wds.length + 1)).map fun k => (((fss.map fun f => (broL f wds wds.length).length).countP fun n => decide (n = k) : Nat) : Int)) = cntL wds fss := by
  rw [cnt_form]
  refine List.map_congr_left fun k _ => ?_
  unfold cntF
  rw [List.countP_map]
  congr 2
  funext f
  show decide ((broL f wds wds.length).length = k) = _
  rw [bro_len]
/-! ### a wish fewer -/
def shf (a k : Nat) : Nat := if k < a then k else k + 1
theorem range_but (a : Nat) : ∀ n : Nat, a < n → (List.range n).filter (fun k => decide (k ≠ a)) = (List.range (n - 1)).map (shf a)
  | 0, h => absurd h (Nat.not_lt_zero _)
  | n + 1, h => by
    rw [List.range_succ, List.filter_append, Nat.add_sub_cancel]
    by_cases e : a = n
    · subst e
      have e1 : (List.range a).filter (fun k => decide (k ≠ a)) = List.range a := List.filter_eq_self.mpr fun k hk => decide_eq_true (by have := List.mem_range.mp hk; omega)
      have e2 : (List.range a).map (shf a) = List.range a := by
        conv => rhs; rw [← List.map_id (List.range a)]
        exact List.map_congr_left fun k hk => by unfold shf; rw [if_pos (List.mem_range.mp hk)]; rfl
      have e3 : ([a] : List Nat).filter (fun k => decide (k ≠ a)) = [] := by simp
      rw [e1, e2, e3, List.append_nil]
    · have han : a < n := by omega
      have e3 : ([n] : List Nat).filter (fun k => decide (k ≠ a)) = [n] := by
        rw [List.filter_cons, decide_eq_true (by omega : n ≠ a)]
        rfl
      rw [range_but a n han, e3]
      obtain ⟨m, rfl⟩ : ∃ m, n = m + 1 := ⟨n - 1, by omega⟩
      rw [Nat.add_sub_cancel, List.range_succ, List.map_append]
      congr 1
      show [m + 1] = [shf a m]
      unfold shf
      rw [if_neg (by omega)]
theorem brk_less (f : List Int) (wds : List WD) (a k : Nat) (h : a < wds.length) : brkAt f (wds.take a ++ wds.drop (a + 1)) k = brkAt f wds (shf a k) := by
  have e : (wds.take a ++ wds.drop (a + 1))[k]? = wds[shf a k]? := by
    have tl : (wds.take a).length = a := by rw [List.length_take]; omega
    unfold shf
    by_cases c : k < a
    · rw [if_pos c, List.getElem?_append_left (by omega), List.getElem?_take_of_lt c]
    · rw [if_neg c, List.getElem?_append_right (by omega), tl, List.getElem?_drop]
      congr 1
      omega
  unfold brkAt
  rw [e]
theorem bro_less (f : List Int) (wds : List WD) (a : Nat) (h : a < wds.length ∨ wds = []) :
    (broL f (wds.take a ++ wds.drop (a + 1)) (wds.take a ++ wds.drop (a + 1)).length).map (fun k => k + (if decide ((a : Int) ≤ k) = true then 1 else 0)) = (broL f wds wds.length).filter (fun k => decide (k ≠ (a : Int))) := by
  rcases h with h | h
  · have el : (wds.take a ++ wds.drop (a + 1)).length = wds.length - 1 := by
      rw [List.length_append, List.length_take, List.length_drop]
      omega
    unfold broL
    rw [el, List.filter_map, List.map_map]
    have e1 : (List.filter (brkAt f wds) (List.range wds.length)).filter ((fun k : Int => decide (k ≠ (a : Int))) ∘ fun k : Nat => (k : Int)) = ((List.range (wds.length - 1)).filter (brkAt f (wds.take a ++ wds.drop (a + 1)))).map (shf a) := by
      have e2 : ((fun k : Int => decide (k ≠ (a : Int))) ∘ fun k : Nat => (k : Int)) = fun k : Nat => decide (k ≠ a) := by
        funext k
        show decide (((k : Nat) : Int) ≠ (a : Int)) = decide (k ≠ a)
        rw [Bool.eq_iff_iff, decide_eq_true_eq, decide_eq_true_eq]
        omega
      rw [e2, List.filter_filter]
      have e3 : (fun k => (decide (k ≠ a) && brkAt f wds k)) = fun k => (brkAt f wds k && decide (k ≠ a)) := by
        funext k
        exact Bool.and_comm _ _
      rw [e3, ← List.filter_filter, range_but a _ h, List.filter_map]
      congr 1
      refine List.filter_congr fun k _ => ?_
      exact (brk_less f wds a k h).symm
    rw [e1, List.map_map]
    refine List.map_congr_left fun k _ => ?_
    show ((k : Nat) : Int) + (if decide ((a : Int) ≤ (k : Int)) = true then 1 else 0) = ((shf a k : Nat) : Int)
    unfold shf
    by_cases c : k < a
    · rw [if_pos c, decide_eq_false (by omega : ¬ (a : Int) ≤ (k : Int)), if_neg (by decide)]
      omega
    · rw [if_neg c, decide_eq_true (by omega : (a : Int) ≤ (k : Int)), if_pos rfl]
      omega
  · subst h
    simp [broL]
end Rd

set_option Elab.async false
set_option linter.all false
set_option maxRecDepth 100000
set_option maxHeartbeats 4000000
/-! riddles turned: places and hues called otherwise -/
namespace Rd
open PySem PySem.Spec PyProof.Rows L2 Dt
theorem nodup_perm {α : Type} [DecidableEq α] : ∀ {l m : List α}, l.Nodup → (∀ x ∈ l, x ∈ m) → m.length ≤ l.length → l.Perm m
  | [], m, _, _, h => by
    have : m = [] := List.length_eq_zero_iff.mp (Nat.le_zero.mp h)
    rw [this]
  | x :: r, m, nd, h, hl => by
    obtain ⟨n1, n2⟩ := List.nodup_cons.mp nd
    have hx := h x List.mem_cons_self
    have hp := List.length_pos_of_mem hx
    have e := List.perm_cons_erase hx
    rw [List.length_cons] at hl
    have ih := nodup_perm (m := m.erase x) n2 (fun y hy => (List.mem_erase_of_ne fun z => n1 (by rw [← z]; exact hy)).mpr (h y (List.mem_cons_of_mem _ hy))) (by rw [List.length_erase_of_mem hx]; omega)
    exact (ih.cons x).trans e.symm
theorem sorted_one : ∀ {l m : List Int}, l.Perm m → l.Pairwise (· ≤ ·) → m.Pairwise (· ≤ ·) → l = m
  | [], m, p, _, _ => p.nil_eq
  | a :: r, [], p, _, _ => absurd p.length_eq (by simp)
  | a :: r, b :: q, p, s1, s2 => by
    obtain ⟨a1, a2⟩ := List.pairwise_cons.mp s1
    obtain ⟨b1, b2⟩ := List.pairwise_cons.mp s2
    have h1 : a ≤ b := by
      rcases List.mem_cons.mp (p.mem_iff.mpr (List.mem_cons_self (a := b) (l := q))) with z | z
      · omega
      · exact a1 b z
    have h2 : b ≤ a := by
      rcases List.mem_cons.mp (p.mem_iff.mp (List.mem_cons_self (a := a) (l := r))) with z | z
      · omega
      · exact b1 a z
    have e : a = b := by omega
    subst e
    rw [sorted_one p.cons_inv a2 b2]
theorem map_range_getD {α β : Type} (g : α → β) (d : α) (l : List α) : ((List.range l.length).map fun k => g (l.getD k d)) = l.map g := by
  refine List.ext_getElem (by simp) fun k h1 h2 => ?_
  rw [List.getElem_map, List.getElem_map, List.getElem_range]
  rw [List.length_map] at h2
  rw [List.getD_eq_getElem?_getD, List.getElem?_eq_getElem h2]
  rfl
theorem atF_nat (l : List Int) {k : Nat} (h : k < l.length) : atF l (k : Int) = l[k] := by
  unfold atF
  rw [Int.toNat_natCast, List.getD_eq_getElem?_getD, List.getElem?_eq_getElem h]
  rfl
theorem atF_some {l : List Int} {k : Nat} {x : Int} (h : l[k]? = some x) : atF l (k : Int) = x := by
  unfold atF
  rw [Int.toNat_natCast, List.getD_eq_getElem?_getD, h]
  rfl
theorem map_atF (l : List Int) : ((List.range l.length).map fun k : Nat => atF l (k : Int)) = l := by
  have e := map_range_getD (fun x : Int => x) 0 l
  rw [List.map_id'] at e
  exact e
section
variable {m : Int} {ord : List Int}
theorem perm_len (h : ord.Perm (rngI m)) : ord.length = m.toNat := by rw [h.length_eq, rngI_len]
theorem perm_at (h : ord.Perm (rngI m)) {p : Int} (p0 : 0 ≤ p) (p1 : p < m) : 0 ≤ atF ord p ∧ atF ord p < m := by
  have hl := perm_len h
  obtain ⟨k, rfl⟩ : ∃ k : Nat, p = k := ⟨p.toNat, by omega⟩
  have hk : k < ord.length := by omega
  rw [atF_nat ord hk]
  exact rngI_mem (h.mem_iff.mp (List.getElem_mem hk))
theorem perm_inj (h : ord.Perm (rngI m)) {p q : Int} (p0 : 0 ≤ p) (p1 : p < m) (q0 : 0 ≤ q) (q1 : q < m) (e : atF ord p = atF ord q) : p = q := by
  have hl := perm_len h
  obtain ⟨k, rfl⟩ : ∃ k : Nat, p = k := ⟨p.toNat, by omega⟩
  obtain ⟨j, rfl⟩ : ∃ j : Nat, q = j := ⟨q.toNat, by omega⟩
  have hk : k < ord.length := by omega
  have hj : j < ord.length := by omega
  rw [atF_nat ord hk, atF_nat ord hj] at e
  have nd : ord.Nodup := h.nodup_iff.mpr (rngI_nodup m)
  have := (List.getElem_inj nd).mp e
  omega
theorem perm_all (h : ord.Perm (rngI m)) {q : Int} (q0 : 0 ≤ q) (q1 : q < m) : ∃ p : Int, 0 ≤ p ∧ p < m ∧ atF ord p = q := by
  obtain ⟨j, rfl⟩ : ∃ j : Nat, q = j := ⟨q.toNat, by omega⟩
  have hm := h.mem_iff.mpr (rngI_all q1)
  obtain ⟨k, hk, e⟩ := List.getElem_of_mem hm
  have hl := perm_len h
  exact ⟨(k : Int), by omega, by omega, by rw [atF_nat ord hk]; exact e⟩
end
structure TurnOk (many hues : Int) (ord : List Int) (hos : List (List Int)) : Prop where
  po : ord.Perm (rngI many)
  hl : (hos.length : Int) = many
  ph : ∀ o ∈ hos, o.Perm (rngI hues)
def tuH (hos : List (List Int)) (p h : Int) : Int := atF (hos.getD p.toNat []) h
section
variable {many hues : Int} {ord : List Int} {hos : List (List Int)}
theorem TurnOk.one (ok : TurnOk many hues ord hos) {p : Int} (p0 : 0 ≤ p) (p1 : p < many) : (hos.getD p.toNat []).Perm (rngI hues) := by
  have := ok.hl
  have hk : p.toNat < hos.length := by omega
  rw [List.getD_eq_getElem?_getD, List.getElem?_eq_getElem hk]
  exact ok.ph _ (List.getElem_mem hk)
theorem TurnOk.rng (ok : TurnOk many hues ord hos) {p h : Int} (p0 : 0 ≤ p) (p1 : p < many) (h0 : 0 ≤ h) (h1 : h < hues) : 0 ≤ tuH hos p h ∧ tuH hos p h < hues := perm_at (ok.one p0 p1) h0 h1
theorem TurnOk.inj (ok : TurnOk many hues ord hos) {p h g : Int} (p0 : 0 ≤ p) (p1 : p < many) (h0 : 0 ≤ h) (h1 : h < hues) (g0 : 0 ≤ g) (g1 : g < hues) (e : tuH hos p h = tuH hos p g) : h = g := perm_inj (ok.one p0 p1) h0 h1 g0 g1 e
/-- a filling turned -/
def IsTu (ord : List Int) (hos : List (List Int)) (f g : List Int) : Prop := g.length = f.length ∧ ∀ p : Int, 0 ≤ p → p < (f.length : Int) → atF g (atF ord p) = tuH hos p (atF f p)
theorem atF_good {f : List Int} (gf : GoodF many hues f) {p : Int} (p0 : 0 ≤ p) (p1 : p < many) : 0 ≤ atF f p ∧ atF f p < hues := by
  have := gf.len
  obtain ⟨k, rfl⟩ : ∃ k : Nat, p = k := ⟨p.toNat, by omega⟩
  have hk : k < f.length := by omega
  rw [atF_nat f hk]
  exact gf.hue _ (List.getElem_mem hk)
theorem IsTu.back (ok : TurnOk many hues ord hos) {f f' g : List Int} (gf : GoodF many hues f) (gf' : GoodF many hues f') (a : IsTu ord hos f g) (b : IsTu ord hos f' g) : f = f' := by
  have l1 := gf.len
  have l2 := gf'.len
  refine List.ext_getElem (by omega) fun k h1 h2 => ?_
  have e1 := a.2 (k : Int) (by omega) (by omega)
  have e2 := b.2 (k : Int) (by omega) (by omega)
  have r1 := atF_good gf (p := (k : Int)) (by omega) (by omega)
  have r2 := atF_good gf' (p := (k : Int)) (by omega) (by omega)
  have e := ok.inj (p := (k : Int)) (by omega) (by omega) r1.1 r1.2 r2.1 r2.2 (e1.symm.trans e2)
  rw [atF_nat f h1, atF_nat f' h2] at e
  exact e
theorem IsTu.good (ok : TurnOk many hues ord hos) {f g : List Int} (gf : GoodF many hues f) (a : IsTu ord hos f g) : GoodF many hues g := by
  have l1 := gf.len
  have l2 := a.1
  refine ⟨by omega, fun h hh => ?_⟩
  obtain ⟨k, hk, e⟩ := List.getElem_of_mem hh
  obtain ⟨p, p0, p1, ep⟩ := perm_all ok.po (q := (k : Int)) (by omega) (by omega)
  have z := a.2 p p0 (by omega)
  rw [ep, atF_nat g hk, e] at z
  have r := atF_good gf p0 p1
  rw [z]
  exact ok.rng p0 p1 r.1 r.2
def turnF (many : Int) (ord : List Int) (hos : List (List Int)) (f : List Int) : List Int := (List.range many.toNat).map fun q : Nat => tuH hos ((ord.idxOf (q : Int) : Nat) : Int) (atF f ((ord.idxOf (q : Int) : Nat) : Int))
theorem turnF_is (ok : TurnOk many hues ord hos) {f : List Int} (gf : GoodF many hues f) : IsTu ord hos f (turnF many ord hos f) := by
  have l1 := gf.len
  have nd : ord.Nodup := ok.po.nodup_iff.mpr (rngI_nodup many)
  have ol := perm_len ok.po
  refine ⟨by unfold turnF; rw [List.length_map, List.length_range]; omega, fun p p0 p1 => ?_⟩
  obtain ⟨k, rfl⟩ : ∃ k : Nat, p = k := ⟨p.toNat, by omega⟩
  have hk : k < ord.length := by omega
  obtain ⟨r0, r1⟩ := perm_at ok.po (p := (k : Int)) (by omega) (by omega)
  obtain ⟨q, eq⟩ : ∃ q : Nat, atF ord (k : Int) = q := ⟨(atF ord (k : Int)).toNat, by omega⟩
  rw [eq]
  have ei : ord.idxOf (q : Int) = k := by
    rw [← eq, atF_nat ord hk]
    exact nd.idxOf_getElem k hk
  refine atF_some ?_
  unfold turnF
  rw [List.getElem?_map, List.getElem?_range (by omega)]
  show some (tuH hos ((ord.idxOf (q : Int) : Nat) : Int) (atF f ((ord.idxOf (q : Int) : Nat) : Int))) = _
  rw [ei]
/-! ### a wish turned -/
def pairsU (ord ps : List Int) : List (Int × Int) := (List.range ps.length).map fun k => (atF ord (ps.getD k 0), (k : Int))
def newRow (hos : List (List Int)) (ps : List Int) (zs : List (Int × Int)) (row : List Int) : List Int := zs.map fun z => tuH hos (atF ps z.2) (atF row z.2)
structure TuW (many hues : Int) (ord : List Int) (hos : List (List Int)) (wd wd' : WD) : Prop where
  good : Good many hues wd'
  pl : wd'.1.Perm (wd.1.map (atF ord))
  br : ∀ f g, GoodF many hues f → IsTu ord hos f g → brk g wd' = brk f wd
theorem tuW_of (ok : TurnOk many hues ord hos) {wd : WD} (gw : Good many hues wd) (nw : Neat wd) {zs : List (Int × Int)} (pz : zs.Perm (pairsU ord wd.1)) {rows : List (List Int)} (pr : rows.Perm (wd.2.map (newRow hos wd.1 zs))) :
    TuW many hues ord hos wd (zs.map (·.1), rows) ∧ (zs.map (·.1)).Nodup ∧ rows.Nodup := by
  have zl : zs.length = wd.1.length := by rw [pz.length_eq, pairsU, List.length_map, List.length_range]
  have mz : ∀ z ∈ zs, ∃ k : Nat, k < wd.1.length ∧ z = (atF ord (atF wd.1 (k : Int)), (k : Int)) := fun z hz => by
    obtain ⟨k, hk, e⟩ := List.mem_map.mp (pz.mem_iff.mp hz)
    exact ⟨k, List.mem_range.mp hk, e.symm⟩
  have zm : ∀ k : Nat, k < wd.1.length → (atF ord (atF wd.1 (k : Int)), (k : Int)) ∈ zs := fun k hk => pz.mem_iff.mpr (List.mem_map.mpr ⟨k, List.mem_range.mpr hk, rfl⟩)
  have inP : ∀ k : Nat, k < wd.1.length → 0 ≤ atF wd.1 (k : Int) ∧ atF wd.1 (k : Int) < many := fun k hk => by
    rw [atF_nat _ hk]
    exact gw.pl _ (List.getElem_mem hk)
  have pf : (zs.map (·.1)).Perm (wd.1.map (atF ord)) := by
    have z := pz.map (·.1)
    rw [pairsU, List.map_map] at z
    rw [← map_range_getD (atF ord) 0 wd.1]
    exact z
  have inR : ∀ {r : List Int}, r.length = wd.1.length → (∀ h ∈ r, 0 ≤ h ∧ h < hues) → ∀ k : Nat, k < wd.1.length → 0 ≤ atF r (k : Int) ∧ atF r (k : Int) < hues := fun {r} hl hr k hk => by
    rw [atF_nat r (by omega)]
    exact hr _ (List.getElem_mem _)
  have inj : ∀ r r' : List Int, r.length = wd.1.length → (∀ h ∈ r, 0 ≤ h ∧ h < hues) → r'.length = wd.1.length → (∀ h ∈ r', 0 ≤ h ∧ h < hues) → newRow hos wd.1 zs r = newRow hos wd.1 zs r' → r = r' := fun r r' l1 h1 l2 h2 e => by
    refine List.ext_getElem (by omega) fun k k1 k2 => ?_
    have hk : k < wd.1.length := by omega
    have z := List.map_inj_left.mp e _ (zm k hk)
    have p := inP k hk
    have a := inR l1 h1 k hk
    have b := inR l2 h2 k hk
    have y := ok.inj p.1 p.2 a.1 a.2 b.1 b.2 z
    rw [atF_nat r k1, atF_nat r' k2] at y
    exact y
  have ndz : (zs.map (·.1)).Nodup := by
    refine pf.nodup_iff.mpr ?_
    refine List.pairwise_map.mpr (List.Pairwise.imp_of_mem (fun {a b} ha hb hab e => ?_) nw.nd)
    have pa := gw.pl a ha
    have pb := gw.pl b hb
    exact hab (perm_inj ok.po pa.1 pa.2 pb.1 pb.2 e)
  have ndr : rows.Nodup := by
    refine pr.nodup_iff.mpr ?_
    refine List.pairwise_map.mpr (List.Pairwise.imp_of_mem (fun {a b} ha hb hab e => ?_) nw.rows)
    have ra := gw.row a ha
    have rb := gw.row b hb
    exact hab (inj a b ra.1 ra.2 rb.1 rb.2 e)
  refine ⟨⟨⟨?_, ?_, ?_, ?_, ?_, ?_⟩, pf, ?_⟩, ndz, ndr⟩
  · show 1 ≤ (zs.map (·.1)).length
    rw [List.length_map, zl]
    exact gw.one
  · show (zs.map (·.1)).length ≤ 3
    rw [List.length_map, zl]
    exact gw.three
  · intro p hp
    obtain ⟨q, hq, rfl⟩ := List.mem_map.mp (pf.mem_iff.mp hp)
    have := gw.pl q hq
    exact perm_at ok.po this.1 this.2
  · show 1 ≤ rows.length
    rw [pr.length_eq, List.length_map]
    exact gw.some_
  · show rows.length ≤ 64
    rw [pr.length_eq, List.length_map]
    exact gw.few
  · intro r hr
    obtain ⟨q, hq, rfl⟩ := List.mem_map.mp (pr.mem_iff.mp hr)
    have rq := gw.row q hq
    refine ⟨?_, fun h hh => ?_⟩
    · show (zs.map _).length = (zs.map (·.1)).length
      rw [List.length_map, List.length_map]
    · obtain ⟨z, hz, rfl⟩ := List.mem_map.mp hh
      obtain ⟨k, hk, rfl⟩ := mz z hz
      have p := inP k hk
      have a := inR rq.1 rq.2 k hk
      exact ok.rng p.1 p.2 a.1 a.2
  · intro f g gf tu
    have lf := gf.len
    have hu : huesA g (zs.map (·.1)) = newRow hos wd.1 zs (huesA f wd.1) := by
      unfold huesA newRow
      rw [List.map_map]
      refine List.map_congr_left fun z hz => ?_
      obtain ⟨k, hk, rfl⟩ := mz z hz
      have p := inP k hk
      show atF g (atF ord (atF wd.1 (k : Int))) = tuH hos (atF wd.1 (k : Int)) (atF (wd.1.map (atF f)) (k : Int))
      rw [tu.2 _ p.1 (by omega), atF_nat (wd.1.map (atF f)) (by rw [List.length_map]; exact hk), List.getElem_map, atF_nat wd.1 hk]
    have lh : (huesA f wd.1).length = wd.1.length := by unfold huesA; rw [List.length_map]
    have rh : ∀ h ∈ huesA f wd.1, 0 ≤ h ∧ h < hues := fun h hh => by
      obtain ⟨p, hp, rfl⟩ := List.mem_map.mp hh
      have := gw.pl p hp
      exact atF_good gf this.1 this.2
    unfold brk
    rw [Bool.eq_iff_iff, decide_eq_true_eq, decide_eq_true_eq]
    show huesA g (zs.map (·.1)) ∈ rows ↔ huesA f wd.1 ∈ wd.2
    rw [hu]
    constructor
    · intro h
      obtain ⟨r, hr, e⟩ := List.mem_map.mp (pr.mem_iff.mp h)
      have rr := gw.row r hr
      rw [← inj r _ rr.1 rr.2 lh rh e]
      exact hr
    · intro h
      exact pr.mem_iff.mpr (List.mem_map.mpr ⟨_, h, rfl⟩)
/-! ### riddles turned -/
def wAt (wds : List WD) (k : Int) : WD := wds.getD k.toNat ([], [])
theorem wAt_perm {wds : List WD} {pl : List Int} (pp : pl.Perm (rngI (wds.length : Int))) : (pl.map (wAt wds)).Perm wds := by
  have z := pp.map (wAt wds)
  have e : (rngI (wds.length : Int)).map (wAt wds) = wds := by
    unfold rngI
    rw [Int.toNat_natCast, List.map_map]
    have y := map_range_getD (fun x : WD => x) ([], []) wds
    rw [List.map_id'] at y
    conv => rhs; rw [← y]
    rfl
  rw [e] at z
  exact z
theorem cntW_turn {f g : List Int} (gf : GoodF many hues f) (tu : IsTu ord hos f g) : ∀ {as bs : List WD}, Paired (TuW many hues ord hos) as bs → bs.countP (brk g) = as.countP (brk f)
  | _, _, .nil => rfl
  | _, _, .cons h t => by
    rw [List.countP_cons, List.countP_cons, cntW_turn gf tu t, h.br f g gf tu]
theorem fill_allT {hues : Nat} : ∀ (n : Nat) (f : List Int), f.length = n → (∀ h ∈ f, 0 ≤ h ∧ h < (hues : Int)) → f ∈ fillL hues n
  | 0, f, hl, _ => by
    rw [List.length_eq_zero_iff.mp hl]
    exact List.mem_singleton.mpr rfl
  | n + 1, f, hl, h => by
    have ne : f ≠ [] := fun z => by rw [z] at hl; cases hl
    have e := List.dropLast_concat_getLast ne
    refine List.mem_flatMap.mpr ⟨f.dropLast, fill_allT n _ (by rw [List.length_dropLast]; omega) fun z hz => h z (by have y : z ∈ f.dropLast ++ [f.getLast ne] := List.mem_append_left _ hz; rw [e] at y; exact y), ?_⟩
    have hb := h _ (List.getLast_mem ne)
    refine List.mem_map.mpr ⟨(f.getLast ne).toNat, List.mem_range.mpr (by omega), ?_⟩
    have e2 : (((f.getLast ne).toNat : Nat) : Int) = f.getLast ne := by omega
    rw [e2]
    exact e
theorem fills_turn (ok : TurnOk many hues ord hos) (m0 : 0 ≤ many) (h0 : 0 ≤ hues) : ((fillL hues.toNat many.toNat).map (turnF many ord hos)).Perm (fillL hues.toNat many.toNat) := by
  have gd : ∀ f ∈ fillL hues.toNat many.toNat, GoodF many hues f := fun f hf => by
    obtain ⟨z1, z2⟩ := fill_good hf
    exact ⟨by omega, fun h hh => by have := z2 h hh; omega⟩
  refine nodup_perm ?_ (fun g hg => ?_) (by rw [List.length_map]; exact Nat.le_refl _)
  · refine List.pairwise_map.mpr (List.Pairwise.imp_of_mem (fun {a b} ha hb hab e => ?_) (fill_nodup _ _))
    have ta := turnF_is ok (gd a ha)
    have tb := turnF_is ok (gd b hb)
    rw [← e] at tb
    exact hab (IsTu.back ok (gd a ha) (gd b hb) ta tb)
  · obtain ⟨f, hf, rfl⟩ := List.mem_map.mp hg
    have gg := IsTu.good ok (gd f hf) (turnF_is ok (gd f hf))
    have gl := gg.len
    exact fill_allT _ _ (by omega) fun h hh => by have := gg.hue h hh; omega
theorem cnt_turn (ok : TurnOk many hues ord hos) (m0 : 0 ≤ many) (h0 : 0 ≤ hues) {wds wds' : List WD} {pl : List Int} (pp : pl.Perm (rngI (wds.length : Int))) (pw : Paired (TuW many hues ord hos) (pl.map (wAt wds)) wds') :
    cntL wds' (fillL hues.toNat many.toNat) = cntL wds (fillL hues.toNat many.toNat) := by
  have gd : ∀ f ∈ fillL hues.toNat many.toNat, GoodF many hues f := fun f hf => by
    obtain ⟨z1, z2⟩ := fill_good hf
    exact ⟨by omega, fun h hh => by have := z2 h hh; omega⟩
  have wl : wds'.length = wds.length := by
    rw [← pairedLen pw, List.length_map, perm_len pp, Int.toNat_natCast]
  rw [cnt_form, cnt_form, wl]
  refine List.map_congr_left fun k _ => ?_
  unfold cntF
  congr 1
  rw [← (fills_turn ok m0 h0).countP_eq, List.countP_map]
  refine List.countP_congr fun f hf => ?_
  show decide (wds'.countP (brk (turnF many ord hos f)) = k) = true ↔ _
  rw [cntW_turn (gd f hf) (turnF_is ok (gd f hf)) pw, (wAt_perm pp).countP_eq]
/-- the numbers of some, by the other order, are those by the first -/
theorem pick_perm {n : Nat} {pl : List Int} (pp : pl.Perm (rngI (n : Int))) {q' q : Nat → Bool} (h : ∀ k : Nat, k < n → q' k = q (atF pl (k : Int)).toNat) :
    ((((List.range n).filter q').map fun (k : Nat) => (k : Int)).map (atF pl)).Perm (((List.range n).filter q).map fun (k : Nat) => (k : Int)) := by
  have ln : pl.length = n := by rw [perm_len pp, Int.toNat_natCast]
  have e1 : (((List.range n).filter q').map fun (k : Nat) => (k : Int)).map (atF pl) = pl.filter fun i => q i.toNat := by
    have e := map_atF pl
    rw [ln] at e
    conv => rhs; rw [← e]
    rw [List.filter_map, List.map_map]
    congr 1
    exact List.filter_congr fun k hk => h k (List.mem_range.mp hk)
  have e2 : ((List.range n).filter q).map (fun (k : Nat) => (k : Int)) = (rngI (n : Int)).filter fun i => q i.toNat := by
    unfold rngI
    rw [Int.toNat_natCast, List.filter_map]
    congr 1
  rw [e1, e2]
  exact pp.filter _
theorem pick_sorted (n : Nat) (q : Nat → Bool) : (((List.range n).filter q).map fun (k : Nat) => (k : Int)).Pairwise (· ≤ ·) := by
  refine List.pairwise_map.mpr ?_
  have z : (List.range n).Pairwise (· < ·) := List.pairwise_lt_range
  exact (z.sublist List.filter_sublist).imp fun h => by omega
theorem clB_turn (ok : TurnOk many hues ord hos) {a b a' b' : WD} (ga : ∀ p ∈ a.1, 0 ≤ p ∧ p < many) (gb : ∀ p ∈ b.1, 0 ≤ p ∧ p < many) (ta : TuW many hues ord hos a a') (tb : TuW many hues ord hos b b') : clB a' b' = clB a b := by
  unfold clB
  rw [Bool.eq_iff_iff, List.any_eq_true, List.any_eq_true]
  constructor
  · rintro ⟨p, hp, e⟩
    have e := of_decide_eq_true e
    obtain ⟨x, hx, rfl⟩ := List.mem_map.mp (ta.pl.mem_iff.mp hp)
    obtain ⟨y, hy, exy⟩ := List.mem_map.mp (tb.pl.mem_iff.mp e)
    have px := ga x hx
    have py := gb y hy
    have := perm_inj ok.po py.1 py.2 px.1 px.2 exy
    subst this
    exact ⟨y, hx, decide_eq_true hy⟩
  · rintro ⟨p, hp, e⟩
    have e := of_decide_eq_true e
    exact ⟨_, ta.pl.mem_iff.mpr (List.mem_map.mpr ⟨p, hp, rfl⟩), decide_eq_true (tb.pl.mem_iff.mpr (List.mem_map.mpr ⟨p, e, rfl⟩))⟩
end
/-! ### sorted by codes -/
theorem code_lex {B : Int} : ∀ {a b : List Int}, a.length = b.length → TS.Bd B a → TS.Bd B b → TS.code B a ≤ TS.code B b → a ≠ b → HT.lexLt a b = true
  | [], [], _, _, _, _, h => absurd rfl h
  | [], _ :: _, h, _, _, _, _ => by cases h
  | _ :: _, [], h, _, _, _, _ => by cases h
  | x :: r, y :: q, hl, ba, bb, hc, hn => by
    have hl' : r.length = q.length := by simpa using hl
    rw [HT.lexLt_cons]
    by_cases e : x = y
    · subst e
      rw [if_pos rfl]
      refine code_lex hl' ba.tail bb.tail ?_ fun z => hn (by rw [z])
      by_cases c : TS.code B q < TS.code B r
      · have := (TS.code_same (d := x) hl'.symm).mpr c
        omega
      · omega
    · rw [if_neg e]
      refine decide_eq_true ?_
      by_cases c : x < y
      · exact c
      · have := TS.code_lt (d := y) (e := x) hl'.symm bb.tail ba.tail (by omega)
        omega
end Rd

set_option Elab.async false
set_option linter.all false
set_option maxRecDepth 100000
set_option maxHeartbeats 4000000
/-! trees of wishes, grown backwards from lists of numbers -/
namespace Rd
open PySem PySem.Spec PyProof.Rows L2 Dt
inductive WTr where
  | node (n : Int) (ts : List WTr) : WTr
def WTr.top : WTr → Int
  | .node n _ => n
mutual
def nodesD : WTr → Int → List (Int × Int)
  | .node n ts, d => (n, d) :: nodesL ts (d + 1)
def nodesL : List WTr → Int → List (Int × Int)
  | [], _ => []
  | t :: r, d => nodesD t d ++ nodesL r d
end
mutual
def okT (c : Int → Int → Bool) (m : Nat) : WTr → Prop
  | .node n ts => (0 ≤ n ∧ n < (m : Int)) ∧ okL c m n ts
def okL (c : Int → Int → Bool) (m : Nat) (n : Int) : List WTr → Prop
  | [] => True
  | t :: r => (c t.top n = true ∧ okT c m t) ∧ okL c m n r
end
theorem nodesL_flat (d : Int) : ∀ ts : List WTr, nodesL ts d = ts.flatMap fun t => nodesD t d
  | [] => by simp [nodesL]
  | t :: r => by
    rw [nodesL, nodesL_flat d r, List.flatMap_cons]
theorem okL_of {c : Int → Int → Bool} {m : Nat} {n : Int} : ∀ {ts : List WTr}, (∀ t ∈ ts, c t.top n = true ∧ okT c m t) → okL c m n ts
  | [], _ => by simp [okL]
  | t :: r, h => by
    rw [okL]
    exact ⟨h t List.mem_cons_self, okL_of fun x hx => h x (List.mem_cons_of_mem _ hx)⟩
theorem okL_mem {c : Int → Int → Bool} {m : Nat} {n : Int} : ∀ {ts : List WTr}, okL c m n ts → ∀ t ∈ ts, c t.top n = true ∧ okT c m t
  | [], _, _, h => nomatch h
  | t :: r, h, x, hx => by
    rw [okL] at h
    rcases List.mem_cons.mp hx with rfl | hx
    · exact h.1
    · exact okL_mem h.2 x hx
/-! ### grown -/
def treeF (nums : List Int) (bel : List (List Int)) : Nat → Nat → WTr
  | 0, i => .node (atF nums (i : Int)) []
  | f + 1, i => .node (atF nums (i : Int)) ((bel.getD i []).map fun j => treeF nums bel f j.toNat)
def Grows (n : Nat) (bel : List (List Int)) : Prop := bel.length = n ∧ ∀ i : Nat, i < n → ∀ j ∈ bel.getD i [], (i : Int) < j ∧ j < (n : Int)
theorem treeF_stable {nums : List Int} {bel : List (List Int)} {n : Nat} (g : Grows n bel) : ∀ (f f' i : Nat), i < n → n - i ≤ f → n - i ≤ f' → treeF nums bel f i = treeF nums bel f' i
  | 0, _, i, hi, h, _ => by omega
  | _ + 1, 0, i, hi, _, h => by omega
  | f + 1, f' + 1, i, hi, h1, h2 => by
    rw [treeF, treeF]
    congr 1
    refine List.map_congr_left fun j hj => ?_
    have := g.2 i hi j hj
    exact treeF_stable g f f' j.toNat (by omega) (by omega) (by omega)
def treeI (nums : List Int) (bel : List (List Int)) (i : Nat) : WTr := treeF nums bel (nums.length - i) i
theorem treeI_eq {nums : List Int} {bel : List (List Int)} (g : Grows nums.length bel) {i : Nat} (hi : i < nums.length) : treeI nums bel i = .node (atF nums (i : Int)) ((bel.getD i []).map fun j => treeI nums bel j.toNat) := by
  unfold treeI
  obtain ⟨f, ef⟩ : ∃ f, nums.length - i = f + 1 := ⟨nums.length - i - 1, by omega⟩
  rw [ef, treeF]
  congr 1
  refine List.map_congr_left fun j hj => ?_
  have := g.2 i hi j hj
  exact treeF_stable g _ _ _ (by omega) (by omega) (by omega)
/-- who stands right below: pr tells 1 more than the number of the one above, 0 of the top -/
def kids (prs : List Nat) (i : Nat) : List Int := ((List.range prs.length).filter fun j => decide (prs.getD j 0 = i + 1)).map fun (j : Nat) => (j : Int)
def belOf (prs : List Nat) : List (List Int) := (List.range prs.length).map (kids prs)
structure PrOk (prs : List Nat) : Prop where
  top : prs.getD 0 0 = 0
  one : 1 ≤ prs.length
  up : ∀ j : Nat, 1 ≤ j → j < prs.length → 1 ≤ prs.getD j 0 ∧ prs.getD j 0 ≤ j
theorem belOf_at {prs : List Nat} {i : Nat} (h : i < prs.length) : (belOf prs).getD i [] = kids prs i := by
  unfold belOf
  rw [List.getD_eq_getElem?_getD, List.getElem?_map, List.getElem?_range h]
  rfl
theorem PrOk.le {prs : List Nat} (ok : PrOk prs) {j : Nat} (h : j < prs.length) : prs.getD j 0 ≤ j := by
  by_cases e : j = 0
  · subst e
    rw [ok.top]
    exact Nat.le_refl _
  · exact (ok.up j (by omega) h).2
theorem PrOk.grows {prs : List Nat} (ok : PrOk prs) : Grows prs.length (belOf prs) := by
  refine ⟨by unfold belOf; rw [List.length_map, List.length_range], fun i hi j hj => ?_⟩
  rw [belOf_at hi] at hj
  obtain ⟨k, hk, rfl⟩ := List.mem_map.mp hj
  obtain ⟨h1, h2⟩ := List.mem_filter.mp hk
  have h1 := List.mem_range.mp h1
  have h2 := of_decide_eq_true h2
  have := ok.le h1
  omega
theorem filter_two {α : Type} {p q r : α → Bool} : ∀ l : List α, (∀ x ∈ l, r x = (p x || q x) ∧ (p x && q x) = false) → (l.filter r).Perm (l.filter p ++ l.filter q)
  | [], _ => by simp
  | x :: l, h => by
    have ih := filter_two l fun y hy => h y (List.mem_cons_of_mem _ hy)
    obtain ⟨e1, e2⟩ := h x List.mem_cons_self
    rw [List.filter_cons, List.filter_cons, List.filter_cons, e1]
    cases hp : p x <;> cases hq : q x
    · rw [if_neg (by simp), if_neg (by simp), if_neg (by simp)]
      exact ih
    · rw [if_pos (by simp), if_neg (by simp), if_pos rfl]
      exact (ih.cons x).trans List.perm_middle.symm
    · rw [if_pos (by simp), if_pos rfl, if_neg (by simp)]
      exact ih.cons x
    · rw [hp, hq] at e2
      cases e2
section
variable {nums deps : List Int} {prs : List Nat}
theorem forest (ok : PrOk prs) (ln : nums.length = prs.length) (hd : ∀ j : Nat, 1 ≤ j → j < prs.length → atF deps (j : Int) = atF deps ((prs.getD j 0 - 1 : Nat) : Int) + 1) : ∀ (m i : Nat), i + m = prs.length →
    (((List.range' i m).filter fun j : Nat => decide (prs.getD j 0 ≤ i)).flatMap fun j : Nat => nodesD (treeI nums (belOf prs) j) (atF deps (j : Int))).Perm ((List.range' i m).map fun j : Nat => (atF nums (j : Int), atF deps (j : Int)))
  | 0, i, _ => by simp
  | m + 1, i, h => by
    have ih := forest ok ln hd m (i + 1) (by omega)
    have hi : i < prs.length := by omega
    have g := ok.grows
    rw [← ln] at g
    rw [List.range'_succ, List.filter_cons, if_pos (decide_eq_true (ok.le hi)), List.flatMap_cons, List.map_cons]
    rw [treeI_eq g (by omega), nodesD, nodesL_flat, belOf_at hi, List.cons_append, List.flatMap_map]
    refine List.Perm.cons _ ?_
    refine List.Perm.trans ?_ ih
    -- the ones right below
    have ek : (kids prs i).flatMap (fun j => nodesD (treeI nums (belOf prs) j.toNat) (atF deps (i : Int) + 1)) = ((List.range' (i + 1) m).filter fun j : Nat => decide (prs.getD j 0 = i + 1)).flatMap fun j : Nat => nodesD (treeI nums (belOf prs) j) (atF deps (j : Int)) := by
      unfold kids
      have er : List.range prs.length = List.range' 0 (i + 1) ++ List.range' (i + 1) m := by
        rw [List.range_eq_range', ← h, show i + (m + 1) = (i + 1) + m by omega, ← List.range'_append_1, Nat.zero_add]
      have e0 : (List.range' 0 (i + 1)).filter (fun j => decide (prs.getD j 0 = i + 1)) = [] := List.filter_eq_nil_iff.mpr fun j hj => by
        have hj := (List.mem_range'_1.mp hj).2
        have := ok.le (j := j) (by omega)
        show ¬ decide (prs.getD j 0 = i + 1) = true
        rw [decide_eq_true_eq]
        omega
      rw [er, List.filter_append, e0, List.nil_append, List.flatMap_map]
      rw [List.flatMap_def, List.flatMap_def]
      congr 1
      refine List.map_congr_left fun j hj => ?_
      obtain ⟨h1, h2⟩ := List.mem_filter.mp hj
      have h1 := List.mem_range'_1.mp h1
      have h2 := of_decide_eq_true h2
      have e := hd j (by omega) (by omega)
      rw [h2, Nat.add_sub_cancel] at e
      show nodesD (treeI nums (belOf prs) ((j : Int)).toNat) (atF deps (i : Int) + 1) = _
      rw [Int.toNat_natCast, e]
    rw [ek, ← List.flatMap_append]
    refine List.Perm.flatMap_right _ ?_
    refine (filter_two _ fun j hj => ?_).symm
    constructor
    · rw [Bool.eq_iff_iff, Bool.or_eq_true, decide_eq_true_eq, decide_eq_true_eq, decide_eq_true_eq]
      omega
    · rw [Bool.and_eq_false_iff, decide_eq_false_iff_not, decide_eq_false_iff_not]
      omega
theorem tree_nodes (ok : PrOk prs) (ln : nums.length = prs.length) (hd : ∀ j : Nat, 1 ≤ j → j < prs.length → atF deps (j : Int) = atF deps ((prs.getD j 0 - 1 : Nat) : Int) + 1) :
    (nodesD (treeI nums (belOf prs) 0) (atF deps 0)).Perm ((List.range prs.length).map fun j : Nat => (atF nums (j : Int), atF deps (j : Int))) := by
  have f := forest ok ln hd prs.length 0 (Nat.zero_add _)
  obtain ⟨k, ek⟩ : ∃ k, prs.length = k + 1 := ⟨prs.length - 1, by have := ok.one; omega⟩
  have e : (List.range' 0 prs.length).filter (fun j => decide (prs.getD j 0 ≤ 0)) = [0] := by
    rw [ek, List.range'_succ, List.filter_cons, if_pos (decide_eq_true (by rw [ok.top]; exact Nat.le_refl _))]
    congr 1
    refine List.filter_eq_nil_iff.mpr fun j hj => ?_
    have h1 := List.mem_range'_1.mp hj
    have := (ok.up j (by omega) (by omega)).1
    show ¬ decide (prs.getD j 0 ≤ 0) = true
    rw [decide_eq_true_eq]
    omega
  rw [e, ← List.range_eq_range'] at f
  simpa using f
theorem tree_all {c : Int → Int → Bool} {w : Nat} (ok : PrOk prs) (ln : nums.length = prs.length) (hn : ∀ j : Nat, j < prs.length → 0 ≤ atF nums (j : Int) ∧ atF nums (j : Int) < (w : Int)) (hc : ∀ j : Nat, 1 ≤ j → j < prs.length → c (atF nums (j : Int)) (atF nums ((prs.getD j 0 - 1 : Nat) : Int)) = true) : ∀ (m i : Nat), i + m = prs.length → ∀ k, i ≤ k → k < prs.length → okT c w (treeI nums (belOf prs) k)
  | 0, i, h, k, h1, h2 => by omega
  | m + 1, i, h, k, h1, h2 => by
    by_cases e : i = k
    · subst e
      have g := ok.grows
      rw [← ln] at g
      rw [treeI_eq g (by omega), okT]
      refine ⟨hn i h2, okL_of fun t ht => ?_⟩
      obtain ⟨j, hj, rfl⟩ := List.mem_map.mp ht
      have b := g.2 i (by omega) j hj
      rw [belOf_at h2] at hj
      obtain ⟨k, hk, rfl⟩ := List.mem_map.mp hj
      obtain ⟨k1, k2⟩ := List.mem_filter.mp hk
      have k1 := List.mem_range.mp k1
      have k2 := of_decide_eq_true k2
      rw [Int.toNat_natCast]
      have e := hc k (by omega) k1
      rw [k2, Nat.add_sub_cancel] at e
      refine ⟨?_, tree_all ok ln hn hc m (i + 1) (by omega) k (by omega) k1⟩
      rw [treeI_eq g (by omega)]
      exact e
    · exact tree_all ok ln hn hc m (i + 1) (by omega) k (by omega) h2
end
end Rd

set_option Elab.async false
set_option linter.all false
set_option maxRecDepth 100000
set_option maxHeartbeats 4000000
/-! why a mending came: wishes and how deep they stand -/
namespace Rd
open PySem PySem.Spec PyProof.Rows L2 Dt
def clN (wds : List WD) (n o : Int) : Bool := clB (wAt wds n) (wAt wds o)
def mxI : List Int → Int
  | [] => -1
  | x :: r => if mxI r < x then x else mxI r
theorem mxI_le : ∀ {l : List Int} {x : Int}, x ∈ l → x ≤ mxI l
  | y :: r, x, h => by
    rw [mxI]
    rcases List.mem_cons.mp h with rfl | h
    · split <;> omega
    · have := mxI_le h
      split <;> omega
theorem mxI_up {m : Int} (m0 : -1 ≤ m) : ∀ {l : List Int}, (∀ x ∈ l, x ≤ m) → mxI l ≤ m
  | [], _ => by rw [mxI]; exact m0
  | y :: r, h => by
    have a := mxI_up m0 (l := r) fun x hx => h x (List.mem_cons_of_mem _ hx)
    have b := h y List.mem_cons_self
    rw [mxI]
    split <;> omega
theorem mxI_eq {l : List Int} {m : Int} (m0 : -1 ≤ m) (hm : m ∈ l) (h : ∀ x ∈ l, x ≤ m) : mxI l = m := by
  have a := mxI_le hm
  have b := mxI_up m0 h
  omega
theorem mxI_in : ∀ {l : List Int}, (∀ x ∈ l, 0 ≤ x) → l ≠ [] → mxI l ∈ l
  | [], _, h => absurd rfl h
  | [x], h0, _ => by
    have := h0 x List.mem_cons_self
    rw [mxI, mxI, if_pos (by omega)]
    exact List.mem_cons_self
  | x :: y :: r, h0, _ => by
    have ih := mxI_in (l := y :: r) (fun z hz => h0 z (List.mem_cons_of_mem _ hz)) (by simp)
    rw [mxI]
    split
    · exact List.mem_cons_self
    · exact List.mem_cons_of_mem _ ih
def abv (wds : List WD) (zs : List (Int × Int)) (n : Int) : List Int := (zs.filter fun z => clN wds n z.1).map (·.2)
def dstep (wds : List WD) (zs : List (Int × Int)) (n : Int) : List (Int × Int) := if 0 < 1 + mxI (abv wds zs n) then zs ++ [(n, 1 + mxI (abv wds zs n))] else zs
def depthsL (wds : List WD) (k : Int) (ks : List Int) : List (Int × Int) := ks.foldl (dstep wds) [(k, 0)]
structure WI (wds : List WD) (zs : List (Int × Int)) (prs : List Nat) : Prop where
  ok : PrOk prs
  len : zs.length = prs.length
  d0 : (zs.getD 0 (0, 0)).2 = 0
  pos : ∀ z ∈ zs, 0 ≤ z.2 ∧ 0 ≤ z.1 ∧ z.1 < (wds.length : Int)
  up : ∀ j : Nat, 1 ≤ j → j < prs.length → (zs.getD j (0, 0)).2 = (zs.getD (prs.getD j 0 - 1) (0, 0)).2 + 1 ∧ clN wds (zs.getD j (0, 0)).1 (zs.getD (prs.getD j 0 - 1) (0, 0)).1 = true
theorem WI.start {wds : List WD} {k : Int} (k0 : 0 ≤ k) (k1 : k < (wds.length : Int)) : WI wds [(k, 0)] [0] := by
  refine ⟨⟨rfl, by simp, fun j h1 h2 => ?_⟩, rfl, rfl, fun z hz => ?_, fun j h1 h2 => ?_⟩
  · simp at h2
    omega
  · rw [List.mem_singleton.mp hz]
    exact ⟨Int.le_refl _, k0, k1⟩
  · simp at h2
    omega
theorem getD_old {α : Type} {l m : List α} {d : α} {j : Nat} (h : j < l.length) : (l ++ m).getD j d = l.getD j d := by
  rw [List.getD_eq_getElem?_getD, List.getD_eq_getElem?_getD, List.getElem?_append_left h]
theorem getD_new {α : Type} {l : List α} {x d : α} : (l ++ [x]).getD l.length d = x := by
  rw [List.getD_eq_getElem?_getD, List.getElem?_append_right (Nat.le_refl _), Nat.sub_self]
  rfl
theorem abv_mem {wds : List WD} {zs : List (Int × Int)} {n x : Int} (h : x ∈ abv wds zs n) : ∃ z ∈ zs, clN wds n z.1 = true ∧ z.2 = x := by
  obtain ⟨z, hz, e⟩ := List.mem_map.mp h
  obtain ⟨h1, h2⟩ := List.mem_filter.mp hz
  exact ⟨z, h1, h2, e⟩
theorem abv_of {wds : List WD} {zs : List (Int × Int)} {n : Int} {z : Int × Int} (h : z ∈ zs) (c : clN wds n z.1 = true) : z.2 ∈ abv wds zs n := List.mem_map.mpr ⟨z, List.mem_filter.mpr ⟨h, c⟩, rfl⟩
theorem dstep_no {wds : List WD} {zs : List (Int × Int)} {n : Int} (h : ∀ z ∈ zs, clN wds n z.1 = false) : dstep wds zs n = zs := by
  have e : abv wds zs n = [] := by
    unfold abv
    rw [List.filter_eq_nil_iff.mpr fun z hz => by rw [h z hz]; exact Bool.false_ne_true]
    rfl
  unfold dstep
  rw [e, if_neg (by rw [mxI]; decide)]
theorem dstep_yes {wds : List WD} {zs : List (Int × Int)} {n o d : Int} (d0 : 0 ≤ d) (m : (o, d) ∈ zs) (c : clN wds n o = true) (h : ∀ z ∈ zs, clN wds n z.1 = true → z.2 ≤ d) : dstep wds zs n = zs ++ [(n, d + 1)] := by
  have e : mxI (abv wds zs n) = d := mxI_eq (by omega) (abv_of m c) fun x hx => by
    obtain ⟨z, hz, cz, rfl⟩ := abv_mem hx
    exact h z hz cz
  unfold dstep
  rw [e, if_pos (by omega), Int.add_comm]
theorem WI.more {wds : List WD} {zs : List (Int × Int)} {prs : List Nat} (w : WI wds zs prs) {n o d : Int} {at_ : Nat} (n0 : 0 ≤ n) (n1 : n < (wds.length : Int)) (e : zs[at_]? = some (o, d)) (c : clN wds n o = true) : WI wds (zs ++ [(n, d + 1)]) (prs ++ [at_ + 1]) := by
  have ha : at_ < zs.length := (List.getElem?_eq_some_iff.mp e).1
  have ln := w.len
  have o1 := w.ok.one
  have ez : zs.getD at_ (0, 0) = (o, d) := by rw [List.getD_eq_getElem?_getD, e]; rfl
  have d0 := (w.pos _ (List.mem_of_getElem? e)).1
  refine ⟨⟨?_, by rw [List.length_append]; omega, fun j h1 h2 => ?_⟩, by rw [List.length_append, List.length_append, ln]; rfl, ?_, fun z hz => ?_, fun j h1 h2 => ?_⟩
  · rw [getD_old (by omega)]
    exact w.ok.top
  · rw [List.length_append] at h2
    by_cases z : j < prs.length
    · rw [getD_old z]
      exact w.ok.up j h1 z
    · have : j = prs.length := by simp at h2; omega
      subst this
      rw [getD_new]
      omega
  · rw [getD_old (by omega)]
    exact w.d0
  · rcases List.mem_append.mp hz with hz | hz
    · exact w.pos z hz
    · rw [List.mem_singleton.mp hz]
      exact ⟨by show 0 ≤ d + 1; have : 0 ≤ d := d0; omega, n0, n1⟩
  · rw [List.length_append] at h2
    by_cases z : j < prs.length
    · have u := w.up j h1 z
      have l := (w.ok.up j h1 z).2
      rw [getD_old z, getD_old (by omega), getD_old (by omega)]
      exact u
    · have : j = prs.length := by simp at h2; omega
      subst this
      rw [getD_new, Nat.add_sub_cancel, getD_old ha, ez, ← ln, getD_new]
      exact ⟨rfl, c⟩
theorem belOf_more {prs : List Nat} (ok : PrOk prs) {at_ : Nat} (ha : at_ < prs.length) : belOf (prs ++ [at_ + 1]) = (belOf prs).set at_ (kids prs at_ ++ [(prs.length : Int)]) ++ [[]] := by
  have k1 : ∀ i : Nat, kids (prs ++ [at_ + 1]) i = kids prs i ++ (if i = at_ then [(prs.length : Int)] else []) := fun i => by
    unfold kids
    rw [List.length_append, List.length_singleton, List.range_succ, List.filter_append, List.map_append]
    congr 1
    · congr 1
      refine List.filter_congr fun j hj => ?_
      rw [getD_old (List.mem_range.mp hj)]
    · rw [List.filter_cons, getD_new]
      by_cases e : i = at_
      · subst e
        rw [if_pos (decide_eq_true rfl), if_pos rfl]
        rfl
      · rw [if_neg (by rw [decide_eq_true_eq]; omega), if_neg e]
        rfl
  have k2 : kids prs prs.length = [] := by
    unfold kids
    rw [List.filter_eq_nil_iff.mpr fun j hj => by
      have hj := List.mem_range.mp hj
      have := ok.le hj
      rw [decide_eq_true_eq]
      omega]
    rfl
  unfold belOf
  rw [List.length_append, List.length_singleton, List.range_succ, List.map_append]
  congr 1
  · refine List.ext_getElem? fun i => ?_
    rw [List.getElem?_map, List.getElem?_set, List.getElem?_map, List.length_map, List.length_range]
    by_cases hi : i < prs.length
    · rw [List.getElem?_range hi]
      show some (kids (prs ++ [at_ + 1]) i) = _
      rw [k1 i]
      by_cases e : at_ = i
      · subst e
        rw [if_pos rfl, if_pos rfl, if_pos ha]
      · rw [if_neg e, if_neg (fun z => e z.symm), List.append_nil]
        rfl
    · rw [List.getElem?_eq_none (by rw [List.length_range]; omega)]
      by_cases e : at_ = i
      · omega
      · rw [if_neg e]
        rfl
  · rw [List.map_singleton, k1, k2, if_neg (by omega)]
    rfl
theorem zs_range (zs : List (Int × Int)) : ((List.range zs.length).map fun j : Nat => (atF (zs.map (·.1)) (j : Int), atF (zs.map (·.2)) (j : Int))) = zs := by
  refine List.ext_getElem (by simp) fun k h1 h2 => ?_
  rw [List.getElem_map, List.getElem_range, atF_nat _ (by rw [List.length_map]; exact h2), atF_nat _ (by rw [List.length_map]; exact h2), List.getElem_map, List.getElem_map]
theorem atF_fst {zs : List (Int × Int)} {j : Nat} (h : j < zs.length) : atF (zs.map (·.1)) (j : Int) = (zs.getD j (0, 0)).1 := by
  rw [atF_nat _ (by rw [List.length_map]; exact h), List.getElem_map, List.getD_eq_getElem?_getD, List.getElem?_eq_getElem h]
  rfl
theorem atF_snd {zs : List (Int × Int)} {j : Nat} (h : j < zs.length) : atF (zs.map (·.2)) (j : Int) = (zs.getD j (0, 0)).2 := by
  rw [atF_nat _ (by rw [List.length_map]; exact h), List.getElem_map, List.getD_eq_getElem?_getD, List.getElem?_eq_getElem h]
  rfl
/-- the tree of such a walk -/
theorem WI.tree {wds : List WD} {zs : List (Int × Int)} {prs : List Nat} (w : WI wds zs prs) :
    (nodesD (treeI (zs.map (·.1)) (belOf prs) 0) 0).Perm zs ∧ okT (clN wds) wds.length (treeI (zs.map (·.1)) (belOf prs) 0) ∧ (treeI (zs.map (·.1)) (belOf prs) 0).top = (zs.getD 0 (0, 0)).1 := by
  have ln := w.len
  have o1 := w.ok.one
  have lm : (zs.map (·.1)).length = prs.length := by rw [List.length_map, ln]
  refine ⟨?_, ?_, ?_⟩
  · have t := tree_nodes (deps := zs.map (·.2)) w.ok lm fun j h1 h2 => by
      have l := (w.ok.up j h1 h2).2
      rw [atF_snd (by omega), atF_snd (by omega)]
      exact (w.up j h1 h2).1
    have e0 : atF (zs.map (·.2)) 0 = 0 := (atF_snd (j := 0) (by omega)).trans w.d0
    rw [e0, ← ln, zs_range] at t
    exact t
  · refine tree_all w.ok lm (fun j hj => ?_) (fun j h1 h2 => ?_) prs.length 0 (Nat.zero_add _) 0 (Nat.le_refl _) (by omega)
    · rw [atF_fst (by omega)]
      have hj' : j < zs.length := by omega
      have e : zs.getD j (0, 0) = zs[j] := by rw [List.getD_eq_getElem?_getD, List.getElem?_eq_getElem hj']; rfl
      rw [e]
      exact (w.pos _ (List.getElem_mem hj')).2
    · have l := (w.ok.up j h1 h2).2
      rw [atF_fst (by omega), atF_fst (by omega)]
      exact (w.up j h1 h2).2
  · have g := w.ok.grows
    rw [← lm] at g
    rw [treeI_eq g (by omega)]
    exact atF_fst (j := 0) (by omega)
theorem depths_snoc (wds : List WD) (k : Int) (ks : List Int) (n : Int) : depthsL wds k (ks ++ [n]) = dstep wds (depthsL wds k ks) n := by
  unfold depthsL
  rw [List.foldl_append]
  rfl
theorem depths_len (wds : List WD) (k : Int) : ∀ ks : List Int, (depthsL wds k ks).length ≤ ks.length + 1 ∧ ∀ z ∈ depthsL wds k ks, 0 ≤ z.2 ∧ z.2 ≤ (ks.length : Int) ∧ (z.1 = k ∨ z.1 ∈ ks) := by
  intro ks
  generalize hn : ks.length = n
  induction n generalizing ks with
  | zero =>
    rw [List.length_eq_zero_iff.mp hn]
    refine ⟨Nat.le_refl _, fun z hz => ?_⟩
    have : z = (k, 0) := List.mem_singleton.mp hz
    rw [this]
    exact ⟨Int.le_refl _, Int.le_refl _, .inl rfl⟩
  | succ n ih =>
    have ne : ks ≠ [] := fun z => by rw [z] at hn; cases hn
    have e := List.dropLast_concat_getLast ne
    have ld : ks.dropLast.length = n := by rw [List.length_dropLast]; omega
    obtain ⟨h1, h2⟩ := ih ks.dropLast ld
    rw [← e, depths_snoc]
    unfold dstep
    have mx : mxI (abv wds (depthsL wds k ks.dropLast) (ks.getLast ne)) ≤ n := mxI_up (by omega) fun x hx => by
      obtain ⟨z, hz, _, rfl⟩ := abv_mem hx
      exact (h2 z hz).2.1
    split
    · rename_i c
      refine ⟨by rw [List.length_append]; show _ + 1 ≤ _; omega, fun z hz => ?_⟩
      rcases List.mem_append.mp hz with hz | hz
      · obtain ⟨a, b, c⟩ := h2 z hz
        exact ⟨a, by omega, c.imp_right fun y => List.mem_append_left _ y⟩
      · rw [List.mem_singleton.mp hz]
        exact ⟨by show 0 ≤ 1 + mxI _; omega, by show 1 + mxI _ ≤ _; omega, .inr (List.mem_append_right _ List.mem_cons_self)⟩
    · refine ⟨by omega, fun z hz => ?_⟩
      obtain ⟨a, b, c⟩ := h2 z hz
      exact ⟨a, by omega, c.imp_right fun y => List.mem_append_left _ y⟩
end Rd

set_option Elab.async false
set_option linter.all false
set_option maxRecDepth 100000
set_option maxHeartbeats 4000000
/-! trees on the heap; walks backwards -/
namespace Rd
open PySem PySem.Spec PyProof.Rows L2 Dt
mutual
inductive IsTr (H : Hp) : V → WTr → Prop
  | mk {a c : Addr} {n : Int} {vs : List V} {ts : List WTr} : H a = some (.tup [.int n, .ref c]) → H c = some (.tup vs) → IsTrs H vs ts → IsTr H (.ref a) (.node n ts)
inductive IsTrs (H : Hp) : List V → List WTr → Prop
  | nil : IsTrs H [] []
  | cons {v : V} {t : WTr} {vs : List V} {ts : List WTr} : IsTr H v t → IsTrs H vs ts → IsTrs H (v :: vs) (t :: ts)
end
mutual
theorem IsTr.mono {H H' : Hp} (s : Tups H H') : ∀ {v : V} {t : WTr}, IsTr H v t → IsTr H' v t
  | _, _, .mk h1 h2 h3 => .mk (s _ _ h1) (s _ _ h2) (IsTrs.mono s h3)
theorem IsTrs.mono {H H' : Hp} (s : Tups H H') : ∀ {vs : List V} {ts : List WTr}, IsTrs H vs ts → IsTrs H' vs ts
  | _, _, .nil => .nil
  | _, _, .cons h t => .cons (IsTr.mono s h) (IsTrs.mono s t)
end
theorem IsTrs.len {H : Hp} : ∀ {vs : List V} {ts : List WTr}, IsTrs H vs ts → vs.length = ts.length
  | _, _, .nil => rfl
  | _, _, .cons _ t => by rw [List.length_cons, List.length_cons, IsTrs.len t]
theorem IsTrs.get {H : Hp} : ∀ {vs : List V} {ts : List WTr}, IsTrs H vs ts → ∀ {i : Nat} {v : V}, vs[i]? = some v → ∃ t, ts[i]? = some t ∧ IsTr H v t
  | _, _, .nil, _, _, h => by simp at h
  | _, _, .cons (t := t) h _, 0, v, e => by
    cases Option.some.inj (show some _ = some v from e)
    exact ⟨t, rfl, h⟩
  | _, _, .cons _ r, i + 1, v, e => IsTrs.get r (i := i) e
theorem IsTrs.snoc {H : Hp} {v : V} {t : WTr} : ∀ {vs : List V} {ts : List WTr}, IsTrs H vs ts → IsTr H v t → IsTrs H (vs ++ [v]) (ts ++ [t])
  | _, _, .nil, h => .cons h .nil
  | _, _, .cons a b, h => .cons a (IsTrs.snoc b h)
/-- downwards over a range -/
theorem for_down {lo : Int} {n : Nat} {g : TG} {tb : TS} {D : Ends} {σ : L2.St} {H : Hp} (Pv : Nat → L2.St → Hp → Prop) (h0 : Pv 0 σ H)
    (hs : ∀ i σ H, i < n → Pv i σ H → g (.int (lo + (i : Nat) * (-1))) σ H fun σ2 H2 => tb { D with nx := Pv (i + 1), ct := Pv (i + 1), bk := D.nx } σ2 H2) (hd : ∀ σ H, Pv n σ H → D.nx σ H) :
    ∃ W : Nat → Nat → L2.St → Hp → Prop, (∃ m, W 0 m σ H) ∧ ∀ i m σ H, W i m σ H →
      ((Itc lo (-1) n).stop i H ∧ D.nx σ H) ∨ ((Itc lo (-1) n).go i H ∧ ∃ N : L2.St → Hp → Prop, (∀ σ' H', N σ' H' → ∃ m', m' < m ∧ W (i + 1) m' σ' H') ∧ ∀ x H', (Itc lo (-1) n).yld i H x H' → g x σ H' fun σ2 H2 => tb { D with nx := N, ct := N, bk := D.nx } σ2 H2) := by
  refine ⟨fun i m σ H => m = n - i ∧ i ≤ n ∧ Pv i σ H, ⟨n, by simp, Nat.zero_le _, h0⟩, ?_⟩
  rintro i m σ H ⟨rfl, hi, p⟩
  by_cases hlt : i < n
  · refine .inr ⟨hlt, Pv (i + 1), fun σ' H' p' => ⟨n - (i + 1), by omega, rfl, hlt, p'⟩, fun x H' y => ?_⟩
    obtain ⟨e, y⟩ := y
    subst e
    subst y
    exact hs i σ _ hlt p
  · have e : i = n := by omega
    subst e
    exact .inl ⟨Nat.le_refl _, hd σ H p⟩
/-- over a list from its end -/
theorem for_revL {K : PySem.W.Frag} {a : Addr} {xs : List V} {g : TG} {tb : TS} {D : Ends} {σ : L2.St} {H : Hp} (Pv : Nat → L2.St → Hp → Prop) (h0 : Pv 0 σ H) (hl : ∀ i σ H, i ≤ xs.length → Pv i σ H → SqL K H a xs)
    (hs : ∀ i x σ H, i < xs.length → xs[xs.length - 1 - i]? = some x → Pv i σ H → g x σ H fun σ2 H2 => tb { D with nx := Pv (i + 1), ct := Pv (i + 1), bk := D.nx } σ2 H2) (hd : ∀ σ H, Pv xs.length σ H → D.nx σ H) :
    ∃ W : Nat → Nat → L2.St → Hp → Prop, (∃ m, W 0 m σ H) ∧ ∀ i m σ H, W i m σ H →
      ((Itv K a xs.length).stop i H ∧ D.nx σ H) ∨ ((Itv K a xs.length).go i H ∧ ∃ N : L2.St → Hp → Prop, (∀ σ' H', N σ' H' → ∃ m', m' < m ∧ W (i + 1) m' σ' H') ∧ ∀ x H', (Itv K a xs.length).yld i H x H' → g x σ H' fun σ2 H2 => tb { D with nx := N, ct := N, bk := D.nx } σ2 H2) := by
  refine ⟨fun i m σ H => m = xs.length - i ∧ i ≤ xs.length ∧ Pv i σ H, ⟨xs.length, by simp, Nat.zero_le _, h0⟩, ?_⟩
  rintro i m σ H ⟨rfl, hi, p⟩
  have q := hl i σ H hi p
  by_cases hlt : i < xs.length
  · have hk : xs.length - 1 - i < xs.length := by omega
    refine .inr ⟨⟨hlt, xs, xs[xs.length - 1 - i], q, List.getElem?_eq_getElem hk⟩, Pv (i + 1), fun σ' H' p' => ⟨xs.length - (i + 1), by omega, rfl, hlt, p'⟩, fun x H' y => ?_⟩
    obtain ⟨e, y⟩ := y
    subst e
    exact hs i x σ _ hlt (y xs q) p
  · have e : i = xs.length := by omega
    subst e
    exact .inl ⟨Nat.le_refl _, hd σ H p⟩
end Rd
namespace Gx
open PySem PySem.Spec PyProof.Rows L2 GenW
theorem tup_list {K : PySem.W.Frag} {a : Addr} {xs : List V} {g : TG} {tt : TT} {te : TE} {vs : List Nat} {σ : L2.St} {Q : List V → Hp → Prop} {H2 : Hp} (hz : xs.length ≤ sizeLine) (Pv : Nat → List V → Hp → Prop) (h0 : Pv 0 [] H2) (hl : ∀ i ys H, i ≤ xs.length → Pv i ys H → SqL K H a xs) (hy : ∀ i ys H, Pv i ys H → ys.length ≤ i)
    (hs : ∀ i x ys H, xs[i]? = some x → Pv i ys H → g x (wipe σ vs) H fun σ2 H2 => wipe σ2 vs = wipe σ vs ∧ tt σ2 H2 fun b H3 => if b = true then te σ2 H3 fun y H4 => Pv (i + 1) (ys ++ [y]) H4 else Pv (i + 1) ys H3) (hd : ∀ ys H, Pv xs.length ys H → Q ys H) :
    ∃ W : Nat → Nat → List V → Hp → Prop, (∃ m, W 0 m [] H2) ∧ TurnsC (Itl K a) g tt te vs σ Q W := by
  refine ⟨fun i m ys H => m = xs.length - i ∧ i ≤ xs.length ∧ Pv i ys H, ⟨xs.length, by simp, Nat.zero_le _, h0⟩, ?_⟩
  rintro i m ys H ⟨rfl, hi, p⟩
  have q := hl i ys H hi p
  by_cases hlt : i < xs.length
  · refine .inr ⟨⟨xs, xs[i], q, by simp [hlt]⟩, Nat.lt_of_le_of_lt (hy i ys H p) (Nat.lt_of_lt_of_le hlt hz), Pv (i + 1), fun ys' H' p' => ⟨xs.length - (i + 1), by omega, rfl, hlt, p'⟩, fun x H' y => ?_⟩
    obtain ⟨e, y⟩ := y
    subst e
    exact hs i x ys _ (y xs q) p
  · have e : i = xs.length := by omega
    subst e
    exact .inl ⟨⟨xs, q, Nat.le_refl _⟩, hd ys H p⟩
end Gx

set_option Elab.async false
set_option linter.all false
set_option maxRecDepth 100000
set_option maxHeartbeats 4000000
/-! what is told is held as it stands; walks over a dict's items -/
namespace Rd
open PySem PySem.Spec PyProof.Rows L2 Dt
def tFrz (te : TE) : TE := fun σ H Q => te σ H fun v H1 => ∃ (d : Addr) (u : HO), v = .ref d ∧ H1 d = some u ∧ Mut (some u) ∧ ∀ od, Q v (upd H1 d (.frz od u))
theorem pe_frz {X : Cx} {e : Expr} {te : TE} (he : PE X e te) : PE X e (tFrz te) := by
  refine ⟨fun pins s σ H Q I h => ?_⟩
  refine thn (he.run pins s σ H _ I h) fun v s1 ⟨x, H1, I1, r1, d, u, ex, hd, mu, q⟩ => ?_
  obtain ⟨od, I2⟩ := I1.lock hd mu
  exact ⟨x, _, I2, r1, q od⟩
theorem for_items {d : Addr} {o : Obj} {kvs : List (Key × V)} {g : TG} {tb : TS} {D : Ends} {σ : L2.St} {H : Hp} (Pv : Nat → L2.St → Hp → Prop) (h0 : Pv 0 σ H) (hl : ∀ i σ H, i ≤ kvs.length → Pv i σ H → H d = some (.frz o (.dK kvs)))
    (hs : ∀ i k v σ H T, kvs[i]? = some (k, v) → Pv i σ H → H T = none → g (.ref T) σ (upd H T (.tup [kV k, v])) fun σ2 H2 => tb { D with nx := Pv (i + 1), ct := Pv (i + 1), bk := D.nx } σ2 H2) (hd : ∀ σ H, Pv kvs.length σ H → D.nx σ H) :
    ∃ W : Nat → Nat → L2.St → Hp → Prop, (∃ m, W 0 m σ H) ∧ ∀ i m σ H, W i m σ H →
      ((Iti d o kvs).stop i H ∧ D.nx σ H) ∨ ((Iti d o kvs).go i H ∧ ∃ N : L2.St → Hp → Prop, (∀ σ' H', N σ' H' → ∃ m', m' < m ∧ W (i + 1) m' σ' H') ∧ ∀ x H', (Iti d o kvs).yld i H x H' → g x σ H' fun σ2 H2 => tb { D with nx := N, ct := N, bk := D.nx } σ2 H2) := by
  refine ⟨fun i m σ H => m = kvs.length - i ∧ i ≤ kvs.length ∧ Pv i σ H, ⟨kvs.length, by simp, Nat.zero_le _, h0⟩, ?_⟩
  rintro i m σ H ⟨rfl, hi, p⟩
  have q := hl i σ H hi p
  by_cases hlt : i < kvs.length
  · refine .inr ⟨⟨q, hlt⟩, Pv (i + 1), fun σ' H' p' => ⟨kvs.length - (i + 1), by omega, rfl, hlt, p'⟩, fun x H' y => ?_⟩
    obtain ⟨T, k, v, e, rfl, nT, rfl⟩ := y
    exact hs i k v σ H T e p nT
  · have e : i = kvs.length := by omega
    subst e
    exact .inl ⟨⟨q, Nat.le_refl _⟩, hd σ H p⟩
end Rd

set_option Elab.async false
set_option linter.all false
set_option maxRecDepth 100000
set_option maxHeartbeats 4000000
/-! trees level by level; which trees pass -/
namespace Rd
open PySem PySem.Spec PyProof.Rows L2 Dt
def kidsT : WTr → List WTr
  | .node _ ts => ts
theorem nodesL_app (a b : List WTr) (d : Int) : nodesL (a ++ b) d = nodesL a d ++ nodesL b d := by
  rw [nodesL_flat, nodesL_flat, nodesL_flat, List.flatMap_append]
theorem nodesL_step (d : Int) : ∀ ts : List WTr, (nodesL ts d).Perm ((ts.map fun t => (t.top, d)) ++ nodesL (ts.flatMap kidsT) (d + 1))
  | [] => by simp [nodesL]
  | .node n ks :: r => by
    have ih := nodesL_step d r
    rw [nodesL, nodesD, List.map_cons, List.flatMap_cons, nodesL_app]
    show ((n, d) :: (nodesL ks (d + 1) ++ nodesL r d)).Perm ((n, d) :: ((r.map fun t => (t.top, d)) ++ (nodesL ks (d + 1) ++ nodesL (r.flatMap kidsT) (d + 1))))
    refine List.Perm.cons _ ?_
    refine (List.Perm.append_left _ ih).trans ?_
    rw [← List.append_assoc, ← List.append_assoc]
    exact List.Perm.append_right _ List.perm_append_comm
def lvF : Nat → List WTr → List (List Int)
  | 0, _ => []
  | _ + 1, [] => []
  | f + 1, t :: r => ((t :: r).map WTr.top) :: lvF f ((t :: r).flatMap kidsT)
def zipL : List (List Int) → Int → List (Int × Int)
  | [], _ => []
  | L :: r, d => (L.map fun n => (n, d)) ++ zipL r (d + 1)
theorem zipL_app : ∀ (a b : List (List Int)) (d : Int), zipL (a ++ b) d = zipL a d ++ zipL b (d + a.length)
  | [], b, d => by
    show zipL b d = [] ++ zipL b (d + ((0 : Nat) : Int))
    rw [List.nil_append]
    congr 1
    omega
  | L :: r, b, d => by
    rw [List.cons_append, zipL, zipL, zipL_app r b (d + 1), List.append_assoc, List.length_cons]
    congr 3
    omega
theorem nodesL_pos {ts : List WTr} (h : ts ≠ []) (d : Int) : 1 ≤ (nodesL ts d).length := by
  cases ts with
  | nil => exact absurd rfl h
  | cons t r =>
    cases t with
    | node n ks =>
      rw [nodesL, nodesD, List.length_append, List.length_cons]
      omega
theorem lvF_zip : ∀ (f : Nat) (ts : List WTr) (d : Int), (nodesL ts d).length ≤ f → (zipL (lvF f ts) d).Perm (nodesL ts d)
  | 0, ts, d, h => by
    by_cases e : ts = []
    · subst e
      simp [nodesL, lvF, zipL]
    · have := nodesL_pos e d
      omega
  | f + 1, [], d, _ => by simp [nodesL, lvF, zipL]
  | f + 1, t :: r, d, h => by
    have s := nodesL_step d (t :: r)
    have sl := s.length_eq
    rw [List.length_append, List.length_map, List.length_cons] at sl
    have ih := lvF_zip f ((t :: r).flatMap kidsT) (d + 1) (by omega)
    rw [lvF, zipL, List.map_map]
    exact (List.Perm.append_left _ ih).trans s.symm
theorem lvF_enough : ∀ (f : Nat) (ts : List WTr) (d : Int), (nodesL ts d).length ≤ f → lvF f ts = lvF (f + 1) ts
  | 0, ts, d, h => by
    by_cases e : ts = []
    · subst e
      rfl
    · have := nodesL_pos e d
      omega
  | f + 1, [], d, _ => rfl
  | f + 1, t :: r, d, h => by
    have s := (nodesL_step d (t :: r)).length_eq
    rw [List.length_append, List.length_map, List.length_cons] at s
    rw [lvF, lvF, ← lvF_enough f ((t :: r).flatMap kidsT) (d + 1) (by omega)]
/-! ### what passes -/
def cntP (wds : List WD) (ns : List Int) (p : Int) : Nat := ns.countP fun n => decide (p ∈ (wAt wds n).1)
def cntZ (wds : List WD) (zs : List (Int × Int)) (d p : Int) : Nat := zs.countP fun y => decide (d < y.2) && decide (p ∈ (wAt wds y.1).1)
def okZ (wds : List WD) (tb : List (List Int)) (zs : List (Int × Int)) (z : Int × Int) : Bool :=
  ((wAt wds z.1).1.all fun p => decide (cntZ wds zs z.2 p < (tb.getD p.toNat []).length)) && decide (((wAt wds z.1).1.map fun p => atF (tb.getD p.toNat []) ((cntZ wds zs z.2 p : Nat) : Int)) ∈ (wAt wds z.1).2)
def passB (wds : List WD) (tb : List (List Int)) (zs : List (Int × Int)) : Bool := zs.all (okZ wds tb zs)
theorem cntZ_perm {wds : List WD} {zs ys : List (Int × Int)} (h : zs.Perm ys) (d p : Int) : cntZ wds zs d p = cntZ wds ys d p := h.countP_eq _
theorem okZ_perm {wds : List WD} {tb : List (List Int)} {zs ys : List (Int × Int)} (h : zs.Perm ys) (z : Int × Int) : okZ wds tb zs z = okZ wds tb ys z := by
  unfold okZ
  have e : cntZ wds zs z.2 = cntZ wds ys z.2 := funext fun p => cntZ_perm h z.2 p
  rw [e]
theorem passB_perm {wds : List WD} {tb : List (List Int)} {zs ys : List (Int × Int)} (h : zs.Perm ys) : passB wds tb zs = passB wds tb ys := by
  unfold passB
  rw [Bool.eq_iff_iff, List.all_eq_true, List.all_eq_true]
  constructor
  · intro a x hx
    rw [← okZ_perm h]
    exact a x (h.mem_iff.mpr hx)
  · intro a x hx
    rw [okZ_perm h]
    exact a x (h.mem_iff.mp hx)
/-- how many of the lower levels have a place -/
def sumP (wds : List WD) (Ls : List (List Int)) (p : Int) : Nat := (Ls.map fun L => cntP wds L p).sum
theorem cntZ_app (wds : List WD) (a b : List (Int × Int)) (d p : Int) : cntZ wds (a ++ b) d p = cntZ wds a d p + cntZ wds b d p := List.countP_append
theorem cntZ_level (wds : List WD) (L : List Int) (i d p : Int) : cntZ wds (L.map fun n => (n, i)) d p = if d < i then cntP wds L p else 0 := by
  unfold cntZ cntP
  rw [List.countP_map]
  by_cases h : d < i
  · rw [if_pos h]
    congr 1
    funext n
    show (decide (d < i) && decide (p ∈ (wAt wds n).1)) = _
    rw [decide_eq_true h, Bool.true_and]
  · rw [if_neg h]
    refine List.countP_eq_zero.mpr fun n _ => ?_
    show ¬ (decide (d < i) && decide (p ∈ (wAt wds n).1)) = true
    rw [decide_eq_false h, Bool.false_and]
    exact Bool.false_ne_true
theorem cntZ_above (wds : List WD) : ∀ (Ls : List (List Int)) (i d p : Int), i + Ls.length ≤ d + 1 → cntZ wds (zipL Ls i) d p = 0
  | [], _, _, _, _ => rfl
  | L :: r, i, d, p, h => by
    rw [List.length_cons] at h
    rw [zipL, cntZ_app, cntZ_level, cntZ_above wds r (i + 1) d p (by omega), if_neg (by omega)]
theorem cntZ_below (wds : List WD) : ∀ (Ls : List (List Int)) (i d p : Int), d < i → cntZ wds (zipL Ls i) d p = sumP wds Ls p
  | [], _, _, _, _ => rfl
  | L :: r, i, d, p, h => by
    rw [zipL, cntZ_app, cntZ_level, cntZ_below wds r (i + 1) d p (by omega), if_pos h]
    rfl
/-- at a level: what stands deeper -/
theorem cntZ_at (wds : List WD) (A : List (List Int)) (L : List Int) (B : List (List Int)) (p : Int) : cntZ wds (zipL (A ++ L :: B) 0) (A.length : Int) p = sumP wds B p := by
  rw [zipL_app, cntZ_app, cntZ_above wds A 0 _ p (by omega), zipL, cntZ_app, cntZ_level, if_neg (by omega), cntZ_below wds B _ _ p (by omega)]
  omega
theorem zipL_mem : ∀ {Ls : List (List Int)} {i : Int} {z : Int × Int}, z ∈ zipL Ls i → ∃ (A : List (List Int)) (L : List Int) (B : List (List Int)), Ls = A ++ L :: B ∧ z.1 ∈ L ∧ z.2 = i + A.length
  | [], _, _, h => nomatch h
  | L :: r, i, z, h => by
    rw [zipL] at h
    rcases List.mem_append.mp h with h | h
    · obtain ⟨n, hn, rfl⟩ := List.mem_map.mp h
      exact ⟨[], L, r, rfl, hn, by simp⟩
    · obtain ⟨A, L', B, e, h1, h2⟩ := zipL_mem h
      refine ⟨L :: A, L', B, by rw [e]; rfl, h1, ?_⟩
      rw [h2, List.length_cons]
      omega
theorem zipL_of (A : List (List Int)) (L : List Int) (B : List (List Int)) (i : Int) {n : Int} (h : n ∈ L) : (n, i + (A.length : Int)) ∈ zipL (A ++ L :: B) i := by
  rw [zipL_app, zipL]
  exact List.mem_append_right _ (List.mem_append_left _ (List.mem_map.mpr ⟨n, h, rfl⟩))
/-- a wish of a level, with what stands deeper -/
def okN (wds : List WD) (tb : List (List Int)) (B : List (List Int)) (n : Int) : Bool :=
  ((wAt wds n).1.all fun p => decide (sumP wds B p < (tb.getD p.toNat []).length)) && decide (((wAt wds n).1.map fun p => atF (tb.getD p.toNat []) ((sumP wds B p : Nat) : Int)) ∈ (wAt wds n).2)
theorem okZ_level (wds : List WD) (tb : List (List Int)) (A : List (List Int)) (L : List Int) (B : List (List Int)) (n : Int) : okZ wds tb (zipL (A ++ L :: B) 0) (n, (A.length : Int)) = okN wds tb B n := by
  unfold okZ okN
  have e : cntZ wds (zipL (A ++ L :: B) 0) (A.length : Int) = sumP wds B := funext fun p => cntZ_at wds A L B p
  show (((wAt wds n).1.all fun p => decide (cntZ wds (zipL (A ++ L :: B) 0) (A.length : Int) p < _)) && _) = _
  rw [e]
theorem passB_levels (wds : List WD) (tb : List (List Int)) (Ls : List (List Int)) : passB wds tb (zipL Ls 0) = true ↔ ∀ A L B, Ls = A ++ L :: B → ∀ n ∈ L, okN wds tb B n = true := by
  unfold passB
  rw [List.all_eq_true]
  constructor
  · intro h A L B e n hn
    have m := zipL_of A L B 0 hn
    rw [← e, Int.zero_add] at m
    have z := h _ m
    rw [e, okZ_level] at z
    exact z
  · intro h z hz
    obtain ⟨A, L, B, e, h1, h2⟩ := zipL_mem hz
    have y := h A L B e z.1 h1
    obtain ⟨z1, z2⟩ := z
    rw [Int.zero_add] at h2
    have h2 : z2 = (A.length : Int) := h2
    subst h2
    rw [e, okZ_level]
    exact y
end Rd

set_option Elab.async false
set_option linter.all false
set_option maxRecDepth 100000
set_option maxHeartbeats 4000000
/-! how many draws are left to the topmost wish with a place -/
namespace Rd
open PySem PySem.Spec PyProof.Rows L2 Dt
def lstep (wds : List WD) (ln : Int → Int) (o : Option Int) (L : List Int) (p : Int) : Option Int := match o with
  | none => if cntP wds L p = 0 then none else some (ln p)
  | some x => some (x - (cntP wds L p : Nat))
def leftF (wds : List WD) (ln : Int → Int) (Ls : List (List Int)) (p : Int) : Option Int := Ls.foldl (fun o L => lstep wds ln o L p) none
theorem leftF_snoc (wds : List WD) (ln : Int → Int) (Ls : List (List Int)) (L : List Int) (p : Int) : leftF wds ln (Ls ++ [L]) p = lstep wds ln (leftF wds ln Ls p) L p := by
  unfold leftF
  rw [List.foldl_append]
  rfl
theorem left_run (wds : List WD) (ln : Int → Int) (p : Int) : ∀ (B : List (List Int)) (y : Int), B.foldl (fun o L => lstep wds ln o L p) (some y) = some (y - (sumP wds B p : Nat))
  | [], y => by
    show some y = some (y - ((0 : Nat) : Int))
    congr 1
    omega
  | L :: r, y => by
    rw [List.foldl_cons]
    show r.foldl (fun o L => lstep wds ln o L p) (some (y - (cntP wds L p : Nat))) = _
    rw [left_run wds ln p r]
    congr 1
    show y - (cntP wds L p : Nat) - (sumP wds r p : Nat) = y - ((cntP wds L p + sumP wds r p : Nat) : Int)
    omega
theorem leftF_le {wds : List WD} {ln : Int → Int} {p : Int} : ∀ (Ls : List (List Int)) {x : Int}, leftF wds ln Ls p = some x → x ≤ ln p := by
  intro Ls
  generalize hn : Ls.length = n
  induction n generalizing Ls with
  | zero =>
    intro x h
    rw [List.length_eq_zero_iff.mp hn] at h
    cases h
  | succ n ih =>
    intro x h
    have ne : Ls ≠ [] := fun z => by rw [z] at hn; cases hn
    rw [← List.dropLast_concat_getLast ne, leftF_snoc] at h
    have ld : Ls.dropLast.length = n := by rw [List.length_dropLast]; omega
    cases o : leftF wds ln Ls.dropLast p with
    | none =>
      rw [o] at h
      unfold lstep at h
      dsimp only at h
      split at h
      · cases h
      · cases Option.some.inj h
        exact Int.le_refl _
    | some y =>
      rw [o] at h
      have := ih _ ld o
      cases Option.some.inj (show some (y - _) = some x from h)
      omega
theorem leftF_at {wds : List WD} {ln : Int → Int} (A : List (List Int)) (L : List Int) (B : List (List Int)) {p : Int} (h : 0 < cntP wds L p) : ∃ x, leftF wds ln (A ++ L :: B) p = some x ∧ x ≤ ln p - (sumP wds B p : Nat) := by
  have e : A ++ L :: B = (A ++ [L]) ++ B := by simp
  rw [e]
  obtain ⟨y, hy⟩ : ∃ y, leftF wds ln (A ++ [L]) p = some y := by
    rw [leftF_snoc]
    cases leftF wds ln A p with
    | none =>
      refine ⟨ln p, ?_⟩
      unfold lstep
      dsimp only
      rw [if_neg (by omega)]
    | some x => exact ⟨_, rfl⟩
  have yl := leftF_le _ hy
  refine ⟨y - (sumP wds B p : Nat), ?_, by omega⟩
  unfold leftF at hy ⊢
  rw [List.foldl_append, hy, left_run]
theorem leftF_top {wds : List WD} {ln : Int → Int} {p : Int} : ∀ (Ls : List (List Int)) {x : Int}, leftF wds ln Ls p = some x → ∃ A L B, Ls = A ++ L :: B ∧ 0 < cntP wds L p ∧ x = ln p - (sumP wds B p : Nat)
  | [], _, h => nomatch h
  | L :: r, x, h => by
    unfold leftF at h
    rw [List.foldl_cons] at h
    by_cases c : cntP wds L p = 0
    · have e : lstep wds ln none L p = none := by
        unfold lstep
        dsimp only
        rw [if_pos c]
      rw [e] at h
      obtain ⟨A, L', B, e1, h1, h2⟩ := leftF_top r (x := x) h
      exact ⟨L :: A, L', B, by rw [e1]; rfl, h1, h2⟩
    · have e : lstep wds ln none L p = some (ln p) := by
        unfold lstep
        dsimp only
        rw [if_neg c]
      rw [e, left_run] at h
      exact ⟨[], L, r, rfl, by omega, (Option.some.inj h).symm⟩
theorem sumP_app (wds : List WD) (A B : List (List Int)) (p : Int) : sumP wds (A ++ B) p = sumP wds A p + sumP wds B p := by
  unfold sumP
  rw [List.map_append, List.sum_append]
def lnT (tb : List (List Int)) (p : Int) : Int := ((tb.getD p.toNat []).length : Int)
/-- too few draws: it does not pass -/
theorem left_bad {wds : List WD} {tb : List (List Int)} {Ls rest : List (List Int)} {p x : Int} (h : leftF wds (lnT tb) Ls p = some x) (hx : x < 1) : passB wds tb (zipL (Ls ++ rest) 0) = false := by
  cases c : passB wds tb (zipL (Ls ++ rest) 0) with
  | false => rfl
  | true =>
    obtain ⟨A, L, B, e, h1, h2⟩ := leftF_top Ls h
    obtain ⟨n, hn, hp⟩ := List.countP_pos_iff.mp h1
    have hp := of_decide_eq_true hp
    have o := (passB_levels wds tb _).mp c A L (B ++ rest) (by rw [e]; simp) n hn
    unfold okN at o
    rw [Bool.and_eq_true] at o
    have o1 := of_decide_eq_true (List.all_eq_true.mp o.1 p hp)
    rw [sumP_app] at o1
    unfold lnT at h2
    omega
theorem left_good {wds : List WD} {tb : List (List Int)} {Ls : List (List Int)} (h : ∀ p x, leftF wds (lnT tb) Ls p = some x → 1 ≤ x) {A : List (List Int)} {L : List Int} {B : List (List Int)} (e : Ls = A ++ L :: B) {n p : Int} (hn : n ∈ L) (hp : p ∈ (wAt wds n).1) : sumP wds B p < (tb.getD p.toNat []).length := by
  have c : 0 < cntP wds L p := List.countP_pos_iff.mpr ⟨n, hn, decide_eq_true hp⟩
  obtain ⟨x, h1, h2⟩ := leftF_at (ln := lnT tb) A L B c
  rw [← e] at h1
  have := h p x h1
  unfold lnT at h2
  omega
end Rd

set_option Elab.async false
set_option linter.all false
set_option maxRecDepth 100000
set_option maxHeartbeats 4000000
/-! sorted(xs) of a list of nested tuples -/
namespace Rd
open PySem PySem.Spec PyProof.Rows L2 Dt
def rSortedD (K : PySem.W.Frag) : List V → Hp → VK → Prop := fun vs H Q => ∃ (a : Addr) (ts : List Addr) (enc : Addr → PyData), vs = [.ref a] ∧ SqL K H a (ts.map V.ref) ∧ (∀ t ∈ ts, Dp K H (.ref t) (enc t) ∧ (enc t).depth ≤ 64) ∧ PySem.W.AllAlike (ts.map enc) ∧ PySem.W.Sortable (ts.map enc) ∧
  ∀ (ts' : List Addr) (p : Addr), ts'.Perm ts → H p = none → Q (.ref p) (upd H p (.lst (ts'.map V.ref)))
theorem each_refs : ∀ {out : List Value} {bs : List Addr}, PySem.W.EachIs (fun v b => v = Value.ref b) out bs → out = bs.map Value.ref
  | _, _, .nil => rfl
  | _, _, .cons h t => by rw [h, each_refs t]; rfl
theorem cr_sortedD {X : Cx} (hu : X.A.units + 66 < cLine) : CallR X (.builtin "sorted") (rSortedD X.K) := by
  intro pins s σ H vs us Q I r h
  obtain ⟨a, ts, enc, rfl, hs, hd, al, so, q⟩ := h
  obtain ⟨its, rv, hl, hz⟩ := I.list hs
  obtain ⟨u, rfl, ru⟩ := vals1 r
  cases (show u = Value.ref a from ru)
  obtain rfl := Tt.vals_refs rv
  refine PySem.W.sorted_data (R := fun v b => v = Value.ref b) (bs := ts) (enc := enc) hl.isList ?_ ?_ al so (by rw [List.length_map] at hz; exact hz) (fun b hb => by have := (hd b hb).2; omega) fun out ol eo => ?_
  · clear hd al so q rv hl hz hs
    induction ts with
    | nil => exact .nil
    | cons b r ih => exact .cons rfl ih
  · have g : ∀ l : List Addr, (∀ t ∈ l, t ∈ ts) → PySem.W.EachIs (fun v b => ∃ as, Reads s.heap v (enc b) as) (l.map Value.ref) l := fun l => by
      induction l with
      | nil => exact fun _ => .nil
      | cons b r ih => exact fun h => .cons (Dp.reads I (enc b) (.ref b) _ (hd b (h b List.mem_cons_self)).1 rfl) (ih fun t ht => h t (List.mem_cons_of_mem _ ht))
    exact g ts fun _ h => h
  · have eo' := each_refs eo
    have pt := List.mergeSort_perm ts (PySem.W.dataLe false enc)
    obtain ⟨ep, he⟩ := PyProof.Rows.sortedAll_at s.heap (ts.map Value.ref) out.toArray
    generalize ts.mergeSort (PySem.W.dataLe false enc) = ts' at eo' pt
    subst eo'
    refine ⟨.ref (s.heap.objs.size + 1), _, I.laid (t' := s.toks) (o := .lst (ts'.map V.ref)) (fun _ _ => PyProof.Rows.sortedAll_old) (Nat.le_succ _) ⟨?_, ts'.map Value.ref, ep, Tt.refs_vals ts', he⟩, rfl, q ts' _ pt (I.hok.fresh (Nat.le_succ _))⟩
    rw [List.length_map, pt.length_eq]
    rw [List.length_map] at hz
    exact hz
end Rd

set_option Elab.async false
set_option linter.all false
set_option maxRecDepth 100000
set_option maxHeartbeats 4000000
/-! trees as data -/
namespace Rd
open PySem PySem.Spec PyProof.Rows L2 Dt
mutual
def treeD : WTr → PyData
  | .node n ts => .tuple [.int n, .tuple (treesD ts)]
def treesD : List WTr → List PyData
  | [] => []
  | t :: r => treeD t :: treesD r
end
theorem treesD_map : ∀ ts : List WTr, treesD ts = ts.map treeD
  | [] => by rw [treesD]; rfl
  | t :: r => by rw [treesD, treesD_map r]; rfl
mutual
theorem dpTr {K : PySem.W.Frag} {H : Hp} : ∀ {v : V} {T : WTr}, IsTr H v T → Dp K H v (treeD T)
  | _, _, .mk h1 h2 h3 => by
    rw [treeD]
    exact .tup (.inl (.inl h1)) (.cons (.int _) (.cons (.tup (.inl (.inl h2)) (dpTrs h3)) .nil))
theorem dpTrs {K : PySem.W.Frag} {H : Hp} : ∀ {vs : List V} {ts : List WTr}, IsTrs H vs ts → DpAll K H vs (treesD ts)
  | _, _, .nil => by rw [treesD]; exact .nil
  | _, _, .cons h t => by rw [treesD]; exact .cons (dpTr h) (dpTrs t)
end
mutual
theorem alike_tree : ∀ a b : WTr, PySem.W.alike (treeD a) (treeD b) = true
  | .node n ts, .node m us => by
    rw [treeD, treeD]
    simp only [PySem.W.alike, PySem.W.alikeAll, alike_trees ts us, Bool.and_true]
theorem alike_trees : ∀ a b : List WTr, PySem.W.alikeAll (treesD a) (treesD b) = true
  | [], _ => by rw [treesD]; simp only [PySem.W.alikeAll]
  | _ :: _, [] => by rw [treesD, treesD]; simp only [PySem.W.alikeAll]
  | a :: r, b :: s => by
    rw [treesD, treesD]
    simp only [PySem.W.alikeAll, alike_tree a b, alike_trees r s, Bool.and_true]
end
mutual
theorem eqv_tree : ∀ a b : WTr, PyData.eqv (treeD a) (treeD b) = true → a = b
  | .node n ts, .node m us, h => by
    rw [treeD, treeD] at h
    simp only [PyData.eqv, PyData.eqvAll, Bool.and_eq_true, beq_iff_eq] at h
    rw [h.1, eqv_trees ts us h.2.1]
theorem eqv_trees : ∀ a b : List WTr, PyData.eqvAll (treesD a) (treesD b) = true → a = b
  | [], [], _ => rfl
  | [], _ :: _, h => by
    rw [treesD, treesD] at h
    simp [PyData.eqvAll] at h
  | _ :: _, [], h => by
    rw [treesD, treesD] at h
    simp [PyData.eqvAll] at h
  | a :: r, b :: s, h => by
    rw [treesD, treesD] at h
    simp only [PyData.eqvAll, Bool.and_eq_true] at h
    rw [eqv_tree a b h.1, eqv_trees r s h.2]
end
mutual
theorem laid_t : ∀ T : WTr, (treeD T).canLay0 = true
  | .node n ts => by
    rw [treeD]
    simp only [PyData.canLay0, PyData.canLayAll0, laid_ts ts, Bool.and_true]
theorem laid_ts : ∀ ts : List WTr, PyData.canLayAll0 (treesD ts) = true
  | [] => by rw [treesD]; simp only [PyData.canLayAll0]
  | t :: r => by
    rw [treesD]
    simp only [PyData.canLayAll0, laid_t t, laid_ts r, Bool.and_true]
end
mutual
theorem depth_tree (d : Int) : ∀ T : WTr, (treeD T).depth ≤ 2 * (nodesD T d).length + 1
  | .node n ts => by
    have h := depth_trees (d + 1) ts
    rw [treeD, nodesD, List.length_cons]
    simp only [PyData.depth, PyData.depthAll]
    omega
theorem depth_trees (d : Int) : ∀ ts : List WTr, PyData.depthAll (treesD ts) ≤ 2 * (nodesL ts d).length + 1
  | [] => by rw [treesD]; simp only [PyData.depthAll]; omega
  | t :: r => by
    have h1 := depth_tree d t
    have h2 := depth_trees d r
    rw [treesD, nodesL, List.length_append]
    simp only [PyData.depthAll]
    omega
end
mutual
theorem IsTr.one {H : Hp} : ∀ {v : V} {T T' : WTr}, IsTr H v T → IsTr H v T' → T = T'
  | _, _, _, .mk h1 h2 h3, .mk g1 g2 g3 => by
    have e := Option.some.inj (h1.symm.trans g1)
    injection e with e
    injection e with e1 e2
    injection e1 with e1
    injection e2 with e2 _
    injection e2 with e2
    subst e1 e2
    have e3 := Option.some.inj (h2.symm.trans g2)
    injection e3 with e3
    subst e3
    rw [IsTrs.one h3 g3]
theorem IsTrs.one {H : Hp} : ∀ {vs : List V} {ts ts' : List WTr}, IsTrs H vs ts → IsTrs H vs ts' → ts = ts'
  | _, _, _, .nil, .nil => rfl
  | _, _, _, .cons a b, .cons c d => by rw [IsTr.one a c, IsTrs.one b d]
end
theorem IsTr.ref {H : Hp} {v : V} {T : WTr} (h : IsTr H v T) : ∃ a, v = .ref a := by
  cases h with
  | mk h1 h2 h3 => exact ⟨_, rfl⟩
theorem IsTrs.refs {H : Hp} : ∀ {vs : List V} {ts : List WTr}, IsTrs H vs ts → ∃ as : List Addr, vs = as.map V.ref
  | _, _, .nil => ⟨[], rfl⟩
  | _, _, .cons h t => by
    obtain ⟨a, rfl⟩ := h.ref
    obtain ⟨as, rfl⟩ := t.refs
    exact ⟨a :: as, rfl⟩
/-- kids put in another order, each with as many of each kind -/
theorem nodesL_perm {ts us : List WTr} (h : ts.Perm us) (d : Int) : (nodesL ts d).Perm (nodesL us d) := by
  rw [nodesL_flat, nodesL_flat]
  exact h.flatMap_right _
theorem nodesL_each (d : Int) : ∀ {ts us : List WTr}, Paired (fun t u : WTr => (nodesD t d).Perm (nodesD u d)) ts us → (nodesL ts d).Perm (nodesL us d)
  | _, _, .nil => by rw [nodesL]
  | _, _, .cons h t => by
    rw [nodesL, nodesL]
    exact h.append (nodesL_each d t)
theorem sortable_trees {α : Type} (l : List α) (f : α → WTr) : PySem.W.AllAlike (l.map fun a => treeD (f a)) ∧ PySem.W.Sortable (l.map fun a => treeD (f a)) := by
  refine ⟨fun d hd d' hd' => ?_, .inl fun d hd => ?_⟩
  · obtain ⟨a, _, rfl⟩ := List.mem_map.mp hd
    obtain ⟨b, _, rfl⟩ := List.mem_map.mp hd'
    exact alike_tree _ _
  · obtain ⟨a, _, rfl⟩ := List.mem_map.mp hd
    cases f a with
    | node n ts => exact ⟨_, _, by rw [treeD]⟩
end Rd

set_option Elab.async false
set_option linter.all false
set_option maxRecDepth 100000
set_option maxHeartbeats 4000000
/-! in the tree of a step the deeper ones with a place are the earlier steps with it -/
namespace Rd
open PySem PySem.Spec PyProof.Rows L2 Dt
theorem cl_share {wds : List WD} {n o p : Int} (hn : p ∈ (wAt wds n).1) (ho : p ∈ (wAt wds o).1) : clN wds n o = true := by
  unfold clN clB
  first
    | exact List.any_eq_true.mpr ⟨p, hn, decide_eq_true ho⟩
    | simp only [decide_eq_true_eq]; exact ⟨p, hn, ho⟩
theorem cntZ_one (wds : List WD) (n e d p : Int) : cntZ wds [(n, e)] d p = if d < e ∧ p ∈ (wAt wds n).1 then 1 else 0 := by
  unfold cntZ
  rw [List.countP_singleton]
  by_cases c : d < e ∧ p ∈ (wAt wds n).1
  · rw [if_pos c, if_pos (by rw [decide_eq_true c.1, decide_eq_true c.2]; rfl)]
  · rw [if_neg c, if_neg]
    intro z
    rw [Bool.and_eq_true] at z
    exact c ⟨of_decide_eq_true z.1, of_decide_eq_true z.2⟩
theorem dstep_cnt {wds : List WD} {zs : List (Int × Int)} {n : Int} {y : Int × Int} (hy : y ∈ zs) (y0 : 0 ≤ y.2) {p : Int} (hp : p ∈ (wAt wds y.1).1) :
    cntZ wds (dstep wds zs n) y.2 p = cntZ wds zs y.2 p + if p ∈ (wAt wds n).1 then 1 else 0 := by
  unfold dstep
  by_cases c : p ∈ (wAt wds n).1
  · have m := mxI_le (abv_of hy (cl_share c hp))
    rw [if_pos c, if_pos (by omega), cntZ_app, cntZ_one, if_pos ⟨by omega, c⟩]
  · rw [if_neg c]
    split
    · rw [cntZ_app, cntZ_one, if_neg fun z => c z.2]
    · rfl
theorem run_cnt {wds : List WD} {y : Int × Int} (y0 : 0 ≤ y.2) {p : Int} (hp : p ∈ (wAt wds y.1).1) : ∀ (rest : List Int) (zs : List (Int × Int)), y ∈ zs → cntZ wds (rest.foldl (dstep wds) zs) y.2 p = cntZ wds zs y.2 p + cntP wds rest p
  | [], zs, _ => rfl
  | n :: r, zs, hy => by
    have m : y ∈ dstep wds zs n := by
      unfold dstep
      split
      · exact List.mem_append_left _ hy
      · exact hy
    rw [List.foldl_cons, run_cnt y0 hp r _ m, dstep_cnt hy y0 hp]
    unfold cntP
    rw [List.countP_cons]
    by_cases c : p ∈ (wAt wds n).1
    · rw [if_pos c, if_pos (decide_eq_true c)]
      omega
    · rw [if_neg c, if_neg (by rw [decide_eq_true_eq]; exact c)]
      omega
/-- where each one of a tree comes from, and what stands deeper -/
theorem from_cnt {wds : List WD} : ∀ (rest : List Int) (zs : List (Int × Int)), (∀ z ∈ zs, 0 ≤ z.2) → ∀ y ∈ rest.foldl (dstep wds) zs, y ∈ zs ∨ 0 ≤ y.2 ∧ ∃ A B, rest = A ++ y.1 :: B ∧ ∀ p ∈ (wAt wds y.1).1, cntZ wds (rest.foldl (dstep wds) zs) y.2 p = cntP wds B p
  | [], zs, _, y, hy => .inl hy
  | n :: r, zs, h0, y, hy => by
    have m1 : ∀ z ∈ abv wds zs n, 0 ≤ z := fun x hx => by
      obtain ⟨z, hz, _, rfl⟩ := abv_mem hx
      exact h0 z hz
    have h0' : ∀ z ∈ dstep wds zs n, 0 ≤ z.2 := fun z hz => by
      unfold dstep at hz
      split at hz
      · rcases List.mem_append.mp hz with h | h
        · exact h0 z h
        · rw [List.mem_singleton.mp h]
          show 0 ≤ 1 + mxI (abv wds zs n)
          omega
      · exact h0 z hz
    rw [List.foldl_cons] at hy
    rcases from_cnt r _ h0' y hy with h | ⟨y0, A, B, e, g⟩
    · by_cases hz : y ∈ zs
      · exact .inl hz
      · refine .inr ⟨h0' y h, [], r, ?_, fun p hp => ?_⟩
        · unfold dstep at h
          split at h
          · rcases List.mem_append.mp h with h | h
            · exact absurd h hz
            · rw [List.mem_singleton.mp h]
              rfl
          · exact absurd h hz
        · rw [List.foldl_cons, run_cnt (h0' y h) hp r _ h]
          have z0 : cntZ wds (dstep wds zs n) y.2 p = 0 := by
            unfold dstep at h ⊢
            split at h
            · rename_i c
              rw [if_pos c]
              rcases List.mem_append.mp h with h | h
              · exact absurd h hz
              · have e := List.mem_singleton.mp h
                rw [e] at hp ⊢
                dsimp only at hp ⊢
                rw [cntZ_app, cntZ_one, if_neg (by omega), Nat.add_zero]
                unfold cntZ
                refine List.countP_eq_zero.mpr fun x hx => ?_
                rw [Bool.and_eq_true]
                intro z
                have z1 := of_decide_eq_true z.1
                have z2 := of_decide_eq_true z.2
                have := mxI_le (abv_of hx (cl_share hp z2))
                omega
            · exact absurd h hz
          rw [z0, Nat.zero_add]
    · exact .inr ⟨y0, n :: A, B, by rw [e]; rfl, fun p hp => by rw [List.foldl_cons]; exact g p hp⟩
theorem depths_cnt {wds : List WD} (k : Int) (rest : List Int) : ∀ y ∈ depthsL wds k rest, ∃ A B, k :: rest = A ++ y.1 :: B ∧ ∀ p ∈ (wAt wds y.1).1, cntZ wds (depthsL wds k rest) y.2 p = cntP wds B p := fun y hy => by
  rcases from_cnt rest [(k, 0)] (fun z hz => by rw [List.mem_singleton.mp hz]; exact Int.le_refl _) y hy with h | ⟨_, A, B, e, g⟩
  · have e := List.mem_singleton.mp h
    refine ⟨[], rest, by rw [e]; rfl, fun p hp => ?_⟩
    have z := run_cnt (wds := wds) (y := y) (by rw [e]; exact Int.le_refl _) hp rest [(k, 0)] h
    have z0 : cntZ wds [(k, 0)] y.2 p = 0 := by
      rw [e, cntZ_one, if_neg]
      intro c
      have c := c.1
      dsimp only at c
      omega
    rw [z0, Nat.zero_add] at z
    exact z
  · exact ⟨k :: A, B, by rw [e]; rfl, g⟩
end Rd

set_option Elab.async false
set_option linter.all false
set_option maxRecDepth 100000
set_option maxHeartbeats 4000000
/-! each step's row is what the table has there -/
namespace Rd
open PySem PySem.Spec PyProof.Rows L2 Dt
theorem cnt_log (wds : List WD) (log : Log) (p : Int) : Dt.cntP wds log p = Rd.cntP wds (log.map (·.1)) p := by
  unfold Dt.cntP Rd.cntP
  rw [List.countP_map, ← List.countP_eq_length_filter]
  rfl
structure OkS (wds : List WD) (tb : List (List Int)) (pre : Log) (n : Int) (row : List Int) : Prop where
  few : ∀ p ∈ (wAt wds n).1, Dt.cntP wds pre p < (tb.getD p.toNat []).length
  is_ : row = (wAt wds n).1.map fun p => atF (tb.getD p.toNat []) ((Dt.cntP wds pre p : Nat) : Int)
  bad : row ∈ (wAt wds n).2
theorem stand_atF {tb : List (List Int)} {tk : List Int} (g : GoodK tb tk) {p : Int} (p0 : 0 ≤ p) (p1 : p < (tb.length : Int)) : atF (stand tb tk) p = atF (tb.getD p.toNat []) (atF tk p) := by
  have hk : p.toNat < tb.length := by omega
  have hl := g.len
  unfold stand atF
  rw [List.getD_eq_getElem?_getD, List.getElem?_zipWith, List.getElem?_eq_getElem hk, List.getElem?_eq_getElem (show p.toNat < tk.length by omega)]
  rw [List.getD_eq_getElem?_getD (l := tb), List.getElem?_eq_getElem hk, List.getD_eq_getElem?_getD (l := tk), List.getElem?_eq_getElem (show p.toNat < tk.length by omega)]
  rfl
theorem steps_rows {many hues : Int} {wds : List WD} {tb : List (List Int)} {ord : List Int} (f : Fit many hues wds tb ord) {tk tk' : List Int} {log log' : Log} (s : Steps wds tb ord tk log tk' log') (g : GoodK tb tk) (h : ∀ p, 0 ≤ p → p < (tb.length : Int) → atF tk p = Dt.cntP wds log p) : ∀ i x, log.length ≤ i → log'[i]? = some x → OkS wds tb (log'.take i) x.1 x.2 := by
  induction s with
  | refl tk log =>
    intro i x hi hx
    have := (List.getElem?_eq_some_iff.mp hx).1
    omega
  | @step tk tk' log log' k e c s ih =>
    intro i x hi hx
    obtain ⟨cf, wd, hw, he, hb, k0, k1⟩ := can_fit f e c
    have h' : ∀ p, 0 ≤ p → p < (tb.length : Int) → atF (bumpA tk (plc wds k)) p = Dt.cntP wds (log ++ [(k, huesA (stand tb tk) (plc wds k))]) p := fun p p0 p1 => by
      rw [atF_bumpA _ _ _ cf.nd (fun x hx => by rw [g.len]; exact cf.pl x hx) p0, cntP_snoc, h p p0 p1]
      by_cases e2 : p ∈ plc wds k
      · rw [if_pos e2, if_pos e2]; rfl
      · rw [if_neg e2, if_neg e2]; rfl
    by_cases ci : i = log.length
    · obtain ⟨more, em⟩ := steps_pre s
      subst ci
      have ex : x = (k, huesA (stand tb tk) (plc wds k)) := by
        rw [em, List.append_assoc, List.getElem?_append_right (Nat.le_refl _), Nat.sub_self] at hx
        exact (Option.some.inj hx).symm
      have et : log'.take log.length = log := by rw [em, List.append_assoc, List.take_left]
      rw [et, ex]
      have ewt : wAt wds k = wd := by
        rw [wAt, List.getD_eq_getElem?_getD, hw]
        rfl
      refine ⟨fun p hp => ?_, ?_, ?_⟩
      · rw [ewt, ← he] at hp
        have pp := cf.pl p hp
        have z := g.at_ p.toNat (by omega)
        have y := h p pp.1 pp.2
        unfold atF at y
        omega
      · show huesA (stand tb tk) (plc wds k) = _
        rw [ewt, he]
        unfold huesA
        refine List.map_congr_left fun p hp => ?_
        have pp := cf.pl p (by rw [he]; exact hp)
        rw [stand_atF g pp.1 pp.2, h p pp.1 pp.2]
      · show huesA (stand tb tk) (plc wds k) ∈ _
        unfold brkAt at hb
        rw [hw] at hb
        rw [ewt, he]
        have hb : brk (stand tb tk) wd = true := hb
        exact of_decide_eq_true hb
    · refine ih (bumpA_good g cf).1 h' i x ?_ hx
      rw [List.length_append, List.length_singleton]
      omega
theorem steps_pass {wds : List WD} {tb : List (List Int)} {log : Log} (ok : ∀ i x, log[i]? = some x → OkS wds tb (log.take i) x.1 x.2) {t : Nat} {x : Int × List Int} (ht : log[t]? = some x) : passB wds tb (depthsL wds x.1 ((log.take t).map (·.1)).reverse) = true := by
  unfold passB
  refine List.all_eq_true.mpr fun y hy => ?_
  obtain ⟨A, B, e, cnt⟩ := depths_cnt x.1 _ y hy
  have e1 : (log.take (t + 1)).map (·.1) = B.reverse ++ y.1 :: A.reverse := by
    have z := congrArg List.reverse e
    rw [List.reverse_cons, List.reverse_reverse, List.reverse_append, List.reverse_cons] at z
    rw [take_snoc ht, List.map_append]
    show (log.take t).map (·.1) ++ [x.1] = _
    rw [z, List.append_assoc]
    rfl
  have tl := congrArg List.length e1
  rw [List.length_map, List.length_take, List.length_append, List.length_reverse, List.length_cons] at tl
  have hi : B.length < log.length := by omega
  have ht1 : B.length < t + 1 := by omega
  have g1 : (log[B.length]).1 = y.1 := by
    have z : ((log.take (t + 1)).map (·.1))[B.length]? = some y.1 := by
      rw [e1, List.getElem?_append_right (by rw [List.length_reverse]; exact Nat.le_refl _), List.length_reverse, Nat.sub_self]
      rfl
    rw [List.getElem?_map, List.getElem?_take_of_lt ht1, List.getElem?_eq_getElem hi] at z
    exact Option.some.inj z
  have g2 : (log.take B.length).map (·.1) = B.reverse := by
    have z := congrArg (List.take B.length) e1
    rw [← List.map_take, List.take_take, Nat.min_eq_left (by omega), List.take_append_of_le_length (by rw [List.length_reverse]; exact Nat.le_refl _), List.take_of_length_le (l := B.reverse) (by rw [List.length_reverse]; exact Nat.le_refl _)] at z
    exact z
  have o := ok B.length _ (List.getElem?_eq_getElem hi)
  rw [g1] at o
  have cn : ∀ p, Dt.cntP wds (log.take B.length) p = Rd.cntP wds B p := fun p => by
    rw [cnt_log, g2]
    unfold Rd.cntP
    rw [List.countP_reverse]
  unfold okZ
  rw [Bool.and_eq_true]
  refine ⟨List.all_eq_true.mpr fun p hp => decide_eq_true ?_, decide_eq_true ?_⟩
  · rw [cnt p hp, ← cn p]
    exact o.few p hp
  · have em : ((wAt wds y.1).1.map fun p => atF (tb.getD p.toNat []) ((cntZ wds (depthsL wds x.1 ((log.take t).map (·.1)).reverse) y.2 p : Nat) : Int)) = (log[B.length]).2 := by
      rw [o.is_]
      refine List.map_congr_left fun p hp => ?_
      rw [cnt p hp, cn p]
    rw [em]
    exact o.bad
end Rd

set_option Elab.async false
set_option linter.all false
set_option maxRecDepth 100000
set_option maxHeartbeats 4000000
/-! the trees of a run: each passes, no two alike -/
namespace Rd
open PySem PySem.Spec PyProof.Rows L2 Dt
theorem run_rows {many hues : Int} {wds : List WD} {tb : List (List Int)} {ord : List Int} {R : Res} (gr : GoodR many hues wds) (nd : ∀ wd ∈ wds, wd.1.Nodup) (gt : GoodT many hues tb) (go : GoodO wds.length ord) (h : runOf wds tb ord = some R) : ∀ i x, R.2.2[i]? = some x → OkS wds tb (R.2.2.take i) x.1 x.2 := by
  obtain ⟨tk, e⟩ := runEnd_of gr nd gt go h
  have f : Fit many hues wds tb ord := ⟨gr, nd, gt.len, go⟩
  refine fun i x => steps_rows f e.st (zeros_good gt) (fun p p0 _ => ?_) i x (Nat.zero_le _)
  unfold atF
  rw [zeros_get]
  rfl
theorem run_few {many hues : Int} {wds : List WD} {tb : List (List Int)} {ord : List Int} {R : Res} (gr : GoodR many hues wds) (nd : ∀ wd ∈ wds, wd.1.Nodup) (gt : GoodT many hues tb) (go : GoodO wds.length ord) (h : runOf wds tb ord = some R) {b : Nat} (few : ∀ ds ∈ tb, ds.length ≤ b) : R.2.2.length ≤ tb.length * b := by
  obtain ⟨R', h1, _, _, h4⟩ := goR_total gr nd gt go (rem tb (zerosI tb.length) + 1) (zerosI tb.length) [] (zeros_good gt) (LogOk.nil _) (Nat.lt_succ_self _)
  have e : R' = R := Option.some.inj (h1.symm.trans h)
  rw [e, List.length_nil, Nat.zero_add] at h4
  exact Nat.le_trans h4 (rem_le tb _ b few)
theorem top_cnt {wds : List WD} {k p : Int} (rest : List Int) (hp : p ∈ (wAt wds k).1) : cntZ wds (depthsL wds k rest) 0 p = Rd.cntP wds rest p := by
  have z := run_cnt (wds := wds) (y := (k, 0)) (Int.le_refl _) hp rest [(k, 0)] List.mem_cons_self
  have z0 : cntZ wds [(k, 0)] 0 p = 0 := by rw [cntZ_one, if_neg fun c => absurd c.1 (by decide)]
  rw [z0, Nat.zero_add] at z
  exact z
theorem rests_unlike {wds : List WD} {k p : Int} (hp : p ∈ (wAt wds k).1) {a b : List Int} (h : (depthsL wds k (a ++ k :: b)).Perm (depthsL wds k b)) : False := by
  have z := cntZ_perm (wds := wds) h 0 p
  rw [top_cnt _ hp, top_cnt _ hp] at z
  unfold Rd.cntP at z
  rw [List.countP_append, List.countP_cons, if_pos (decide_eq_true hp)] at z
  omega
mutual
theorem nodesD_len (d e : Int) : ∀ T : WTr, (nodesD T d).length = (nodesD T e).length
  | .node n ts => by rw [nodesD, nodesD, List.length_cons, List.length_cons, nodesL_len (d + 1) (e + 1) ts]
theorem nodesL_len (d e : Int) : ∀ ts : List WTr, (nodesL ts d).length = (nodesL ts e).length
  | [] => by rw [nodesL, nodesL]
  | t :: r => by rw [nodesL, nodesL, List.length_append, List.length_append, nodesD_len d e t, nodesL_len d e r]
end
theorem tree_one {T : WTr} {k : Int} (h : (nodesD T 0).Perm [(k, 0)]) : T = .node k [] := by
  cases T with
  | node n ts =>
    rw [nodesD] at h
    have l := h.length_eq
    rw [List.length_cons, List.length_singleton] at l
    cases ts with
    | nil =>
      rw [nodesL] at h
      have e := List.singleton_perm_singleton.mp h
      injection e with e1 _
      rw [e1]
    | cons t r =>
      cases t with
      | node m us =>
        rw [nodesL, nodesD, List.cons_append, List.length_cons] at l
        omega
theorem shaped_tree {T : WTr} (h : (nodesD T 0).length ≤ 20) : SeqAt.shaped (treeD T) = true := by
  unfold SeqAt.shaped
  rw [laid_t, Bool.true_and]
  have := depth_tree 0 T
  exact decide_eq_true (by omega)
theorem shaped_trees {ts : List WTr} (h : ∀ T ∈ ts, (nodesD T 0).length ≤ 20) : SeqAt.shaped (.list (treesD ts)) = true := by
  unfold SeqAt.shaped
  have l := laid_ts ts
  have d : PyData.depthAll (treesD ts) ≤ 41 := by
    clear l
    induction ts with
    | nil => rw [treesD]; simp only [PyData.depthAll]; omega
    | cons t r ih =>
      have h1 := depth_tree 0 t
      have h2 := h t List.mem_cons_self
      have h3 := ih fun T hT => h T (List.mem_cons_of_mem _ hT)
      rw [treesD]
      simp only [PyData.depthAll]
      omega
  have e1 : (PyData.list (treesD ts)).canLay0 = true := by rw [PyData.canLay0]; exact l
  have e2 : (PyData.list (treesD ts)).depth ≤ 64 := by
    simp only [PyData.depth]
    omega
  rw [e1, Bool.true_and]
  exact decide_eq_true e2
theorem eqv_one (k : Int) : PyData.eqv (treeD (.node k [])) (.tuple [.int k, .tuple []]) = true := by
  rw [treeD, treesD]
  simp [PyData.eqv, PyData.eqvAll]
end Rd

set_option Elab.async false
set_option linter.all false
set_option maxRecDepth 100000
set_option maxHeartbeats 4000000
/-! xs == [] of any list -/
namespace Rd
open PySem PySem.Spec PyProof.Rows L2 Dt
def rEqE (K : PySem.W.Frag) : R2 := fun x y H Q => ∃ (a b : Addr) (xs : List V), x = .ref a ∧ y = .ref b ∧ SqL K H a xs ∧ SqL K H b [] ∧ Q (.bl xs.isEmpty) H
theorem op_eqE {X : Cx} (hu : X.A.units + 64 < cLine) : OpR X (compareOp .Eq) (rEqE X.K) := by
  intro pins s σ H x y v u Q I rx ry h
  obtain ⟨a, b, xs, rfl, rfl, ha, hb, q⟩ := h
  cases rx
  cases ry
  obtain ⟨its, rv, hl, _⟩ := I.list ha
  obtain ⟨its2, rv2, hl2, _⟩ := I.list hb
  have l1 := rv.length
  have l2 := rv2.length
  cases xs with
  | nil =>
    have z1 : its = [] := List.length_eq_zero_iff.mp l1.symm
    have z2 : its2 = [] := List.length_eq_zero_iff.mp l2.symm
    subst z1 z2
    refine PySem.SeqAt.RcAt.lists (e := fun _ => true) hl.isList hl2.isList rfl (by omega) (fun j j1 => absurd j1 (Nat.not_lt_zero j)) _ _ _ _ ⟨.bl _, H, I, rfl, q⟩
  | cons z r =>
    refine PySem.SeqAt.RcAt.lists_lengths hl.isList hl2.isList ?_ (by omega) _ _ _ _ ⟨.bl _, H, I, rfl, q⟩
    rw [List.size_toArray, List.size_toArray, ← l1, ← l2]
    rfl
end Rd

set_option Elab.async false
set_option linter.all false
set_option maxRecDepth 100000
set_option maxHeartbeats 4000000
namespace Rd
open PySem PySem.Spec PyProof.Rows L2 Dt
def topS (i : Nat) : Stmt := PySem.Challenge.pw_redraw_k42_whole_trees_of_runs.main.body.getD i (.Pass ⟨0, 0, 0, 0⟩)
abbrev sTap : Stmt := topS 26
abbrev nTap : List Str := ["script", "start", "cell"]
theorem scTap : FnScope nTap ["script", "start"] (defScope sTap) := ⟨rfl, rfl, rfl, by decide +kernel, rfl, by decide +kernel, by decide +kernel⟩
abbrev sDig : Stmt := topS 27
abbrev nDig : List Str := ["tape", "many", "found", "more"]
theorem scDig : FnScope nDig ["tape", "many"] (defScope sDig) := ⟨rfl, rfl, rfl, by decide +kernel, rfl, by decide +kernel, by decide +kernel⟩
def spTap (K : PySem.W.Frag) : Sp := fun vs H Q _ => ∃ (a : Addr) (ns : List Int) (st : Int), vs = [.ref a, .int st] ∧ SqL K H a (ns.map V.int) ∧ ns.length ≤ 63 ∧ 0 ≤ st ∧ st ≤ 100 ∧
  ∀ H' tp, Same H H' → H tp = none → Tape H' tp → Q (.ref tp) H'
def spDig : Sp := fun vs H Q _ => ∃ (tp : Addr) (m : Int), vs = [.ref tp, .int m] ∧ Tape H tp ∧ 1 ≤ m ∧ m.natAbs.log2 < 9000 ∧
  ∀ H' d, Taped tp H H' → 0 ≤ d → d < m → Q (.int d) H'
structure TxtT (mg : Str → Option Value) : Prop where
  m_len : mg "len" = none
  m_abs : mg "abs" = none
theorem abs_nn (z : Int) : 0 ≤ (if z < 0 then -z else z) := by split <;> omega
section
variable {P : Program} {w : World} {K : PySem.W.Frag} {mg : Str → Option Value} {base : Heap}
theorem ok_tap {f : Addr} {fd : FuncData} {k : Nat} (F : Fun K "_law_tape" "_law_tape" sTap f fd) (T : TxtT mg) : FnOk P w K mg base CX0 (k + 1) f fd ["script", "start"] (spTap K) := by
  refine F.ok scTap (fun vs H Q E h => ?_) (fun cdv A outer s H vs Q E hr h => ?_)
  · obtain ⟨a, ns, st, rfl, _⟩ := h
    rfl
  · obtain ⟨a, ns, st, rfl, hS, hl, s0, s1, q⟩ := h
    refine ⟨_, (pss_cons (ps_set (i := 2) scTap.nd rfl (Or.inl rfl) pe_int)
  (C8.pss_cut (ps_if (pt_cmpR op_lt (pv 1) (pe_callB call_len_seq (by rfl) T.m_len (by decide +kernel) (pa_cons (pv 0) pa_nil)) (nomark _))
  (pss_one (ps_set (i := 2) scTap.nd rfl (Or.inl rfl) (pe_callB call_abs (by rfl) T.m_abs (by decide +kernel) (pa_cons (pe_ix ix_list (pv 0) (pv 1) (fun _ _ => rfl)) pa_nil)))) (pss_one (ps_if (pt_cmpR op_gt (pe_callB call_len_seq (by rfl) T.m_len (by decide +kernel) (pa_cons (pv 0) pa_nil)) pe_int (nomark _))
  (pss_one (ps_set (i := 2) scTap.nd rfl (Or.inl rfl) (pe_op op_add (pe_op op_mod (pe_callB call_abs (by rfl) T.m_abs (by decide +kernel) (pa_cons (pe_ix ix_list (pv 0) (pe_op op_mod (pv 1) (pe_callB call_len_seq (by rfl) T.m_len (by decide +kernel) (pa_cons (pv 0) pa_nil))) (fun _ _ => rfl)) pa_nil)) (pe_op op_pow pe_int pe_int)) (pe_op op_mul (pv 1) pe_int)))) pss_nil)))
  (pss_one (ps_ret (pe_lst (pa_cons (pv 2) (pa_cons (pe_op op_add (pe_op op_mod (pe_op op_add (pe_op op_mul (pv 1) pe_int) (pv 2)) pe_int) pe_int) pa_nil))))))), ?_⟩
    refine ⟨fun σ H' => H' = H ∧ ∃ c : Int, 0 ≤ c ∧ σ = [some (.ref a), some (.int st), some (.int c)], ?_, ?_⟩
    · refine ⟨.int st, rfl, .ref a, rfl, a, _, rfl, .inl hS, _, _, rfl, rfl, _, rfl, ite2 (fun e => ?_) (fun e => ?_)⟩
      · rw [List.length_map] at e
        have e1 : st < (ns.length : Int) := of_decide_eq_true e
        have hi : st.toNat < ns.length := by omega
        refine ⟨.ref a, rfl, .int st, rfl, a, _, st, _, rfl, rfl, hS, atI_of s0 (List.getElem?_eq_getElem hi), _, rfl, rfl, _, abs_nn _, rfl⟩
      · refine ⟨.ref a, rfl, a, _, rfl, .inl hS, _, _, rfl, rfl, _, rfl, ite2 (fun e2 => ?_) (fun e2 => ?_)⟩
        · rw [List.length_map] at e2
          have e3 : 0 < (ns.length : Int) := of_decide_eq_true e2
          have n0 := Int.emod_nonneg st (show (ns.length : Int) ≠ 0 by omega)
          have n1 := Int.emod_lt_of_pos st e3
          have hi : (st % (ns.length : Int)).toNat < ns.length := by omega
          refine ⟨.ref a, rfl, .int st, rfl, .ref a, rfl, a, _, rfl, .inl hS, _, _, rfl, rfl, (by rw [List.length_map]; exact e3), ?_⟩
          rw [List.length_map]
          refine ⟨a, _, _, _, rfl, rfl, hS, atI_of n0 (List.getElem?_eq_getElem hi), _, rfl, 10, 9, rfl, rfl, ⟨by decide, by decide, by decide⟩, _, _, rfl, rfl, (by show (0 : Int) < 10 ^ 9; decide), .int st, rfl, st, 1000003, rfl, rfl, .inl ⟨by omega, by omega⟩, _, _, rfl, rfl, rfl, _, ?_, rfl⟩
          have := Int.emod_nonneg (if ns[(st % (ns.length : Int)).toNat] < 0 then -ns[(st % (ns.length : Int)).toNat] else ns[(st % (ns.length : Int)).toNat]) (show (10 ^ (9 : Int).toNat : Int) ≠ 0 by decide)
          omega
        · exact ⟨rfl, 0, by decide, rfl⟩
    · rintro σ H1 ⟨rfl, c, c0, rfl⟩
      refine ⟨.int c, rfl, .int st, rfl, st, 7919, rfl, rfl, .inl ⟨by omega, by omega⟩, .int c, rfl, _, _, rfl, rfl, _, _, rfl, rfl, (by show (0 : Int) < 998244353; decide), _, _, rfl, rfl, (by show 2 ≤ sizeLine; decide), fun tp nt => ?_⟩
      have g1 := Int.emod_nonneg (st * 7919 + c) (by decide : (998244353 : Int) ≠ 0)
      have g2 := Int.emod_lt_of_pos (st * 7919 + c) (by decide : (0 : Int) < 998244353)
      exact q _ tp (same_upd nt) nt ⟨c, _, upd_same, c0, by omega, by omega⟩
theorem ok_dig {f : Addr} {fd : FuncData} {k : Nat} (F : Fun K "_law_digit" "_law_digit" sDig f fd) : FnOk P w K mg base CX0 (k + 1) f fd ["tape", "many"] spDig := by
  refine F.ok scDig (fun vs H Q E h => ?_) (fun cdv A outer s H vs Q E hr h => ?_)
  · obtain ⟨tp, m, rfl, _⟩ := h
    rfl
  · obtain ⟨tp, m, rfl, hT, m1, hlog, q⟩ := h
    obtain ⟨b, c, h1, b0, c0, c1⟩ := id hT
    refine ⟨_, (pss_cons (ps_if (pt_cmpR op_gt (pe_ix ix_list (pv 0) pe_int (fun _ _ => rfl)) pe_int (nomark _))
  (pss_cons (ps_set (i := 2) scDig.nd rfl (Or.inl rfl) (pe_op op_mod (pe_ix ix_list (pv 0) pe_int (fun _ _ => rfl)) (pv 1)))
  (pss_cons (ps_asg (pe_op op_fdivW (pe_ix ix_list (pv 0) pe_int (fun _ _ => rfl)) (pv 1)) (pg_sub (pv 0) pe_int set_list))
  (pss_one (ps_ret (pv 2))))) pss_nil)
  (pss_cons (ps_asg (pe_op op_mod (pe_op op_add (pe_op op_mul (pe_ix ix_list (pv 0) pe_int (fun _ _ => rfl)) pe_int) pe_int) pe_int) (pg_sub (pv 0) pe_int set_list))
  (pss_cons (ps_set (i := 3) scDig.nd rfl (Or.inl rfl) (pe_op op_mod (pe_op op_mul (pe_ix ix_list (pv 0) pe_int (fun _ _ => rfl)) pe_int) pe_int))
  (pss_one (ps_ret (pe_op op_mod (pe_op op_add (pe_op op_mul (pe_op op_mod (pe_op op_mul (pe_ix ix_list (pv 0) pe_int (fun _ _ => rfl)) (pe_ix ix_list (pv 0) pe_int (fun _ _ => rfl))) pe_int) pe_int) (pv 3)) (pv 1))))))), ?_⟩
    have q2 : ∀ (b' c' d : Int), 0 ≤ b' → 0 ≤ c' → c' ≤ 2147483647 → 0 ≤ d → d < m → Q (.int d) (upd H tp (.lst [.int b', .int c'])) := fun b' c' d x1 x2 x3 x4 x5 =>
      q _ _ ⟨fun a o n e => by rw [upd_ne n]; exact e, b', c', upd_same, x1, x2, x3⟩ x4 x5
    refine ⟨.ref tp, rfl, tp, _, 0, _, rfl, rfl, .inl (.inl h1), rfl, b, 0, rfl, rfl, _, rfl, ite2 (fun e => ?_) (fun e => ?_)⟩
    · refine ⟨.ref tp, rfl, tp, _, 0, _, rfl, rfl, .inl (.inl h1), rfl, .int m, rfl, b, m, rfl, rfl, (by show 0 < m; omega), ?_⟩
      refine ⟨.ref tp, rfl, tp, _, 0, _, rfl, rfl, .inl (.inl h1), rfl, .int m, rfl, b, m, rfl, rfl, ⟨by omega, hlog⟩, .ref tp, rfl, tp, _, 0, 0, rfl, rfl, h1, rfl, ?_⟩
      exact ⟨.int (b % m), rfl, q2 (b / m) c _ (Int.ediv_nonneg b0 (by omega)) c0 c1 (Int.emod_nonneg _ (by omega)) (Int.emod_lt_of_pos _ (by omega))⟩
    · refine ⟨.ref tp, rfl, tp, _, 1, _, rfl, rfl, .inl (.inl h1), rfl, c, 48271, rfl, rfl, .inl ⟨by omega, by omega⟩, _, _, rfl, rfl, _, _, rfl, rfl, (by show (0 : Int) < 2147483647; decide), .ref tp, rfl, tp, _, 1, 1, rfl, rfl, h1, rfl, ?_⟩
      have n1 := Int.emod_nonneg (c * 48271 + 11) (by decide : (2147483647 : Int) ≠ 0)
      have n2 := Int.emod_lt_of_pos (c * 48271 + 11) (by decide : (0 : Int) < 2147483647)
      generalize ec : (c * 48271 + 11) % 2147483647 = c' at n1 n2
      refine ⟨.ref tp, rfl, tp, _, 1, _, rfl, rfl, .inl (.inl upd_same), rfl, c', 40692, by rw [← ec], rfl, .inl ⟨by omega, by omega⟩, _, _, rfl, rfl, (by show (0 : Int) < 2147483399; decide), ?_⟩
      have k1 := Int.emod_nonneg (c' * c') (by decide : (2147483629 : Int) ≠ 0)
      have k2 := Int.emod_lt_of_pos (c' * c') (by decide : (0 : Int) < 2147483629)
      refine ⟨.ref tp, rfl, tp, _, 1, _, rfl, rfl, .inl (.inl upd_same), rfl, .ref tp, rfl, tp, _, 1, _, rfl, rfl, .inl (.inl upd_same), rfl, c', c', by rw [← ec], by rw [← ec], .inl ⟨by omega, by omega⟩, _, _, rfl, rfl, (by show (0 : Int) < 2147483629; decide), _, 2147483399, rfl, rfl, .inl ⟨by omega, by omega⟩, _, rfl, _, _, rfl, rfl, .int m, rfl, _, m, rfl, rfl, (by show 0 < m; omega), ?_⟩
      have z := q2 b c' ((c' * c' % 2147483629 * 2147483399 + c' * 40692 % 2147483399) % m) b0 n1 (by omega) (Int.emod_nonneg _ (by omega)) (Int.emod_lt_of_pos _ (by omega))
      rw [← ec] at z ⊢
      exact z
end
end Rd

set_option Elab.async false
set_option linter.all false
set_option maxRecDepth 100000
set_option maxHeartbeats 4000000
namespace Rd
open PySem PySem.Spec PyProof.Rows L2 Dt
abbrev sWis : Stmt := topS 28
abbrev nWis : List Str := ["tape", "many", "hues", "most", "size", "left", "places", "every", "place", "longer", "row", "count", "rows", "k", "hue"]
theorem scWis : FnScope nWis ["tape", "many", "hues", "most"] (defScope sWis) := ⟨rfl, rfl, rfl, by decide +kernel, rfl, by decide +kernel, by decide +kernel⟩
def spWis : Sp := fun vs H Q _ => ∃ (tp : Addr) (many hues most : Int), vs = [.ref tp, .int many, .int hues, .int most] ∧ Tape H tp ∧ 1 ≤ many ∧ many ≤ 6 ∧ 2 ≤ hues ∧ hues ≤ 4 ∧ 1 ≤ most ∧ most ≤ 100 ∧
  ∀ H' wa wd, Taped tp H H' → IsWish H' wa wd → Good many hues wd → Neat wd → Q (.ref wa) H'
structure TxtW (P : Program) (w : World) (K : PySem.W.Frag) (mg : Str → Option Value) (base : Heap) : Prop where
  m_range : mg "range" = none
  m_list : mg "list" = none
  m_min : mg "min" = none
  m_len : mg "len" = none
  m_sorted : mg "sorted" = none
  m_tuple : mg "tuple" = none
  c__law_digit : Cal P w K mg base 1 "_law_digit" ["tape", "many"] spDig
theorem pow64 {h s : Nat} (h4 : h ≤ 4) (s3 : s ≤ 3) : h ^ s ≤ 64 := Nat.le_trans (Nat.pow_le_pow_left h4 s) (Nat.le_trans (Nat.pow_le_pow_right (by decide) s3) (by decide))
section
variable {P : Program} {w : World} {K : PySem.W.Frag} {mg : Str → Option Value} {base : Heap}
set_option maxHeartbeats 16000000 in
theorem ok_wis {f : Addr} {fd : FuncData} {k : Nat} (F : Fun K "_law_wish" "_law_wish" sWis f fd) (T : TxtW P w K mg base) : FnOk P w K mg base CX0 (k + 2) f fd ["tape", "many", "hues", "most"] spWis := by
  refine F.ok scWis (fun vs H Q E h => ?_) (fun cdv A outer s H vs Q E hr h => ?_)
  · obtain ⟨tp, many, hues, most, rfl, _⟩ := h
    rfl
  · obtain ⟨tp, many, hues, most, rfl, hT, m1, m6, h2, h4, o1, o100, q⟩ := h
    refine ⟨_, (pss_cons (ps_set (i := 4) scWis.nd rfl (Or.inl rfl) (pe_callB (call_min2 rfl) (by rfl) T.m_min (by decide +kernel) (pa_cons (pv 1) (pa_cons (pe_op op_add pe_int (pe_cal T.c__law_digit (hr.mono (by omega)) (by rfl) (pa_cons (pv 0) (pa_cons pe_int pa_nil)))) pa_nil))))
  (pss_cons (ps_set (i := 5) scWis.nd rfl (Or.inr rfl) (pe_listRg rfl (by rfl) T.m_list (prg_1 (by rfl) T.m_range (pv 1))))
  (pss_cons (ps_set (i := 6) scWis.nd rfl (Or.inl rfl) (pe_callB cr_sorted (by rfl) T.m_sorted (by decide +kernel) (pa_cons (pe_lc (te := tBM K "list" rPopAt (tVar 5) (tCons (tCall spDig [] E0 (tCons (tVar 0) (tCons (tCB (rLen K) (tCons (tVar 5) tNil)) tNil))) tNil)) (own := [("k", 13)]) rfl scWis.nd  (pi_range1 (by rfl) T.m_range (pa_cons (pv 4) pa_nil)) (blkOk_by (own := [("k", 13)]) (N := nWis) (sc := defScope sWis) (by decide +kernel))
   (fun _ _ _ _ _ => (pg_name (i := 13) scWis.nd rfl (Or.inl rfl))) (fun _ _ _ _ _ => pts_nil) (fun _ _ _ _ _ => (pe_bm PySem.F.plainAttrs_list PySem.F.slot_list_pop PySem.F.type_list_pop mt_popAt (pv 5) (pa_cons (pe_cal T.c__law_digit (hr.mono (by omega)) (by rfl) (pa_cons (pv 0) (pa_cons (pe_callB call_len_seq (by rfl) T.m_len (by decide +kernel) (pa_cons (pv 5) pa_nil)) pa_nil))) pa_nil)))) pa_nil)))
  (pss_cons (ps_set (i := 7) scWis.nd rfl (Or.inr rfl) (pe_lst (pa_cons (pe_tup pa_nil) pa_nil)))
  (pss_cons (ps_for PassesOwn.never rfl (pi_list (pv 6)) (pg_name (i := 8) scWis.nd rfl (Or.inl rfl))
  (pss_cons (ps_set (i := 9) scWis.nd rfl (Or.inl rfl) (pe_lst pa_nil))
  (pss_cons (ps_for PassesOwn.never rfl (pi_list (pv 7)) (pg_name (i := 10) scWis.nd rfl (Or.inr rfl))
  (pss_one (ps_expr (pe_bm PySem.F.plainAttrs_list PySem.F.slot_list_extend PySem.F.type_list_extend mt_extend (pv 9) (pa_cons (pe_lc (te := tOp (rCatA K) (tVar 10) (tTup (tCons (tVar 14) tNil))) (own := [("hue", 14)]) rfl scWis.nd  (pi_range1 (by rfl) T.m_range (pa_cons (pv 2) pa_nil)) (blkOk_by (own := [("hue", 14)]) (N := nWis) (sc := defScope sWis) (by decide +kernel))
   (fun _ _ _ _ _ => (pg_name (i := 14) scWis.nd rfl (Or.inl rfl))) (fun _ _ _ _ _ => pts_nil) (fun _ _ _ _ _ => (pe_op op_catA (pv 10) (pe_tup (pa_cons (pv 14) pa_nil))))) pa_nil)))))
  (pss_one (ps_set (i := 7) scWis.nd rfl (Or.inr rfl) (pv 9))))))
  (pss_cons (ps_set (i := 11) scWis.nd rfl (Or.inl rfl) (pe_callB (call_min2 rfl) (by rfl) T.m_min (by decide +kernel) (pa_cons (pe_callB call_len_seq (by rfl) T.m_len (by decide +kernel) (pa_cons (pv 7) pa_nil)) (pa_cons (pe_op op_add pe_int (pe_cal T.c__law_digit (hr.mono (by omega)) (by rfl) (pa_cons (pv 0) (pa_cons (pv 3) pa_nil)))) pa_nil))))
  (C8.pss_cut (ps_if (pt_cmpR op_eq (pe_cal T.c__law_digit (hr.mono (by omega)) (by rfl) (pa_cons (pv 0) (pa_cons pe_int pa_nil))) pe_int (nomark _))
  (pss_one (ps_set (i := 11) scWis.nd rfl (Or.inl rfl) (pe_op op_add pe_int (pe_cal T.c__law_digit (hr.mono (by omega)) (by rfl) (pa_cons (pv 0) (pa_cons (pe_callB call_len_seq (by rfl) T.m_len (by decide +kernel) (pa_cons (pv 7) pa_nil)) pa_nil)))))) pss_nil)
  (pss_cons (ps_setLc (i := 12) (te := tBM K "list" rPopAt (tVar 7) (tCons (tCall spDig [] E0 (tCons (tVar 0) (tCons (tCB (rLen K) (tCons (tVar 7) tNil)) tNil))) tNil)) (own := [("k", 13)]) rfl scWis.nd rfl rfl (sw_true rfl rfl rfl (by decide +kernel)) (pi_range1 (by rfl) T.m_range (pa_cons (pv 11) pa_nil)) (blkOk_by (own := [("k", 13)]) (N := nWis) (sc := defScope sWis) (by decide +kernel))
   (fun _ _ _ _ _ => (pg_name (i := 13) scWis.nd rfl (Or.inl rfl))) (fun _ _ _ _ _ => pts_nil) (fun _ _ _ _ _ => (pe_bm PySem.F.plainAttrs_list PySem.F.slot_list_pop PySem.F.type_list_pop mt_popAt (pv 7) (pa_cons (pe_cal T.c__law_digit (hr.mono (by omega)) (by rfl) (pa_cons (pv 0) (pa_cons (pe_callB call_len_seq (by rfl) T.m_len (by decide +kernel) (pa_cons (pv 7) pa_nil)) pa_nil))) pa_nil))))
  (pss_one (ps_ret (pe_tup (pa_cons (pe_callTy call_tuple_of (by rfl) T.m_tuple (by decide +kernel) (pa_cons (pv 6) pa_nil)) (pa_cons (pe_callTy call_tuple_of (by rfl) T.m_tuple (by decide +kernel) (pa_cons (pe_callB Tt.cr_sortedT (by rfl) T.m_sorted (by decide +kernel) (pa_cons (pv 12) pa_nil)) pa_nil)) pa_nil))))))))))))), ?_⟩
    -- size
    refine ⟨.int many, rfl, .ref tp, rfl, tp, 3, rfl, hT, by decide, by decide, fun H1 sz D1 z0 z1 => ⟨1, sz, rfl, rfl, many, 1 + sz, rfl, ?_⟩⟩
    obtain ⟨u1, u3, um⟩ : 1 ≤ (if 1 + sz < many then 1 + sz else many) ∧ (if 1 + sz < many then 1 + sz else many) ≤ 3 ∧ (if 1 + sz < many then 1 + sz else many) ≤ many := by split <;> omega
    generalize (if 1 + sz < many then 1 + sz else many) = size at u1 u3 um
    -- left
    refine ⟨.int many, rfl, many, rfl, ⟨by omega, by omega, by omega, by omega, by omega⟩, fun l nl => ?_⟩
    have nlt := D1.2.new nl
    have nl0 : H l = none := D1.free nl
    have E3 := D1.put (o := .lst (rgV 0 many)) nl0 nlt
    have hl3 : upd H1 l (.lst (rgV 0 many)) l = some (.lst (rgV 0 many)) := upd_same
    generalize upd H1 l (.lst (rgV 0 many)) = H3 at E3 hl3
    -- places
    refine ⟨.int size, rfl, size, rfl, by omega, by omega, fun D nD => ?_⟩
    have nDt := E3.2.new nD
    have nD0 : H D = none := E3.free nD
    have nlD : l ≠ D := ne_of_none hl3 nD
    refine lc_range (lo := 0) (n := size.toNat) (fun i H5 => ∃ acc ls, Pops V.int tp H l D (rngI many) i H5 acc ls) ⟨[], rngI many, E3.put nD0 nDt, ?_, upd_same, rfl, by simp, List.Perm.refl _⟩ (fun i H5 hi p => ?_) (fun H5 p => ?_)
    · rw [upd_ne nlD, hl3, rgV_eq]
    · obtain ⟨acc, ls, p⟩ := p
      have ll := p.ll
      have rl := rngI_len many
      refine ⟨rfl, yes_if ?_⟩
      refine ⟨.ref l, rfl, .inl ⟨rfl, _, .inl (.inl p.hL)⟩, .ref tp, rfl, .ref l, rfl, l, _, rfl, .inl (.inl (.inl p.hL)), tp, _, rfl, p.fr.2, by rw [List.length_map]; omega, by rw [List.length_map]; exact log_small (by omega) (by omega), fun H6 d D6 d0 d1 => ?_⟩
      rw [List.length_map] at d1
      obtain ⟨y, y1, y2, y3, acc', y4, y5, acc2, ls2, y6⟩ := pop_step nl0 nlt nD0 nDt nlD (by omega) p D6 d0 d1
      exact ⟨l, ls.map V.int, d, d.toNat, y, rfl, rfl, y2, by omega, by omega, y3, y1, acc', y4, y5, acc2, ls2, y6⟩
    · obtain ⟨acc, ls, ⟨E5, hL, hD, la, ll, pm⟩⟩ := p
      refine ⟨D, acc, rfl, .inl (.inl hD), by omega, fun ps lp perm rising nlp => ?_⟩
      have anod : acc.Nodup := (List.nodup_append.mp (pm.nodup_iff.mpr (rngI_nodup many))).1
      have psn : ps.Nodup := perm.nodup_iff.mpr anod
      have accb : ∀ z ∈ acc, 0 ≤ z ∧ z < many := fun z hz => rngI_mem (pm.mem_iff.mp (List.mem_append_left _ hz))
      have psb : ∀ z ∈ ps, 0 ≤ z ∧ z < many := fun z hz => accb z (perm.mem_iff.mp hz)
      have psl : ps.length = size.toNat := by rw [perm.length_eq, la]
      have prise := rise_of rising psn
      have nlpt := E5.2.new nlp
      have nlp0 : H lp = none := E5.free nlp
      have E6 := E5.put (o := .lst (ps.map V.int)) nlp0 nlpt
      have hp6 : upd H5 lp (.lst (ps.map V.int)) lp = some (.lst (ps.map V.int)) := upd_same
      generalize upd H5 lp (.lst (ps.map V.int)) = H6 at E6 hp6
      clear hL hD la ll pm accb perm nD nDt nD0 nlD hl3
      -- every
      refine ⟨(by show 0 ≤ sizeLine; decide), fun t nt => ⟨(by show 1 ≤ sizeLine; decide), fun l1 nl1 => ?_⟩⟩
      have st := same_upd (o := .tup []) nt
      have sl := same_upd (o := .lst [.ref t]) nl1
      have hn6 : ∀ b, H6 b = none → H b = none := fun b e => E6.free e
      refine ⟨.ref lp, rfl, lp, rfl, ⟨_, .inl (.inl ((st.trans sl) _ _ hp6))⟩, for_list (K := K) (a := lp) (xs := ps.map V.int) (fun i σ H3 => Same H6 H3 ∧ ∃ l0, H6 l0 = none ∧ IsFills H3 l0 (fillL hues.toNat i) ∧ ∃ y8 y9 y10, σ = [some (.ref tp), some (.int many), some (.int hues), some (.int most), some (.int size), some (.ref l), some (.ref lp), some (.ref l0), y8, y9, y10, none, none, none, none]) ⟨st.trans sl, l1, st.free nl1, ⟨[t], upd_same, .cons (sl _ _ upd_same) .nil⟩, none, none, none, rfl⟩ (fun i σ H3 _ p => .inl (.inl (p.1 _ _ hp6))) (fun i x σ H3 hx p => ?_) (fun σ H3 p => ?_)⟩
      · obtain ⟨sm, l0, nl0', ⟨as, hl, pr⟩, y8, y9, y10, rfl⟩ := p
        have hi : i < ps.length := by
          have := (List.getElem?_eq_some_iff.mp hx).1
          rw [List.length_map] at this
          exact this
        have flen := fill_len hues.toNat i
        have p4 : hues.toNat ^ i ≤ 4096 := pow_le_4096 (by omega) (by omega)
        have alen := pairedLen pr
        refine ⟨(by show 0 ≤ sizeLine; decide), fun L nL => ?_⟩
        have nLH : H6 L = none := sm.free nL
        refine ⟨.ref l0, rfl, l0, rfl, ⟨_, .inl (.inl (same_upd nL _ _ hl))⟩, for_list (K := K) (a := l0) (xs := as.map V.ref) (fun i2 σ H5 => Same H3 H5 ∧ IsFills H5 L (((fillL hues.toNat i).take i2).flatMap (longer hues.toNat)) ∧ ∃ y8 y10, σ = [some (.ref tp), some (.int many), some (.int hues), some (.int most), some (.int size), some (.ref l), some (.ref lp), some (.ref l0), y8, some (.ref L), y10, none, none, none, none]) ⟨same_upd nL, ⟨[], upd_same, .nil⟩, _, _, rfl⟩ (fun i2 σ H5 _ pp => .inl (.inl (pp.1 _ _ hl))) (fun i2 x σ H5 hx pp => ?_) (fun σ H5 pp => ?_)⟩
        · obtain ⟨a, ea, rfl⟩ := map_get hx
          obtain ⟨fl, hfl, isr⟩ := pairedGetL pr ea
          obtain ⟨s5, ⟨bs, hL, pb⟩, z2, z4, rfl⟩ := pp
          have blen := pairedLen pb
          refine ⟨.ref L, rfl, .inl ⟨rfl, _, .inl (.inl hL)⟩, .int hues, rfl, hues, rfl, by omega, by omega, fun D nD => lc_range (lo := 0) (n := hues.toNat) (fun j H6 => Same H5 H6 ∧ IsFills H6 D ((longer hues.toNat fl).take j)) ⟨same_upd nD, [], upd_same, .nil⟩ (fun j H6 hj pp => ?_) (fun H6 pp => ?_)⟩
          · obtain ⟨s6, cs, hb, pc⟩ := pp
            have clen := pairedLen pc
            have fin : ∀ (H7 : Hp) (r : Addr), Same H6 H7 → H7 r = some (.tup ((fl ++ [(j : Int)]).map V.int)) → ∃ acc, H7 D = some (.lst acc) ∧ acc.length < sizeLine ∧ (Same H5 (upd H7 D (.lst (acc ++ [.ref r]))) ∧ IsFills (upd H7 D (.lst (acc ++ [.ref r]))) D ((longer hues.toNat fl).take (j + 1))) := fun H7 r s7 hr7 => by
              have hD7 := s7 _ _ hb
              have tu : Tups H7 (upd H7 D (.lst (cs.map V.ref ++ [.ref r]))) := tups_upd fun xs z => by rw [hD7] at z; cases z
              refine ⟨_, hD7, ?_, fun b o e => ?_, cs ++ [r], ?_, ?_⟩
              · rw [List.length_map, clen, List.length_take, longer_len]
                exact small1000 (by omega)
              · rw [upd_ne (ne_of_none e nD)]
                exact s7 _ _ (s6 b o e)
              · rw [upd_same, List.map_append]
                rfl
              · rw [take_snoc (longer_at fl hj)]
                exact pairedSnoc (pairedMap (fun _ _ e => tu _ _ (s7 _ _ e)) pc) (tu _ _ hr7)
            refine ⟨rfl, yes_if ?_⟩
            refine ⟨.ref a, rfl, .int (0 + (j : Int)), rfl, (by show 1 ≤ sizeLine; decide), fun t nt => ?_⟩
            have sT := same_upd (o := .tup [.int (0 + (j : Int))]) nt
            have ha : upd H6 t (.tup [.int (0 + (j : Int))]) a = some (.tup (fl.map V.int)) := sT _ _ (s6 _ _ (s5 _ _ isr))
            have e0 : (0 : Int) + (j : Int) = j := Int.zero_add _
            have flen2 := (fill_good (List.mem_of_getElem? hfl)).1
            refine ⟨a, t, _, _, rfl, rfl, .inl (.inl ha), .inl (.inl upd_same), ?_, fun z => ?_, (fun _ z => nomatch z), fun z _ p np => ?_⟩
            · rw [List.length_map, flen2]
              exact Nat.le_of_lt (small1000 (by show i + 1 ≤ 1000; omega))
            · have z2 : fl = [] := List.map_eq_nil_iff.mp z
              refine fin _ t sT ?_
              rw [upd_same, z2, e0]
              rfl
            · have sp := same_upd (o := .tup (fl.map V.int ++ [.int (0 + (j : Int))])) np
              refine fin _ p (sT.trans sp) ?_
              rw [upd_same, e0, List.map_append]
              rfl
          · obtain ⟨s6, cs, hb, pc⟩ := pp
            rw [List.take_of_length_le (by rw [longer_len]; exact Nat.le_refl _)] at pc
            have hL6 := s6 _ _ hL
            have clen := pairedLen pc
            have tu : Tups H6 (upd H6 L (.lst (bs.map V.ref ++ cs.map V.ref))) := tups_upd fun xs z => by rw [hL6] at z; cases z
            refine ⟨L, D, _, _, rfl, rfl, hL6, hb, ?_, fun b o e => ?_, ⟨bs ++ cs, ?_, ?_⟩, _, _, rfl⟩
            · rw [List.length_map, List.length_map, blen, clen, flat_len, List.length_take, longer_len, flen]
              have : min i2 (hues.toNat ^ i) * hues.toNat ≤ 4096 * 4 := Nat.mul_le_mul (by omega) (by omega)
              exact Nat.le_trans (show _ ≤ 20000 by omega) (by decide)
            · rw [upd_ne (ne_of_none e nL)]
              exact s6 _ _ (s5 b o e)
            · rw [upd_same, List.map_append]
            · rw [take_snoc hfl, List.flatMap_append]
              refine pairedApp (pairedMap (fun _ _ e => tu _ _ (s6 _ _ e)) pb) ?_
              have e : [fl].flatMap (longer hues.toNat) = longer hues.toNat fl := by simp
              rw [e]
              exact pairedMap (fun _ _ e => tu _ _ e) pc
        · obtain ⟨s5, fs5, z2, z4, rfl⟩ := pp
          refine ⟨.ref L, rfl, sm.trans s5, L, nLH, ?_, _, _, _, rfl⟩
          rw [List.length_map, alen, List.take_length] at fs5
          exact fs5
      · obtain ⟨sm, le, nle6, ⟨as, hle, pr⟩, y8, y9, y10, rfl⟩ := p
        rw [List.length_map, psl] at pr
        have E7 := E6.same sm
        have hp7 := sm _ _ hp6
        have nle0 := hn6 _ nle6
        have nlet : le ≠ tp := E6.2.new nle6
        have nlpe : lp ≠ le := ne_of_none hp6 nle6
        obtain ⟨zs0, ez1, ez2, hzs⟩ := pairedZip pr
        have zlen : zs0.length = hues.toNat ^ size.toNat := by
          have := congrArg List.length ez2
          rw [List.length_map, fill_len] at this
          exact this
        have z64 : zs0.length ≤ 64 := by rw [zlen]; exact pow64 (by omega) (by omega)
        have z1p : 1 ≤ zs0.length := by rw [zlen]; exact Nat.pow_pos (by omega)
        have asl : as.length = zs0.length := by rw [← ez1, List.length_map]
        -- count
        refine ⟨.ref le, rfl, le, _, rfl, .inl (.inl (.inl hle)), .ref tp, rfl, .int most, rfl, tp, most, rfl, E7.2, o1, log_small (by omega) (by omega), fun H8 ct D8 c0 c1 => ⟨1, ct, rfl, rfl, _, 1 + ct, rfl, ?_⟩⟩
        rw [List.length_map, asl]
        obtain ⟨v1, v2⟩ : 1 ≤ (if 1 + ct < (zs0.length : Int) then 1 + ct else (zs0.length : Int)) ∧ (if 1 + ct < (zs0.length : Int) then 1 + ct else (zs0.length : Int)) ≤ zs0.length := by split <;> omega
        generalize (if 1 + ct < (zs0.length : Int) then 1 + ct else (zs0.length : Int)) = cnt0 at v1 v2
        have E8 := E7.trans D8
        have hle8 := D8.1 le _ nlet hle
        have hp8 := D8.1 lp _ nlpt hp7
        have tu8 : Tups H3 H8 := D8.tups E7.2
        refine ⟨fun σ Hc => Taped tp H Hc ∧ Hc le = some (.lst (as.map V.ref)) ∧ Hc lp = some (.lst (ps.map V.int)) ∧ Tups H3 Hc ∧ ∃ cnt, 1 ≤ cnt ∧ cnt ≤ (zs0.length : Int) ∧ ∃ y8 y9 y10, σ = [some (.ref tp), some (.int many), some (.int hues), some (.int most), some (.int size), some (.ref l), some (.ref lp), some (.ref le), y8, y9, y10, some (.int cnt), none, none, none], ?_, ?_⟩
        · refine ⟨.ref tp, rfl, tp, 12, rfl, E8.2, by decide, by decide, fun H9 d D9 d0 d1 => ⟨rfl, _, rfl, ite2 (fun _ => ?_) (fun _ => ?_)⟩⟩
          · have E9 := E8.trans D9
            have hle9 := D9.1 le _ nlet hle8
            refine ⟨.ref tp, rfl, .ref le, rfl, le, _, rfl, .inl (.inl (.inl hle9)), tp, _, rfl, E9.2, by rw [List.length_map]; omega, by rw [List.length_map]; exact log_small (by omega) (by omega), fun H10 d2 D10 e0 e1 => ⟨1, d2, rfl, rfl, ?_⟩⟩
            rw [List.length_map] at e1
            exact ⟨E9.trans D10, D10.1 le _ nlet hle9, D10.1 lp _ nlpt (D9.1 lp _ nlpt hp8), tu8.trans ((D9.tups E8.2).trans (D10.tups E9.2)), 1 + d2, by omega, by omega, _, _, _, rfl⟩
          · exact ⟨E8.trans D9, D9.1 le _ nlet hle8, D9.1 lp _ nlpt hp8, tu8.trans (D9.tups E8.2), cnt0, v1, v2, _, _, _, rfl⟩
        · rintro σ Hc ⟨Ec, hlec, hpc, tuc, cnt, n1, n2, w8, w9, w10, rfl⟩
          -- rows
          refine ⟨.int cnt, rfl, cnt, rfl, by omega, by omega, fun D nD => ?_⟩
          have nDt := Ec.2.new nD
          have nD0 : H D = none := Ec.free nD
          have nlD : le ≠ D := ne_of_none hlec nD
          refine lc_range (lo := 0) (n := cnt.toNat) (fun i H5 => (∃ acc ls, Pops (fun z : Addr × List Int => V.ref z.1) tp H le D zs0 i H5 acc ls) ∧ Tups H3 H5 ∧ H5 lp = some (.lst (ps.map V.int))) ⟨⟨[], zs0, Ec.put nD0 nDt, ?_, upd_same, rfl, by simp, List.Perm.refl _⟩, tuc.trans (tups_same (same_upd nD)), same_upd nD _ _ hpc⟩ (fun i H5 hi p => ?_) (fun H5 p => ?_)
          · rw [upd_ne nlD, hlec, ← ez1, List.map_map]
            rfl
          · obtain ⟨⟨acc, ls, p⟩, tu5, hp5⟩ := p
            have ll := p.ll
            refine ⟨rfl, yes_if ?_⟩
            refine ⟨.ref le, rfl, .inl ⟨rfl, _, .inl (.inl p.hL)⟩, .ref tp, rfl, .ref le, rfl, le, _, rfl, .inl (.inl (.inl p.hL)), tp, _, rfl, p.fr.2, by rw [List.length_map]; omega, by rw [List.length_map]; exact log_small (by omega) (by omega), fun H6' d D6 d0 d1 => ?_⟩
            rw [List.length_map] at d1
            obtain ⟨y, y1, y2, y3, acc', y4, y5, acc2, ls2, y6⟩ := pop_step nle0 nlet nD0 nDt nlD (by omega) p D6 d0 d1
            have nlpD : lp ≠ D := ne_of_none hpc nD
            have hD6 := y4
            refine ⟨le, ls.map _, d, d.toNat, y, rfl, rfl, y2, by omega, by omega, y3, y1, acc', y4, y5, ⟨acc2, ls2, y6⟩, ?_, ?_⟩
            · refine tu5.trans ((D6.tups p.fr.2).trans ((tups_upd fun xs z => by rw [y2] at z; cases z).trans (tups_upd fun xs z => by rw [y4] at z; cases z)))
            · rw [upd_ne nlpD, upd_ne nlpe]
              exact D6.1 lp _ nlpt hp5
          · obtain ⟨⟨acc, ls, p⟩, tu5, hp5⟩ := p
            have rowsAt : ∀ z ∈ acc, IsRow H5 z.1 z.2 := fun z hz => tu5 _ _ (hzs z (p.pm.mem_iff.mp (List.mem_append_left _ hz)))
            have accIn : ∀ z ∈ acc, z.2 ∈ fillL hues.toNat size.toNat := fun z hz => by
              rw [← ez2]
              exact List.mem_map.mpr ⟨z, p.pm.mem_iff.mp (List.mem_append_left _ hz), rfl⟩
            have accNd : (acc.map (·.2)).Nodup := by
              have a1 : ((acc ++ ls).map (·.2)).Perm (zs0.map (·.2)) := p.pm.map _
              rw [ez2, List.map_append] at a1
              exact (List.nodup_append.mp (a1.nodup_iff.mpr (fill_nodup _ _))).1
            -- the wish
            refine ⟨.ref lp, rfl, lp, _, rfl, .inl ⟨.inl (.inl hp5), fun t1 nt1 => ?_⟩⟩
            have q1 := same_upd (o := .tup (ps.map V.int)) nt1
            generalize hH6 : upd H5 t1 (.tup (ps.map V.int)) = H7 at q1
            have ht1 : H7 t1 = some (.tup (ps.map V.int)) := by rw [← hH6]; exact upd_same
            have hD7 := q1 _ _ p.hD
            have rows7 : ∀ z ∈ acc, IsRow H7 z.1 z.2 := fun z hz => q1 _ _ (rowsAt z hz)
            have eqr : acc.map (fun z => rowAt H7 z.1) = acc.map (·.2) := List.map_congr_left fun z hz => rowAt_of (rows7 z hz)
            refine ⟨.ref D, rfl, D, acc.map (·.1), rowAt H7, ps.length, hues, rfl, .inl (.inl (by rw [hD7, List.map_map]; rfl)), by omega, fun t ht => ?_, fun ts' so pm pw nso => ?_⟩
            · obtain ⟨z, hz, rfl⟩ := List.mem_map.mp ht
              have fg := fill_good (accIn z hz)
              rw [rowAt_of (rows7 z hz)]
              exact ⟨rows7 z hz, by omega, fun h hh => by have := fg.2 h hh; omega⟩
            have q2 := same_upd (o := .lst (ts'.map V.ref)) nso
            refine ⟨so, _, rfl, .inl ⟨.inl (.inl upd_same), fun t2 nt2 => ?_⟩⟩
            have q3 := q2.trans (same_upd (o := .tup (ts'.map V.ref)) nt2)
            refine ⟨(by show 2 ≤ sizeLine; decide), fun wa nwa => ?_⟩
            have q4 := same_upd (o := .tup [.ref t1, .ref t2]) nwa
            have q5 := q3.trans q4
            have permR : (ts'.map (rowAt H7)).Perm (acc.map (·.2)) := by
              have := pm.map (rowAt H7)
              rw [List.map_map] at this
              rw [← eqr]
              exact this
            have hts : ∀ t ∈ ts', IsRow H7 t (rowAt H7 t) := fun t ht => by
              obtain ⟨z, hz, rfl⟩ := List.mem_map.mp (pm.mem_iff.mp ht)
              rw [rowAt_of (rows7 z hz)]
              exact rows7 z hz
            have la := p.la
            have lr : (ts'.map (rowAt H7)).length = cnt.toNat := by rw [permR.length_eq, List.length_map, la]
            refine q _ wa (ps, ts'.map (rowAt H7)) ((p.fr.same q1).same q5) ⟨t1, t2, ts', upd_same, q5 _ _ ht1, q4 _ _ upd_same, pairedMap (fun _ _ e => q5 _ _ e) (pairedOf hts)⟩ ⟨?_, ?_, psb, ?_, ?_, fun r hr => ?_⟩ ⟨prise, permR.nodup_iff.mpr accNd⟩
            · show 1 ≤ ps.length
              omega
            · show ps.length ≤ 3
              omega
            · show 1 ≤ (ts'.map (rowAt H7)).length
              omega
            · show (ts'.map (rowAt H7)).length ≤ 64
              omega
            · obtain ⟨z, hz, rfl⟩ := List.mem_map.mp (permR.mem_iff.mp hr)
              have fg := fill_good (accIn z hz)
              refine ⟨?_, fun h hh => ?_⟩
              · show z.2.length = ps.length
                omega
              · have := fg.2 h hh
                omega
end
end Rd

set_option Elab.async false
set_option linter.all false
set_option maxRecDepth 100000
set_option maxHeartbeats 4000000
namespace Rd
open PySem PySem.Spec PyProof.Rows L2 Dt
abbrev sSzs : Stmt := topS 29
abbrev nSzs : List Str := ["tape", "small", "some"]
theorem scSzs : FnScope nSzs ["tape", "small"] (defScope sSzs) := ⟨rfl, rfl, rfl, by decide +kernel, rfl, by decide +kernel, by decide +kernel⟩
abbrev sRid : Stmt := topS 30
abbrev nRid : List Str := ["tape", "small", "many", "hues", "wishes", "k"]
theorem scRid : FnScope nRid ["tape", "small"] (defScope sRid) := ⟨rfl, rfl, rfl, by decide +kernel, rfl, by decide +kernel, by decide +kernel⟩
abbrev sTab : Stmt := topS 31
abbrev nTab : List Str := ["tape", "riddle", "most", "found", "place", "k"]
theorem scTab : FnScope nTab ["tape", "riddle", "most"] (defScope sTab) := ⟨rfl, rfl, rfl, by decide +kernel, rfl, by decide +kernel, by decide +kernel⟩
abbrev sOrd : Stmt := topS 32
abbrev nOrd : List Str := ["tape", "many", "left", "k"]
theorem scOrd : FnScope nOrd ["tape", "many"] (defScope sOrd) := ⟨rfl, rfl, rfl, by decide +kernel, rfl, by decide +kernel, by decide +kernel⟩
def szOk (p : Int × Int) : Prop := 1 ≤ p.1 ∧ p.1 ≤ 6 ∧ 2 ≤ p.2 ∧ p.2 ≤ 4 ∧ p.2.toNat ^ p.1.toNat ≤ 256
def szA : List (Int × Int) := [(3, 2), (2, 3), (4, 2), (3, 3), (5, 2), (2, 2), (2, 4), (1, 3), (1, 2), (1, 4), (2, 3), (3, 2)]
def szB : List (Int × Int) := [(6, 2), (4, 3), (3, 4), (5, 3), (4, 4), (5, 2), (3, 3), (4, 2), (2, 4), (6, 2), (1, 2), (5, 2)]
theorem szA_ok : ∀ p ∈ szA, szOk p := by unfold szOk szA; decide
theorem szB_ok : ∀ p ∈ szB, szOk p := by unfold szOk szB; decide
def spSzs : Sp := fun vs H Q _ => ∃ (tp : Addr) (sm : Bool), vs = [.ref tp, .bl sm] ∧ Tape H tp ∧ ∀ H' t many hues, Taped tp H H' → H' t = some (.tup [.int many, .int hues]) → szOk (many, hues) → Q (.ref t) H'
def spRid : Sp := fun vs H Q _ => ∃ (tp : Addr) (sm : Bool), vs = [.ref tp, .bl sm] ∧ Tape H tp ∧
  ∀ H' ri many hues wds, Taped tp H H' → IsRid H' ri many hues wds → GoodR many hues wds → (∀ wd ∈ wds, Neat wd) → szOk (many, hues) → Q (.ref ri) H'
def spTab : Sp := fun vs H Q _ => ∃ (tp ri : Addr) (many hues most : Int) (z : V), vs = [.ref tp, .ref ri, .int most] ∧ Tape H tp ∧ H ri = some (.tup [.int many, .int hues, z]) ∧ 1 ≤ many ∧ many ≤ 6 ∧ 2 ≤ hues ∧ hues ≤ 4 ∧ 1 ≤ most ∧ most ≤ 900 ∧
  ∀ H' ta tb, Taped tp H H' → IsTab (Old H) H' ta tb → GoodT many hues tb → (∀ ds ∈ tb, (ds.length : Int) ≤ most) → Q (.ref ta) H'
def spOrd : Sp := fun vs H Q _ => ∃ (tp : Addr) (n : Int), vs = [.ref tp, .int n] ∧ Tape H tp ∧ 0 ≤ n ∧ n ≤ 20 ∧
  ∀ H' oa ord, Taped tp H H' → H' oa = some (.tup (ord.map V.int)) → GoodO n.toNat ord → ord.Perm (rngI n) → Q (.ref oa) H'
structure TxtR (P : Program) (w : World) (K : PySem.W.Frag) (mg : Str → Option Value) (base : Heap) : Prop extends TxtW P w K mg base where
  c__law_wish : Cal P w K mg base 2 "_law_wish" ["tape", "many", "hues", "most"] spWis
  c__law_sizes : Cal P w K mg base 2 "_law_sizes" ["tape", "small"] spSzs
theorem goodO_of {n : Int} {ord : List Int} (h0 : 0 ≤ n) (p : ord.Perm (rngI n)) : GoodO n.toNat ord := by
  refine ⟨fun z hz => ?_, fun k hk => ?_, ?_⟩
  · have := rngI_mem (p.mem_iff.mp hz)
    omega
  · exact p.mem_iff.mpr (rngI_all (by omega))
  · rw [p.length_eq, rngI_len]
    exact Nat.le_refl _
section
variable {P : Program} {w : World} {K : PySem.W.Frag} {mg : Str → Option Value} {base : Heap}
theorem ok_szs {f : Addr} {fd : FuncData} {k : Nat} (F : Fun K "_law_sizes" "_law_sizes" sSzs f fd) (T : TxtW P w K mg base) : FnOk P w K mg base CX0 (k + 2) f fd ["tape", "small"] spSzs := by
  refine F.ok scSzs (fun vs H Q E h => ?_) (fun cdv A outer s H vs Q E hr h => ?_)
  · obtain ⟨tp, sm, rfl, _⟩ := h
    rfl
  · obtain ⟨tp, sm, rfl, hT, q⟩ := h
    refine ⟨_, (pss_cons (ps_set (i := 2) scSzs.nd rfl (Or.inl rfl) (show PE _ _ (tLst (pairsT szA)) from (pe_lst (pa_cons (pe_tup (pa_cons pe_int (pa_cons pe_int pa_nil))) (pa_cons (pe_tup (pa_cons pe_int (pa_cons pe_int pa_nil))) (pa_cons (pe_tup (pa_cons pe_int (pa_cons pe_int pa_nil))) (pa_cons (pe_tup (pa_cons pe_int (pa_cons pe_int pa_nil))) (pa_cons (pe_tup (pa_cons pe_int (pa_cons pe_int pa_nil))) (pa_cons (pe_tup (pa_cons pe_int (pa_cons pe_int pa_nil))) (pa_cons (pe_tup (pa_cons pe_int (pa_cons pe_int pa_nil))) (pa_cons (pe_tup (pa_cons pe_int (pa_cons pe_int pa_nil))) (pa_cons (pe_tup (pa_cons pe_int (pa_cons pe_int pa_nil))) (pa_cons (pe_tup (pa_cons pe_int (pa_cons pe_int pa_nil))) (pa_cons (pe_tup (pa_cons pe_int (pa_cons pe_int pa_nil))) (pa_cons (pe_tup (pa_cons pe_int (pa_cons pe_int pa_nil))) pa_nil)))))))))))))))
  (C8.pss_cut (ps_if (pt_not (pt_val (pv 1)))
  (pss_one (ps_set (i := 2) scSzs.nd rfl (Or.inl rfl) (show PE _ _ (tLst (pairsT szB)) from (pe_lst (pa_cons (pe_tup (pa_cons pe_int (pa_cons pe_int pa_nil))) (pa_cons (pe_tup (pa_cons pe_int (pa_cons pe_int pa_nil))) (pa_cons (pe_tup (pa_cons pe_int (pa_cons pe_int pa_nil))) (pa_cons (pe_tup (pa_cons pe_int (pa_cons pe_int pa_nil))) (pa_cons (pe_tup (pa_cons pe_int (pa_cons pe_int pa_nil))) (pa_cons (pe_tup (pa_cons pe_int (pa_cons pe_int pa_nil))) (pa_cons (pe_tup (pa_cons pe_int (pa_cons pe_int pa_nil))) (pa_cons (pe_tup (pa_cons pe_int (pa_cons pe_int pa_nil))) (pa_cons (pe_tup (pa_cons pe_int (pa_cons pe_int pa_nil))) (pa_cons (pe_tup (pa_cons pe_int (pa_cons pe_int pa_nil))) (pa_cons (pe_tup (pa_cons pe_int (pa_cons pe_int pa_nil))) (pa_cons (pe_tup (pa_cons pe_int (pa_cons pe_int pa_nil))) pa_nil)))))))))))))))) pss_nil)
  (pss_one (ps_ret (pe_ix ix_list (pv 2) (pe_cal T.c__law_digit (hr.mono (by omega)) (by rfl) (pa_cons (pv 0) (pa_cons pe_int pa_nil))) (fun _ _ => rfl)))))), ?_⟩
    refine pairs_set (prs := szA) (by decide) fun l ts H1 s1 nl hl pr => ?_
    refine ⟨fun σ H' => Same H H' ∧ ∃ l ts prs, H l = none ∧ H' l = some (.lst (ts.map V.ref)) ∧ Paired (IsPr H') ts prs ∧ prs.length = 12 ∧ (∀ p ∈ prs, szOk p) ∧ σ = [some (.ref tp), some (.bl sm), some (.ref l)], ?_, ?_⟩
    · refine ⟨.bl sm, rfl, sm, rfl, ite2 (fun e => ?_) (fun e => ?_)⟩
      · refine pairs_asg (prs := szB) (by decide) fun l2 ts2 H2 s2 nl2 hl2 pr2 => ?_
        exact ⟨s1.trans s2, l2, ts2, szB, s1.free nl2, hl2, pr2, rfl, szB_ok, rfl⟩
      · exact ⟨s1, l, ts, szA, nl, hl, pr, rfl, szA_ok, rfl⟩
    · rintro σ H2 ⟨s2, l2, ts2, prs, nl2, hl2, pr2, lp, okp, rfl⟩
      have hT2 := hT.same s2
      have nlt : l2 ≠ tp := hT.new nl2
      refine ⟨.ref l2, rfl, .ref tp, rfl, tp, 12, rfl, hT2, by decide, by decide, fun H3 d D3 d0 d1 => ?_⟩
      have hd : d.toNat < ts2.length := by rw [pairedLen pr2]; omega
      obtain ⟨p, hp, isp⟩ := pairedGetL pr2 (List.getElem?_eq_getElem hd)
      refine ⟨l2, _, d, _, rfl, rfl, .inl (.inl (D3.1 _ _ nlt hl2)), atI_of d0 (List.getElem?_eq_getElem hd), ?_⟩
      exact q H3 _ p.1 p.2 ((Taped.refl hT).same s2 |>.trans D3) (D3.tups hT2 _ _ isp) (okp p (List.mem_of_getElem? hp))
theorem ok_rid {f : Addr} {fd : FuncData} {k : Nat} (F : Fun K "_law_riddle" "_law_riddle" sRid f fd) (T : TxtR P w K mg base) : FnOk P w K mg base CX0 (k + 3) f fd ["tape", "small"] spRid := by
  refine F.ok scRid (fun vs H Q E h => ?_) (fun cdv A outer s H vs Q E hr h => ?_)
  · obtain ⟨tp, sm, rfl, _⟩ := h
    rfl
  · obtain ⟨tp, sm, rfl, hT, q⟩ := h
    refine ⟨_, (pss_cons (ps_asg (pe_cal T.c__law_sizes (hr.mono (by omega)) (by rfl) (pa_cons (pv 0) (pa_cons (pv 1) pa_nil))) (pg_tup rfl (pgs_cons (pg_name (i := 2) scRid.nd rfl (Or.inr rfl)) (pgs_cons (pg_name (i := 3) scRid.nd rfl (Or.inr rfl)) pgs_nil))))
  (pss_cons (ps_setLc (i := 4) (te := tCall spWis [] E0 (tCons (tVar 0) (tCons (tVar 2) (tCons (tVar 3) (tCons (tC (.int 2)) tNil))))) (own := [("k", 5)]) rfl scRid.nd rfl rfl (sw_true rfl rfl rfl (by decide +kernel)) (pi_range1 (by rfl) T.m_range (pa_cons (pe_cal T.c__law_digit (hr.mono (by omega)) (by rfl) (pa_cons (pv 0) (pa_cons pe_int pa_nil))) pa_nil)) (blkOk_by (own := [("k", 5)]) (N := nRid) (sc := defScope sRid) (by decide +kernel))
   (fun _ _ _ _ _ => (pg_name (i := 5) scRid.nd rfl (Or.inl rfl))) (fun _ _ _ _ _ => pts_nil) (fun _ _ _ _ _ => (pe_cal T.c__law_wish (hr.mono (by omega)) (by rfl) (pa_cons (pv 0) (pa_cons (pv 2) (pa_cons (pv 3) (pa_cons pe_int pa_nil)))))))
  (pss_one (ps_ret (pe_tup (pa_cons (pv 2) (pa_cons (pv 3) (pa_cons (pe_callTy call_tuple_of (by rfl) T.m_tuple (by decide +kernel) (pa_cons (pv 4) pa_nil)) pa_nil)))))))), ?_⟩
    refine ⟨.ref tp, rfl, .bl sm, rfl, tp, sm, rfl, hT, fun H1 t many hues D1 ht ok => ?_⟩
    obtain ⟨k1, k6, hh2, hh4, kp⟩ := id ok
    dsimp only at k1 k6 hh2 hh4
    refine ⟨t, _, rfl, .inl (.inl ht), rfl, .int many, [.int hues], rfl, .int hues, [], rfl, rfl, ?_⟩
    refine ⟨.ref tp, rfl, tp, 9, rfl, D1.2, by decide, by decide, fun H2 nn D2 n0 n1 => ⟨nn, rfl, by omega, by omega, fun lw nlw => ?_⟩⟩
    have E2 := D1.trans D2
    have nw := E2.2.new nlw
    have nw0 : H lw = none := E2.free nlw
    refine lc_range (lo := 0) (n := nn.toNat) (fun i H3 => Taped tp H H3 ∧ ∃ (was : List Addr) (wds : List WD), H3 lw = some (.lst (was.map V.ref)) ∧ was.length = i ∧ Paired (IsWish H3) was wds ∧ (∀ wd ∈ wds, Good many hues wd) ∧ ∀ wd ∈ wds, Neat wd) ⟨E2.put nw0 nw, [], [], upd_same, rfl, .nil, (fun _ h => nomatch h), (fun _ h => nomatch h)⟩ (fun i H3 hi p => ?_) (fun H3 p => ?_)
    · obtain ⟨E3, was, wds, hw, lw3, pw, gd, ne⟩ := p
      refine ⟨rfl, yes_if ?_⟩
      refine ⟨.ref tp, rfl, .int many, rfl, .int hues, rfl, tp, many, hues, 2, rfl, E3.2, k1, k6, hh2, hh4, by decide, by decide, fun H4 wa wd D4 isw gw nw2 => ?_⟩
      have hw4 := D4.1 lw _ nw hw
      have tu : Tups H4 (upd H4 lw (.lst (was.map V.ref ++ [.ref wa]))) := tups_upd fun xs z => by rw [hw4] at z; cases z
      refine ⟨_, hw4, ?_, (E3.trans D4).put nw0 nw, was ++ [wa], wds ++ [wd], ?_, ?_, pairedSnoc (pairedMap (fun _ _ e => IsWish.mono ((D4.tups E3.2).trans tu) e) pw) (isw.mono tu), ?_, ?_⟩
      · rw [List.length_map, lw3]
        exact small1000 (by omega)
      · rw [upd_same, List.map_append]
        rfl
      · rw [List.length_append, lw3]
        rfl
      · intro wd' h'
        rcases List.mem_append.mp h' with h' | h'
        · exact gd wd' h'
        · rw [List.mem_singleton.mp h']
          exact gw
      · intro wd' h'
        rcases List.mem_append.mp h' with h' | h'
        · exact ne wd' h'
        · rw [List.mem_singleton.mp h']
          exact nw2
    · obtain ⟨E3, was, wds, hw, lw3, pw, gd, ne⟩ := p
      refine ⟨.int many, rfl, .int hues, rfl, .ref lw, rfl, lw, _, rfl, .inl ⟨.inl (.inl hw), fun wt nwt => ?_⟩⟩
      have st := same_upd (o := .tup (was.map V.ref)) nwt
      refine ⟨(by show 3 ≤ sizeLine; decide), fun ri nri => ?_⟩
      have sr := same_upd (o := .tup [.int many, .int hues, .ref wt]) nri
      refine q _ ri many hues wds ((E3.same st).same sr) ⟨wt, was, upd_same, sr _ _ upd_same, pairedMap (fun _ _ e => IsWish.mono (tups_same (st.trans sr)) e) pw⟩ ⟨k1, k6, hh2, hh4, ?_, gd⟩ ne ok
      rw [← pairedLen pw]
      omega
theorem ok_tab {f : Addr} {fd : FuncData} {k : Nat} (F : Fun K "_law_table" "_law_table" sTab f fd) (T : TxtW P w K mg base) : FnOk P w K mg base CX0 (k + 2) f fd ["tape", "riddle", "most"] spTab := by
  refine F.ok scTab (fun vs H Q E h => ?_) (fun cdv A outer s H vs Q E hr h => ?_)
  · obtain ⟨tp, ri, many, hues, most, z, rfl, _⟩ := h
    rfl
  · obtain ⟨tp, ri, many, hues, most, z, rfl, hT, hri, k1, k6, hh2, hh4, o1, o2, q⟩ := h
    refine ⟨_, (pss_cons (ps_set (i := 3) scTab.nd rfl (Or.inl rfl) (pe_lst pa_nil))
  (pss_cons (ps_for PassesOwn.never rfl (pi_range1 (by rfl) T.m_range (pa_cons (pe_ix ix_tup (pv 1) pe_int (fun _ _ => rfl)) pa_nil)) (pg_name (i := 4) scTab.nd rfl (Or.inl rfl))
  (pss_one (ps_expr (pe_bm PySem.F.plainAttrs_list PySem.F.slot_list_append PySem.F.type_list_append mt_append (pv 3) (pa_cons (pe_lc (te := tCall spDig [] E0 (tCons (tVar 0) (tCons (tOp (rIxT K) (tVar 1) (tC (.int 1))) tNil))) (own := [("k", 5)]) rfl scTab.nd  (pi_range1 (by rfl) T.m_range (pa_cons (pe_op op_add pe_int (pe_cal T.c__law_digit (hr.mono (by omega)) (by rfl) (pa_cons (pv 0) (pa_cons (pv 2) pa_nil)))) pa_nil)) (blkOk_by (own := [("k", 5)]) (N := nTab) (sc := defScope sTab) (by decide +kernel))
   (fun _ _ _ _ _ => (pg_name (i := 5) scTab.nd rfl (Or.inl rfl))) (fun _ _ _ _ _ => pts_nil) (fun _ _ _ _ _ => (pe_cal T.c__law_digit (hr.mono (by omega)) (by rfl) (pa_cons (pv 0) (pa_cons (pe_ix ix_tup (pv 1) pe_int (fun _ _ => rfl)) pa_nil))))) pa_nil)))))
  (pss_one (ps_ret (pv 3))))), ?_⟩
    refine ⟨(by show 0 ≤ sizeLine; decide), fun ta nta => ?_⟩
    have sta := same_upd (o := .lst []) nta
    have nt := hT.new nta
    refine ⟨.ref ri, rfl, ri, _, 0, _, rfl, rfl, .inl (.inl (sta _ _ hri)), atI_nat (j := 0) rfl, many, rfl, by omega, by omega, for_range (lo := 0) (n := many.toNat) (fun i σ H3 => Taped tp H H3 ∧ (∃ (das : List Addr) (tb : List (List Int)), H3 ta = some (.lst (das.map V.ref)) ∧ das.length = i ∧ (∀ d ∈ das, H d = none ∧ d ≠ ta) ∧ Paired (IsInts H3) das tb ∧ ∀ ds ∈ tb, 1 ≤ ds.length ∧ (ds.length : Int) ≤ most ∧ ∀ h ∈ ds, 0 ≤ h ∧ h < hues) ∧ ∃ y4, σ = [some (.ref tp), some (.ref ri), some (.int most), some (.ref ta), y4, none]) ⟨(Taped.refl hT).same sta, ⟨[], [], upd_same, rfl, (fun _ h => nomatch h), .nil, (fun _ h => nomatch h)⟩, none, rfl⟩ (fun i σ H3 hi p => ?_) (fun σ H3 p => ?_)⟩
    · obtain ⟨E3, ⟨das, tb, hta, dl, fr, pr, gd⟩, y4, rfl⟩ := p
      have hri3 := E3.tups hT _ _ hri
      refine ⟨.ref ta, rfl, .inl ⟨rfl, _, .inl (.inl hta)⟩, .ref tp, rfl, .int most, rfl, tp, most, rfl, E3.2, o1, log_small (by omega) (by omega), fun H4 ct D4 c0 c1 => ⟨1, ct, rfl, rfl, 1 + ct, rfl, by omega, by omega, fun D nD => ?_⟩⟩
      have E4 := E3.trans D4
      have nDt := E4.2.new nD
      have nD0 : H D = none := E4.free nD
      have hta4 := D4.1 ta _ nt hta
      have nDa : D ≠ ta := (ne_of_none hta4 nD).symm
      have nDd : ∀ d ∈ das, d ≠ D := fun d hd e => by
        obtain ⟨j, hj⟩ := List.getElem?_of_mem hd
        obtain ⟨row, _, e2⟩ := pairedGetL pr hj
        have e3 := D4.1 d _ (hT.new (fr d hd).1) e2
        rw [e, nD] at e3
        cases e3
      refine lc_range (lo := 0) (n := (1 + ct).toNat) (fun j H5 => Taped tp H H5 ∧ Taped tp H4 H5 ∧ ∃ ds : List Int, H5 D = some (.lst (ds.map V.int)) ∧ ds.length = j ∧ ∀ h ∈ ds, 0 ≤ h ∧ h < hues) ⟨E4.put nD0 nDt, (Taped.refl E4.2).same (same_upd nD), [], upd_same, rfl, (fun _ h => nomatch h)⟩ (fun j H5 hj pp => ?_) (fun H5 pp => ?_)
      · obtain ⟨E5, D5, ds, hD, ld, gh⟩ := pp
        refine ⟨rfl, yes_if ?_⟩
        refine ⟨.ref tp, rfl, .ref ri, rfl, ri, _, 1, _, rfl, rfl, .inl (.inl (E5.tups hT _ _ hri)), atI_nat (j := 1) rfl, tp, hues, rfl, E5.2, by omega, log_small (by omega) (by omega), fun H6 d D6 d0 d1 => ?_⟩
        refine ⟨_, D6.1 D _ nDt hD, ?_, (E5.trans D6).put nD0 nDt, (D5.trans D6).put nD nDt, ds ++ [d], ?_, ?_, ?_⟩
        · rw [List.length_map, ld]
          exact small1000 (by omega)
        · rw [upd_same, List.map_append]
          rfl
        · rw [List.length_append, ld]
          rfl
        · intro h hh
          rcases List.mem_append.mp hh with hh | hh
          · exact gh h hh
          · rw [List.mem_singleton.mp hh]
            exact ⟨d0, d1⟩
      · obtain ⟨E5, D5, ds, hD, ld, gh⟩ := pp
        have hta5 := D5.1 ta _ nt hta4
        refine ⟨ta, _, .ref D, rfl, rfl, hta5, ?_, E5.put nta nt, ⟨das ++ [D], tb ++ [ds], ?_, ?_, ?_, ?_, ?_⟩, _, rfl⟩
        · rw [List.length_map, dl]
          exact small1000 (by omega)
        · rw [upd_same, List.map_append]
          rfl
        · rw [List.length_append, dl]
          rfl
        · intro d hd
          rcases List.mem_append.mp hd with hd | hd
          · exact fr d hd
          · rw [List.mem_singleton.mp hd]
            exact ⟨nD0, nDa⟩
        · refine pairedSnoc ?_ (by show upd _ ta _ D = _; rw [upd_ne nDa]; exact hD)
          have q1 : ∀ {l m}, (∀ d ∈ l, H d = none ∧ d ≠ ta) → Paired (IsInts H3) l m → Paired (IsInts (upd H5 ta (.lst (das.map V.ref ++ [.ref D])))) l m := by
            intro l m fl pp
            induction pp with
            | nil => exact .nil
            | @cons a b l m e t ih => exact .cons (by
                show upd H5 ta _ a = _
                rw [upd_ne (fl a List.mem_cons_self).2]
                exact D5.1 a _ (hT.new (fl a List.mem_cons_self).1) (D4.1 a _ (hT.new (fl a List.mem_cons_self).1) e)) (ih fun d hd => fl d (List.mem_cons_of_mem _ hd))
          exact q1 fr pr
        · intro x hx
          rcases List.mem_append.mp hx with hx | hx
          · exact gd x hx
          · rw [List.mem_singleton.mp hx]
            exact ⟨by omega, by omega, gh⟩
    · obtain ⟨E3, ⟨das, tb, hta, dl, fr, pr, gd⟩, y4, rfl⟩ := p
      have tl := pairedLen pr
      refine ⟨.ref ta, rfl, q H3 ta tb E3 ⟨das, hta, fun z => z nta, fun d hd z => z (fr d hd).1, pr⟩ ⟨by omega, fun ds h => (gd ds h).1, fun ds h => ?_, fun ds h => (gd ds h).2.2⟩ fun ds h => (gd ds h).2.1⟩
      have := (gd ds h).2.1
      omega
theorem ok_ord {f : Addr} {fd : FuncData} {k : Nat} (F : Fun K "_law_order" "_law_order" sOrd f fd) (T : TxtW P w K mg base) : FnOk P w K mg base CX0 (k + 2) f fd ["tape", "many"] spOrd := by
  refine F.ok scOrd (fun vs H Q E h => ?_) (fun cdv A outer s H vs Q E hr h => ?_)
  · obtain ⟨tp, n, rfl, _⟩ := h
    rfl
  · obtain ⟨tp, n, rfl, hT, n0, n20, q⟩ := h
    refine ⟨_, (pss_cons (ps_set (i := 2) scOrd.nd rfl (Or.inr rfl) (pe_listRg rfl (by rfl) T.m_list (prg_1 (by rfl) T.m_range (pv 1))))
  (pss_one (ps_ret (pe_callTy call_tuple_of (by rfl) T.m_tuple (by decide +kernel) (pa_cons (pe_lc (te := tBM K "list" rPopAt (tVar 2) (tCons (tCall spDig [] E0 (tCons (tVar 0) (tCons (tCB (rLen K) (tCons (tVar 2) tNil)) tNil))) tNil)) (own := [("k", 3)]) rfl scOrd.nd  (pi_range1 (by rfl) T.m_range (pa_cons (pv 1) pa_nil)) (blkOk_by (own := [("k", 3)]) (N := nOrd) (sc := defScope sOrd) (by decide +kernel))
   (fun _ _ _ _ _ => (pg_name (i := 3) scOrd.nd rfl (Or.inl rfl))) (fun _ _ _ _ _ => pts_nil) (fun _ _ _ _ _ => (pe_bm PySem.F.plainAttrs_list PySem.F.slot_list_pop PySem.F.type_list_pop mt_popAt (pv 2) (pa_cons (pe_cal T.c__law_digit (hr.mono (by omega)) (by rfl) (pa_cons (pv 0) (pa_cons (pe_callB call_len_seq (by rfl) T.m_len (by decide +kernel) (pa_cons (pv 2) pa_nil)) pa_nil))) pa_nil)))) pa_nil))))), ?_⟩
    refine ⟨.int n, rfl, n, rfl, ⟨by omega, by omega, by omega, by omega, by omega⟩, fun l nl => ?_⟩
    have sl := same_upd (o := .lst (rgV 0 n)) nl
    have nlt := hT.new nl
    have E3 := (Taped.refl hT).same sl
    have hl3 : upd H l (.lst (rgV 0 n)) l = some (.lst (rgV 0 n)) := upd_same
    generalize upd H l (.lst (rgV 0 n)) = H3 at E3 hl3
    refine ⟨.int n, rfl, n, rfl, by omega, by omega, fun D nD => ?_⟩
    have nDt := E3.2.new nD
    have nD0 : H D = none := E3.free nD
    have nlD : l ≠ D := ne_of_none hl3 nD
    have rl := rngI_len n
    refine lc_range (lo := 0) (n := n.toNat) (fun i H5 => ∃ acc ls, Pops V.int tp H l D (rngI n) i H5 acc ls) ⟨[], rngI n, E3.put nD0 nDt, ?_, upd_same, rfl, by simp, List.Perm.refl _⟩ (fun i H5 hi p => ?_) (fun H5 p => ?_)
    · rw [upd_ne nlD, hl3, rgV_eq]
    · obtain ⟨acc, ls, p⟩ := p
      have ll := p.ll
      refine ⟨rfl, yes_if ?_⟩
      refine ⟨.ref l, rfl, .inl ⟨rfl, _, .inl (.inl p.hL)⟩, .ref tp, rfl, .ref l, rfl, l, _, rfl, .inl (.inl (.inl p.hL)), tp, _, rfl, p.fr.2, by rw [List.length_map]; omega, by rw [List.length_map]; exact log_small (by omega) (by omega), fun H6 d D6 d0 d1 => ?_⟩
      rw [List.length_map] at d1
      obtain ⟨y, y1, y2, y3, acc', y4, y5, acc2, ls2, y6⟩ := pop_step nl nlt nD0 nDt nlD (by omega) p D6 d0 d1
      exact ⟨l, ls.map V.int, d, d.toNat, y, rfl, rfl, y2, by omega, by omega, y3, y1, acc', y4, y5, acc2, ls2, y6⟩
    · obtain ⟨acc, ls, p⟩ := p
      have ll := p.ll
      have e : ls = [] := List.length_eq_zero_iff.mp (by omega)
      have pm := p.pm
      rw [e, List.append_nil] at pm
      refine ⟨D, _, rfl, .inl ⟨.inl (.inl p.hD), fun oa noa => ?_⟩⟩
      exact q _ oa acc (p.fr.same (same_upd noa)) upd_same (goodO_of n0 pm) pm
end
end Rd

set_option Elab.async false
set_option linter.all false
set_option maxRecDepth 100000
set_option maxHeartbeats 4000000
namespace Rd
open PySem PySem.Spec PyProof.Rows L2 Dt
abbrev sHue : Stmt := topS 5
abbrev nHue : List Str := ["filling", "places", "place"]
theorem scHue : FnScope nHue ["filling", "places"] (defScope sHue) := ⟨rfl, rfl, rfl, by decide +kernel, rfl, by decide +kernel, by decide +kernel⟩
abbrev sIsB : Stmt := topS 6
abbrev nIsB : List Str := ["wish", "filling", "places", "rows"]
theorem scIsB : FnScope nIsB ["wish", "filling"] (defScope sIsB) := ⟨rfl, rfl, rfl, by decide +kernel, rfl, by decide +kernel, by decide +kernel⟩
abbrev sSta : Stmt := topS 17
abbrev nSta : List Str := ["table", "taken", "draws", "beyond"]
theorem scSta : FnScope nSta ["table", "taken"] (defScope sSta) := ⟨rfl, rfl, rfl, by decide +kernel, rfl, by decide +kernel, by decide +kernel⟩
abbrev sFib : Stmt := topS 18
abbrev nFib : List Str := ["wishes", "order", "filling", "number"]
theorem scFib : FnScope nFib ["wishes", "order", "filling"] (defScope sFib) := ⟨rfl, rfl, rfl, by decide +kernel, rfl, by decide +kernel, by decide +kernel⟩
abbrev sHnx : Stmt := topS 19
abbrev nHnx : List Str := ["table", "taken", "places", "place"]
theorem scHnx : FnScope nHnx ["table", "taken", "places"] (defScope sHnx) := ⟨rfl, rfl, rfl, by decide +kernel, rfl, by decide +kernel, by decide +kernel⟩
def spHues (Ps : List Addr) : Sp := fun vs H Q _ => ∃ (fa pa : Addr) (fs ps : List Int) (many hues : Int), vs = [.ref fa, .ref pa] ∧ H fa = some (.tup (fs.map V.int)) ∧ H pa = some (.tup (ps.map V.int)) ∧ GoodF many hues fs ∧ (∀ p ∈ ps, 0 ≤ p ∧ p < many) ∧ ps.length ≤ 1000 ∧ Tabs Ps H ∧
  ∀ H' t, FrS Ps H H' → H t = none → H' t = some (.tup ((huesA fs ps).map V.int)) → Q (.ref t) H'
def spIsB (Ps : List Addr) : Sp := fun vs H Q _ => ∃ (wa fa : Addr) (fs : List Int) (wd : WD) (many hues : Int), vs = [.ref wa, .ref fa] ∧ IsWish H wa wd ∧ H fa = some (.tup (fs.map V.int)) ∧ GoodF many hues fs ∧ Good many hues wd ∧ many ≤ 6 ∧ hues ≤ 4 ∧ Tabs Ps H ∧
  ∀ H', FrS Ps H H' → Q (.bl (brk fs wd)) H'
def spSta (Ps : List Addr) : Sp := fun vs H Q _ => ∃ (ta ka : Addr) (tb : List (List Int)) (tk : List Int), vs = [.ref ta, .ref ka] ∧ IsTab (fun _ => False) H ta tb ∧ H ka = some (.lst (tk.map V.int)) ∧ GoodK tb tk ∧ tb.length ≤ 1000 ∧ Tabs Ps H ∧
  ∀ H' t, FrS Ps H H' → H t = none → H' t = some (.tup ((stand tb tk).map V.int)) → Q (.ref t) H'
def vOpt : Option Int → V
  | some k => .int k
  | none => .non
def spFib (Ps : List Addr) : Sp := fun vs H Q _ => ∃ (wt oa fa : Addr) (was : List Addr) (wds : List WD) (ord fs : List Int) (many hues : Int), vs = [.ref wt, .ref oa, .ref fa] ∧ H wt = some (.tup (was.map V.ref)) ∧ Paired (IsWish H) was wds ∧ GoodR many hues wds ∧ H oa = some (.tup (ord.map V.int)) ∧ (∀ z ∈ ord, 0 ≤ z ∧ z < (wds.length : Int)) ∧ H fa = some (.tup (fs.map V.int)) ∧ GoodF many hues fs ∧ Tabs Ps H ∧
  ∀ H', FrS Ps H H' → Q (vOpt (firstB fs wds ord)) H'
def spHnx (Ps : List Addr) : Sp := fun vs H Q _ => ∃ (ta ka pa : Addr) (tb : List (List Int)) (tk ps : List Int), vs = [.ref ta, .ref ka, .ref pa] ∧ IsTab (fun _ => False) H ta tb ∧ H ka = some (.lst (tk.map V.int)) ∧ tk.length = tb.length ∧ H pa = some (.tup (ps.map V.int)) ∧ (∀ p ∈ ps, 0 ≤ p ∧ p < (tb.length : Int)) ∧ Tabs Ps H ∧
  ∀ H', FrS Ps H H' → Q (.bl (canN tb tk ps)) H'
structure TxtN (mg : Str → Option Value) : Prop where
  m_tuple : mg "tuple" = none
  m_zip : mg "zip" = none
  m_all : mg "all" = none
  m_len : mg "len" = none
structure TxtB (P : Program) (w : World) (K : PySem.W.Frag) (mg : Str → Option Value) (base : Heap) (Ps : List Addr) : Prop where
  c_hues_at : Cal P w K mg base 3 "hues_at" ["filling", "places"] (spHues Ps)
structure TxtC (P : Program) (w : World) (K : PySem.W.Frag) (mg : Str → Option Value) (base : Heap) (Ps : List Addr) : Prop extends TxtB P w K mg base Ps where
  c_is_broken : Cal P w K mg base 4 "is_broken" ["wish", "filling"] (spIsB Ps)
theorem atT {tk : List Int} {p : Int} (h0 : 0 ≤ p) (h1 : p < (tk.length : Int)) : tk[p.toNat]? = some (atF tk p) := by
  have h : p.toNat < tk.length := by omega
  rw [atF, getD_get h]
  exact List.getElem?_eq_getElem h
section
variable {P : Program} {w : World} {K : PySem.W.Frag} {mg : Str → Option Value} {base : Heap}
theorem ok_hues {f c Pt : Addr} {Ps : List Addr} {fd : FuncData} {k : Nat} (F : FunC K "hues_at" "hues_at" sHue f fd (.ref c)) (TB : GxR.TabB base mg c Pt) (hP : Pt ∈ Ps) (T : TxtN mg) : FnOk P w K mg base CX0 (k + 3) f fd ["filling", "places"] (spHues Ps) := by
  refine F.ok scHue (fun vs H Q E h => ?_) (fun A outer s H vs Q E hr h => ?_)
  · obtain ⟨fa, pa, fs, ps, many, hues, rfl, _⟩ := h
    rfl
  · obtain ⟨fa, pa, fs, ps, many, hues, rfl, hf, hp, gf, hpl, hl, hT, q⟩ := h
    refine ⟨_, (pss_one (ps_ret (Gx.pe_tupX (own := [("place", 2)]) (te := tOp (rIxT K) (tVar 0) (tVar 2)) hr (by rfl) T.m_tuple rfl scHue.nd TB rfl (blkOk_by (own := [("place", 2)]) (N := nHue) (sc := defScope sHue) (by decide +kernel)) ⟨rfl, by decide +kernel, rfl⟩ (pi_tup (pv 1))
   (fun _ _ _ _ _ _ hA => (pg_name (i := 2) scHue.nd rfl (Or.inl rfl))) (fun _ _ _ _ _ _ hA => pts_nil) (fun _ _ _ _ _ _ hA => (pe_ix ix_tup (pv 0) (pv 2) (fun _ _ => rfl)))))), ?_⟩
    refine ⟨.ref pa, rfl, pa, rfl, ⟨_, .inl (.inl hp)⟩, hT _ hP, fun H2 tb => ?_⟩
    have f2 := FrS.one hT hP tb
    refine Gx.tup_tup (K := K) (a := pa) (xs := ps.map V.int) (by rw [List.length_map]; exact Nat.le_of_lt (small1000 hl)) (fun i ys H3 => FrS Ps H H3 ∧ ys = (huesA fs (ps.take i)).map V.int) ⟨f2, rfl⟩ (fun i ys H3 _ f3 => .inl (.inl (f3.1.tups hT _ _ hp))) (fun i ys H3 f3 => ?_) (fun i x ys H3 hx f3 => ?_) (fun ys H3 f3 => ?_)
    · rw [f3.2, List.length_map, huesA, List.length_map, List.length_take]
      omega
    · obtain ⟨p, ep, rfl⟩ := map_get hx
      obtain ⟨f3, rfl⟩ := f3
      have hpp := hpl p (List.mem_of_getElem? ep)
      refine ⟨rfl, yes_if ?_⟩
      refine ⟨.ref fa, rfl, .int p, rfl, fa, _, p, _, rfl, rfl, .inl (.inl (f3.tups hT _ _ hf)), atI_fs gf hpp.1 hpp.2, f3, ?_⟩
      rw [take_snoc ep]
      simp [huesA]
    · obtain ⟨f3, rfl⟩ := f3
      rw [List.length_map, List.take_length]
      exact fun t nt => q _ t (f3.same (same_upd nt)) (f3.free nt) upd_same
theorem ok_isB {f : Addr} {Ps : List Addr} {fd : FuncData} {k : Nat} (F : Fun K "is_broken" "is_broken" sIsB f fd) (T : TxtB P w K mg base Ps) : FnOk P w K mg base CX0 (k + 4) f fd ["wish", "filling"] (spIsB Ps) := by
  refine F.ok scIsB (fun vs H Q E h => ?_) (fun cdv A outer s H vs Q E hr h => ?_)
  · obtain ⟨wa, fa, fs, wd, many, hues, rfl, _⟩ := h
    rfl
  · obtain ⟨wa, fa, fs, wd, many, hues, rfl, hw, hf, gf, gw, hm, hh, hT, q⟩ := h
    refine ⟨_, (pss_cons (ps_asg (pv 0) (pg_tup rfl (pgs_cons (pg_name (i := 2) scIsB.nd rfl (Or.inl rfl)) (pgs_cons (pg_name (i := 3) scIsB.nd rfl (Or.inl rfl)) pgs_nil))))
  (pss_one (ps_ret (pe_cmpR (Dt.op_inT (units65 hr)) (pe_cal T.c_hues_at (hr.mono (by omega)) (by rfl) (pa_cons (pv 1) (pa_cons (pv 2) pa_nil))) (pv 3) (by rfl))))), ?_⟩
    obtain ⟨pa, ra, rs, h1, h2, h3, h4⟩ := id hw
    refine ⟨.ref wa, rfl, wa, _, rfl, .inl (.inl h1), rfl, .ref pa, [.ref ra], rfl, .ref ra, [], rfl, rfl, ?_⟩
    have g3 := gw.three
    refine ⟨.ref fa, rfl, .ref pa, rfl, fa, pa, fs, wd.1, many, hues, rfl, hf, h2, gf, gw.pl, by omega, hT, fun H' t fr nt ht => ?_⟩
    have tp := fr.tups hT
    refine ⟨.ref ra, rfl, rowD (huesA fs wd.1), wd.2.map rowD, .tup (.inl (.inl ht)) (dpInts _), .tup (.inl (.inl (tp _ _ h3))) (dpRows (pairedMap (fun _ _ e => tp _ _ e) h4)), ?_, ?_, ?_⟩
    · refine (fine_row (fun z hz => ?_) ?_).shaped (by decide)
      · obtain ⟨p, hp, rfl⟩ := List.mem_map.mp hz
        have hpp := gw.pl p hp
        have e := List.mem_of_getElem? (at_some gf hpp.1 hpp.2)
        have := gf.hue _ e
        omega
      · simp [huesA]
        omega
    · refine (Fine.tuple (fineAll_map wd.2 (n := 2) (w := 64) fun r hr => fine_row (fun z hz => ?_) ?_)).shaped (by decide)
      · have := (gw.row r hr).2 z hz
        omega
      · have := (gw.row r hr).1
        omega
    · rw [anyRows]
      exact q H' fr
theorem ok_sta {f c Pt : Addr} {Ps : List Addr} {fd : FuncData} {k : Nat} (F : FunC K "standing" "standing" sSta f fd (.ref c)) (TB : GxR.TabB base mg c Pt) (hP : Pt ∈ Ps) (T : TxtN mg) : FnOk P w K mg base CX0 (k + 3) f fd ["table", "taken"] (spSta Ps) := by
  refine F.ok scSta (fun vs H Q E h => ?_) (fun A outer s H vs Q E hr h => ?_)
  · obtain ⟨ta, ka, tb, tk, rfl, _⟩ := h
    rfl
  · obtain ⟨ta, ka, tb, tk, rfl, ht, hk, gk, hl, hT, q⟩ := h
    refine ⟨_, (pss_one (ps_ret (Gx.pe_tupX (own := [("draws", 2), ("beyond", 3)]) (g := gTup K 2 (gCons (gName 2) (gCons (gName 3) gNil))) (te := tOp (rIxL K) (tVar 2) (tVar 3)) hr (by rfl) T.m_tuple rfl scSta.nd TB rfl (blkOk_by (own := [("draws", 2), ("beyond", 3)]) (N := nSta) (sc := defScope sSta) (by decide +kernel)) ⟨rfl, by decide +kernel, rfl⟩ (RZ.pi_zipA (by rfl) T.m_zip (pa_cons (pv 0) (pa_cons (pv 1) pa_nil)))
   (fun _ _ _ _ _ _ hA => (pg_tup rfl (pgs_cons (pg_name (i := 2) scSta.nd rfl (Or.inl rfl)) (pgs_cons (pg_name (i := 3) scSta.nd rfl (Or.inl rfl)) pgs_nil)))) (fun _ _ _ _ _ _ hA => pts_nil) (fun _ _ _ _ _ _ hA => (pe_ix ix_list (pv 2) (pv 3) (fun _ _ => rfl)))))), ?_⟩
    obtain ⟨das, h1, _, _, pr⟩ := id ht
    have dl := pairedLen pr
    have kl := gk.len
    refine ⟨.ref ta, rfl, .ref ka, rfl, ta, ka, das.map V.ref, tk.map V.int, rfl, .inl ⟨.inl (.inl h1), .inl (.inl hk), hT _ hP, fun H2 tb2 => ?_⟩⟩
    have f2 := FrS.one hT hP tb2
    refine Gx.tup_zipL (K := K) (a := ta) (b := ka) (xs := das.map V.ref) (ys := tk.map V.int) (by rw [List.length_map, List.length_map]; omega) (by rw [List.length_map]; exact Nat.le_of_lt (small1000 (by omega))) (fun i ys H3 => FrS Ps H H3 ∧ ys = ((stand tb tk).take i).map V.int) ⟨f2, rfl⟩ (fun i ys H3 f3 => ⟨.inl (.inl ((f3.1.seqs hT).2 _ _ h1)), .inl (.inl ((f3.1.seqs hT).2 _ _ hk))⟩) (fun i ys H3 f3 => ?_) (fun i x y T ys H3 hx hy f3 nT => ?_) (fun ys H3 f3 => ?_)
    · rw [f3.2, List.length_map, List.length_take]
      omega
    · obtain ⟨d, ed, rfl⟩ := map_get hx
      obtain ⟨n, en, rfl⟩ := map_get hy
      obtain ⟨f3, rfl⟩ := f3
      obtain ⟨ds, eds, hd⟩ := pairedGetL pr ed
      have hi : i < tb.length := (List.getElem?_eq_some_iff.mp eds).1
      have a := gk.at_ i hi
      have e1 : tb.getD i [] = ds := by rw [List.getD_eq_getElem?_getD, eds]; rfl
      have e2 : tk.getD i 0 = n := by rw [List.getD_eq_getElem?_getD, en]; rfl
      rw [e1, e2] at a
      have sT := same_upd (o := .tup [.ref d, .int n]) nT
      have f4 := f3.same sT
      refine ⟨T, _, rfl, .inl (.inl upd_same), rfl, .ref d, [.int n], rfl, .int n, [], rfl, rfl, rfl, yes_if ?_⟩
      refine ⟨.ref d, rfl, .int n, rfl, d, _, n, _, rfl, rfl, .inl (.inl ((f4.seqs hT).2 _ _ hd)), atI_of a.1 (atT a.1 a.2), f4, ?_⟩
      rw [take_snoc (stand_get gk hi), e1, e2, List.map_append]
      rfl
    · obtain ⟨f3, rfl⟩ := f3
      rw [List.length_map, List.take_of_length_le (by rw [stand_len gk]; omega)]
      exact fun t nt => q _ t (f3.same (same_upd nt)) (f3.free nt) upd_same
theorem ok_fib {f : Addr} {Ps : List Addr} {fd : FuncData} {k : Nat} (F : Fun K "first_broken" "first_broken" sFib f fd) (T : TxtC P w K mg base Ps) : FnOk P w K mg base CX0 (k + 5) f fd ["wishes", "order", "filling"] (spFib Ps) := by
  refine F.ok scFib (fun vs H Q E h => ?_) (fun cdv A outer s H vs Q E hr h => ?_)
  · obtain ⟨wt, oa, fa, was, wds, ord, fs, many, hues, rfl, _⟩ := h
    rfl
  · obtain ⟨wt, oa, fa, was, wds, ord, fs, many, hues, rfl, hw, pw, gr, ho, go, hf, gf, hT, q⟩ := h
    refine ⟨_, (pss_cons (ps_for PassesOwn.never rfl (pi_tup (pv 1)) (pg_name (i := 3) scFib.nd rfl (Or.inl rfl))
  (pss_one (ps_if (pt_val (pe_cal T.c_is_broken (hr.mono (by omega)) (by rfl) (pa_cons (pe_ix ix_tup (pv 0) (pv 3) (fun _ _ => rfl)) (pa_cons (pv 2) pa_nil))))
  (pss_one (ps_ret (pv 3))) pss_nil)))
  (pss_one (ps_ret pe_non))), ?_⟩
    have wl := pairedLen pw
    refine ⟨.ref oa, rfl, oa, rfl, ⟨_, .inl (.inl ho)⟩, ?_⟩
    refine for_tup (K := K) (a := oa) (xs := ord.map V.int) (fun i σ H3 => FrS Ps H H3 ∧ firstB fs wds ord = firstB fs wds (ord.drop i) ∧ ∃ y3, σ = [some (.ref wt), some (.ref oa), some (.ref fa), y3]) ⟨FrS.refl hT, by rw [List.drop_zero], none, rfl⟩ (fun i σ H3 _ p => .inl (.inl (p.1.tups hT _ _ ho))) (fun i x σ H3 hx p => ?_) (fun σ H3 p => ?_)
    · obtain ⟨z, ez, rfl⟩ := map_get hx
      obtain ⟨f3, e3, y3, rfl⟩ := p
      have hz := go z (List.mem_of_getElem? ez)
      have hzn : z.toNat < was.length := by omega
      obtain ⟨wd, hwd, isw⟩ := pairedGetL pw (List.getElem?_eq_getElem hzn)
      have gw := gr.each wd (List.mem_of_getElem? hwd)
      have hdr : ord.drop i = z :: ord.drop (i + 1) := by
        have hi := (List.getElem?_eq_some_iff.mp ez)
        rw [List.drop_eq_getElem_cons hi.1, hi.2]
      refine ⟨.ref wt, rfl, .int z, rfl, wt, _, z, _, rfl, rfl, .inl (.inl (f3.tups hT _ _ hw)), atI_of hz.1 (List.getElem?_eq_getElem hzn), .ref fa, rfl, _, fa, fs, wd, many, hues, rfl, isw.mono (f3.tups hT), f3.tups hT _ _ hf, gf, gw, gr.m6, gr.h4, f3.2, fun H4 f4 => ⟨_, rfl, ite2 (fun e => ?_) (fun e => ?_)⟩⟩
      · refine ⟨.int z, rfl, ?_⟩
        have e5 : firstB fs wds ord = some z := by
          rw [e3, hdr, firstB, List.find?_cons, brkAt_of hwd, e]
        have := q H4 (f3.trans f4)
        rw [e5] at this
        exact this
      · refine ⟨f3.trans f4, ?_, _, rfl⟩
        rw [e3, hdr, firstB, List.find?_cons, brkAt_of hwd]
        have e6 : brk fs wd = false := by
          cases c : brk fs wd with
          | true => exact absurd c e
          | false => rfl
        rw [e6]
        rfl
    · obtain ⟨f3, e3, y3, rfl⟩ := p
      have := q H3 f3
      rw [List.length_map, List.drop_length] at e3
      rw [e3] at this
      exact this
theorem ok_hnx {f c Pt : Addr} {Ps : List Addr} {fd : FuncData} {k : Nat} (F : FunC K "have_next" "have_next" sHnx f fd (.ref c)) (TB : GxR.TabB base mg c Pt) (hP : Pt ∈ Ps) (T : TxtN mg) : FnOk P w K mg base CX0 (k + 2) f fd ["table", "taken", "places"] (spHnx Ps) := by
  refine F.ok scHnx (fun vs H Q E h => ?_) (fun A outer s H vs Q E hr h => ?_)
  · obtain ⟨ta, ka, pa, tb, tk, ps, rfl, _⟩ := h
    rfl
  · obtain ⟨ta, ka, pa, tb, tk, ps, rfl, ht, hk, kl, hp, hpl, hT, q⟩ := h
    refine ⟨_, (pss_one (ps_ret (Gx.pe_allX (own := [("place", 3)]) (te := tOp (rI0 fun i j => .bl (decide (i < j))) (tOp (rI0 fun i j => .int (i + j)) (tOp (rIxL K) (tVar 1) (tVar 3)) (tC (.int 1))) (tCB (rLen K) (tCons (tOp (rIxL K) (tVar 0) (tVar 3)) tNil))) hr (by rfl) T.m_all rfl scHnx.nd TB rfl (blkOk_by (own := [("place", 3)]) (N := nHnx) (sc := defScope sHnx) (by decide +kernel)) ⟨rfl, by decide +kernel, rfl⟩ (pi_tup (pv 2))
   (fun _ _ _ _ _ _ hA => (pg_name (i := 3) scHnx.nd rfl (Or.inl rfl))) (fun _ _ _ _ _ _ hA => pts_nil) (fun _ _ _ _ _ _ hA => (pe_cmpR op_lt (pe_op op_add (pe_ix ix_list (pv 1) (pv 3) (fun _ _ => rfl)) pe_int) (pe_callB call_len_seq (by rfl) T.m_len (by decide +kernel) (pa_cons (pe_ix ix_list (pv 0) (pv 3) (fun _ _ => rfl)) pa_nil)) (nomark _)))))), ?_⟩
    obtain ⟨das, h1, _, _, pr⟩ := id ht
    have dl := pairedLen pr
    refine ⟨.ref pa, rfl, pa, rfl, ⟨_, .inl (.inl hp)⟩, hT _ hP, fun H2 tb2 => ?_⟩
    have f2 := FrS.one hT hP tb2
    refine Gx.all_tup (K := K) (a := pa) (xs := ps.map V.int) (fun i H3 => FrS Ps H H3 ∧ canN tb tk (ps.take i) = true) ⟨f2, rfl⟩ (fun i H3 _ f3 => .inl (.inl (f3.1.tups hT _ _ hp))) (fun i x H3 hx f3 => ?_) (fun H3 f3 => ?_)
    · obtain ⟨p, ep, rfl⟩ := map_get hx
      obtain ⟨f3, e3⟩ := f3
      have hpp := hpl p (List.mem_of_getElem? ep)
      have hpn : p.toNat < das.length := by omega
      obtain ⟨ds, eds, hd⟩ := pairedGetL pr (List.getElem?_eq_getElem hpn)
      have sq := f3.seqs hT
      have e1 : lenAt tb p = (ds.length : Int) := by rw [lenAt, List.getD_eq_getElem?_getD, eds]; rfl
      refine ⟨rfl, yes_if ?_⟩
      refine ⟨.ref ka, rfl, .int p, rfl, ka, _, p, _, rfl, rfl, .inl (.inl (sq.2 _ _ hk)), atI_of hpp.1 (atT hpp.1 (by omega)), _, _, rfl, rfl, .ref ta, rfl, .int p, rfl, ta, _, p, _, rfl, rfl, .inl (.inl (sq.2 _ _ h1)), atI_of hpp.1 (List.getElem?_eq_getElem hpn), _, _, rfl, .inl (.inl (.inl (sq.2 _ _ hd))), _, _, rfl, rfl, _, rfl, ?_⟩
      have e4 : canN tb tk (ps.take (i + 1)) = (canN tb tk (ps.take i) && decide (atF tk p + 1 < lenAt tb p)) := by
        rw [take_snoc ep, canN, canN, List.all_append]
        simp
      rw [List.length_map, ← e1]
      cases c : decide (atF tk p + 1 < lenAt tb p) with
      | true =>
        rw [if_pos rfl]
        exact ⟨f3, by rw [e4, e3, c]; rfl⟩
      | false =>
        rw [if_neg (by decide)]
        have e5 : canN tb tk ps = false := by
          rw [canN, List.all_eq_false]
          exact ⟨p, List.mem_of_getElem? ep, by rw [c]; decide⟩
        have := q H3 f3
        rw [e5] at this
        exact this
    · obtain ⟨f3, e3⟩ := f3
      rw [List.length_map, List.take_length] at e3
      have := q H3 f3
      rw [e3] at this
      exact this
end
end Rd

set_option Elab.async false
set_option linter.all false
set_option maxRecDepth 100000
set_option maxHeartbeats 4000000
namespace Rd
open PySem PySem.Spec PyProof.Rows L2 Dt
abbrev sRun : Stmt := topS 20
abbrev nRun : List Str := ["riddle", "table", "order", "wishes", "taken", "filling", "log", "number", "places", "place"]
theorem scRun : FnScope nRun ["riddle", "table", "order"] (defScope sRun) := ⟨rfl, rfl, rfl, by decide +kernel, rfl, by decide +kernel, by decide +kernel⟩
structure RunIn (H : Hp) (ri ta oa : Addr) (many hues : Int) (wds : List WD) (tb : List (List Int)) (ord : List Int) : Prop where
  rid : IsRid H ri many hues wds
  gr : GoodR many hues wds
  nd : ∀ wd ∈ wds, wd.1.Nodup
  tab : IsTab (fun _ => False) H ta tb
  gt : GoodT many hues tb
  ho : H oa = some (.tup (ord.map V.int))
  go : GoodO wds.length ord
theorem RunIn.seqs {H H' : Hp} {ri ta oa : Addr} {many hues : Int} {wds : List WD} {tb : List (List Int)} {ord : List Int} (h : RunIn H ri ta oa many hues wds tb ord) (s : Seqs H H') : RunIn H' ri ta oa many hues wds tb ord := ⟨h.rid.mono s.1, h.gr, h.nd, h.tab.seqs s, h.gt, s.1 _ _ h.ho, h.go⟩
def spRun (Ps : List Addr) : Sp := fun vs H Q _ => ∃ (ri ta oa : Addr) (many hues : Int) (wds : List WD) (tb : List (List Int)) (ord : List Int), vs = [.ref ri, .ref ta, .ref oa] ∧ RunIn H ri ta oa many hues wds tb ord ∧ Tabs Ps H ∧
  ∀ H' t R, FrS Ps H H' → H t = none → runOf wds tb ord = some R → IsRes H H' t R → Q (.ref t) H'
structure TxtD (P : Program) (w : World) (K : PySem.W.Frag) (mg : Str → Option Value) (base : Heap) (Ps : List Addr) : Prop where
  m_len : mg "len" = none
  c_hues_at : Cal P w K mg base 3 "hues_at" ["filling", "places"] (spHues Ps)
  c_standing : Cal P w K mg base 3 "standing" ["table", "taken"] (spSta Ps)
  c_first_broken : Cal P w K mg base 5 "first_broken" ["wishes", "order", "filling"] (spFib Ps)
  c_have_next : Cal P w K mg base 2 "have_next" ["table", "taken", "places"] (spHnx Ps)
theorem rep0 (n : Nat) : (List.replicate n [V.int 0]).flatten = (zerosI n).map V.int := by
  unfold zerosI
  rw [List.map_replicate]
  induction n with
  | zero => rfl
  | succ n ih => rw [List.replicate_succ, List.flatten_cons, ih, List.replicate_succ]; rfl
theorem bumpA_snoc (tk ps : List Int) (p : Int) : bumpA tk (ps ++ [p]) = bump (bumpA tk ps) p.toNat := by
  unfold bumpA
  rw [List.foldl_append]
  rfl
theorem bumpA_len (tk : List Int) : ∀ ps : List Int, (bumpA tk ps).length = tk.length := fun ps => by
  unfold bumpA
  induction ps generalizing tk with
  | nil => rfl
  | cons p r ih => rw [List.foldl_cons, ih, bump_len]
section
variable {P : Program} {w : World} {K : PySem.W.Frag} {mg : Str → Option Value} {base : Heap}
set_option maxHeartbeats 16000000 in
theorem ok_run {f : Addr} {Ps : List Addr} {fd : FuncData} {k : Nat} (F : Fun K "run" "run" sRun f fd) (T : TxtD P w K mg base Ps) : FnOk P w K mg base CX0 (k + 6) f fd ["riddle", "table", "order"] (spRun Ps) := by
  refine F.ok scRun (fun vs H Q E h => ?_) (fun cdv A outer s H vs Q E hr h => ?_)
  · obtain ⟨ri, ta, oa, many, hues, wds, tb, ord, rfl, _⟩ := h
    rfl
  · obtain ⟨ri, ta, oa, many, hues, wds, tb, ord, rfl, hin, hT, q⟩ := h
    obtain ⟨rid, gr, nd, tab, gt, ho, go⟩ := id hin
    refine ⟨_, (pss_cons (ps_set (i := 3) scRun.nd rfl (Or.inl rfl) (pe_ix ix_tup (pv 0) pe_int (fun _ _ => rfl)))
  (pss_cons (ps_set (i := 4) scRun.nd rfl (Or.inl rfl) (pe_op op_rep (pe_lst (pa_cons pe_int pa_nil)) (pe_callB call_len_seq (by rfl) T.m_len (by decide +kernel) (pa_cons (pv 1) pa_nil))))
  (pss_cons (ps_set (i := 5) scRun.nd rfl (Or.inl rfl) (pe_cal T.c_standing (hr.mono (by omega)) (by rfl) (pa_cons (pv 1) (pa_cons (pv 4) pa_nil))))
  (pss_cons (ps_set (i := 6) scRun.nd rfl (Or.inl rfl) (pe_lst pa_nil))
  (pss_cons (ps_set (i := 7) scRun.nd rfl (Or.inl rfl) (pe_cal T.c_first_broken (hr.mono (by omega)) (by rfl) (pa_cons (pv 3) (pa_cons (pv 2) (pa_cons (pv 5) pa_nil)))))
  (pss_cons (ps_while PassesOwn.never (pt_cmpR op_notN (pv 7) pe_non (nomark _))
  (pss_cons (ps_set (i := 8) scRun.nd rfl (Or.inl rfl) (pe_ix ix_tup (pe_ix ix_tup (pv 3) (pv 7) (fun _ _ => rfl)) pe_int (fun _ _ => rfl)))
  (pss_cons (ps_if (pt_not (pt_val (pe_cal T.c_have_next (hr.mono (by omega)) (by rfl) (pa_cons (pv 1) (pa_cons (pv 4) (pa_cons (pv 8) pa_nil))))))
  (pss_one (ps_ret (pe_tup (pa_cons pe_str (pa_cons (pv 5) (pa_cons (pv 6) pa_nil)))))) pss_nil)
  (pss_cons (ps_expr (pe_bm PySem.F.plainAttrs_list PySem.F.slot_list_append PySem.F.type_list_append mt_append (pv 6) (pa_cons (pe_tup (pa_cons (pv 7) (pa_cons (pe_cal T.c_hues_at (hr.mono (by omega)) (by rfl) (pa_cons (pv 5) (pa_cons (pv 8) pa_nil))) pa_nil))) pa_nil)))
  (pss_cons (ps_for PassesOwn.never rfl (pi_tup (pv 8)) (pg_name (i := 9) scRun.nd rfl (Or.inl rfl))
  (pss_one (ps_augS (pv 4) (pv 9) Cp.pget_list pe_int ip_add set_list)))
  (pss_cons (ps_set (i := 5) scRun.nd rfl (Or.inl rfl) (pe_cal T.c_standing (hr.mono (by omega)) (by rfl) (pa_cons (pv 1) (pa_cons (pv 4) pa_nil))))
  (pss_one (ps_set (i := 7) scRun.nd rfl (Or.inl rfl) (pe_cal T.c_first_broken (hr.mono (by omega)) (by rfl) (pa_cons (pv 3) (pa_cons (pv 2) (pa_cons (pv 5) pa_nil))))))))))))
  (pss_one (ps_ret (pe_tup (pa_cons pe_str (pa_cons (pv 5) (pa_cons (pv 6) pa_nil)))))))))))), ?_⟩
    obtain ⟨wt, was, h1, h2, h3⟩ := id rid
    obtain ⟨das, ht1, _, _, pr⟩ := id tab
    have wl := pairedLen h3
    have dl := pairedLen pr
    have tl := gt.len
    have m6 := gr.m6
    obtain ⟨R, hR, gfR, okR, lR⟩ := runOf_some gr nd gt go
    -- wishes, taken
    refine ⟨.ref ri, rfl, ri, _, 2, _, rfl, rfl, .inl (.inl h1), atI_nat (j := 2) rfl, (by show 1 ≤ sizeLine; decide), fun l0 nl0 => ?_⟩
    have s0 := same_upd (o := .lst [V.int 0]) nl0
    refine ⟨.ref ta, rfl, ta, _, rfl, .inl (.inl (.inl (s0 _ _ ht1))), l0, _, _, rfl, rfl, upd_same, by rw [List.length_map]; omega, by rw [List.length_map]; omega, ?_, fun ka nka => ?_⟩
    · rw [List.length_map]
      show 1 * _ ≤ sizeLine
      exact Nat.le_of_lt (small1000 (by omega))
    have ez : (List.replicate ((das.map V.ref).length : Int).toNat [V.int 0]).flatten = (zerosI tb.length).map V.int := by rw [rep0, List.length_map, dl]; rfl
    rw [ez]
    have nka0 : H ka = none := s0.free nka
    have s1 := s0.trans (same_upd (o := .lst ((zerosI tb.length).map V.int)) nka)
    have hk1 : upd (upd H l0 (.lst [V.int 0])) ka (.lst ((zerosI tb.length).map V.int)) ka = some (.lst ((zerosI tb.length).map V.int)) := upd_same
    generalize upd (upd H l0 (.lst [V.int 0])) ka (.lst ((zerosI tb.length).map V.int)) = H1 at s1 hk1
    have F1 := FrS.of hT s1
    have nkP : ka ∉ Ps := hT.new nka0
    have in1 := hin.seqs (seqs_same s1)
    -- filling
    refine ⟨.ref ta, rfl, .ref ka, rfl, ta, ka, tb, zerosI tb.length, rfl, in1.tab, hk1, zeros_good gt, by omega, F1.2, fun H2 fa f2 nfa hfa => ?_⟩
    have F2 := F1.trans f2
    have hk2 := f2.1 ka _ nkP hk1
    -- log
    refine ⟨(by show 0 ≤ sizeLine; decide), fun la nla => ?_⟩
    have s3 := same_upd (o := .lst []) nla
    have nla0 : H la = none := F2.free nla
    have nlP : la ∉ Ps := hT.new nla0
    have nlk : la ≠ ka := (ne_of_none hk2 nla).symm
    have F3 := F2.same s3
    have hl3 : upd H2 la (.lst []) la = some (.lst []) := upd_same
    have hk3 := s3 _ _ hk2
    have hfa3 := s3 _ _ hfa
    generalize upd H2 la (.lst []) = H3 at s3 F3 hl3 hk3 hfa3
    have in3 := hin.seqs (F3.seqs hT)
    have w3 : ∀ {H'}, FrS Ps H H' → H' wt = some (.tup (was.map V.ref)) ∧ Paired (IsWish H') was wds := fun fr => ⟨fr.tups hT _ _ h2, pairedMap (fun _ _ e => IsWish.mono (fr.tups hT) e) h3⟩
    -- number
    refine ⟨.ref wt, rfl, .ref oa, rfl, .ref fa, rfl, wt, oa, fa, was, wds, ord, _, many, hues, rfl, (w3 F3).1, (w3 F3).2, gr, in3.ho, go.mem, hfa3, stand_good gt (zeros_good gt), F3.2, fun H4 f4 => ?_⟩
    have F4 := F3.trans f4
    -- the loop
    refine ⟨fun m σ Hm => FrS Ps H Hm ∧ ∃ (tk : List Int) (log : Log) (fa : Addr), Hm ka = some (.lst (tk.map V.int)) ∧ GoodK tb tk ∧ Hm fa = some (.tup ((stand tb tk).map V.int)) ∧ IsLog Hm la log ∧ LogOk wds log ∧ log.length + rem tb tk ≤ 6000 ∧ goR wds tb ord m tk log = some R ∧
      ∃ y8 y9, σ = [some (.ref ri), some (.ref ta), some (.ref oa), some (.ref wt), some (.ref ka), some (.ref fa), some (.ref la), some (vOpt (firstB (stand tb tk) wds ord)), y8, y9], ⟨rem tb (zerosI tb.length) + 1, F4, zerosI tb.length, [], fa, f4.1 ka _ nkP hk3, zeros_good gt, f4.tups F3.2 _ _ hfa3, ⟨[], f4.1 la _ nlP hl3, .nil⟩, LogOk.nil _, ?_, hR, none, none, rfl⟩, ?_⟩
    · have a := rem_le tb (zerosI tb.length) 1000 gt.few
      have : tb.length ≤ 6 := by omega
      rw [List.length_nil]
      omega
    · rintro m σ Hm ⟨Fm, tk, log, fa, hk, gk, hfa, hlog, okl, bl, hgo, y8, y9, rfl⟩
      have inm := hin.seqs (Fm.seqs hT)
      have hTm := Fm.2
      cases m with
      | zero => exact nomatch hgo
      | succ m =>
      rw [goR] at hgo
      cases ef : firstB (stand tb tk) wds ord with
      | none =>
        rw [ef] at hgo
        have eR : (true, stand tb tk, log) = R := Option.some.inj hgo
        refine ⟨.non, rfl, rfl, _, rfl, iteF ?_⟩
        refine ⟨.ref fa, rfl, .ref la, rfl, (by show 3 ≤ sizeLine; decide), fun t nt => ?_⟩
        have st := same_upd (o := .tup [.str "kept", .ref fa, .ref la]) nt
        refine q _ t R (Fm.same st) (Fm.free nt) hR ?_
        rw [← eR]
        exact ⟨fa, la, upd_same, st _ _ hfa, hlog.seqs (seqs_same st), nla0⟩
      | some k =>
        rw [ef] at hgo
        dsimp only at hgo
        obtain ⟨hk1', hbk⟩ := first_some ef
        obtain ⟨k0, k1⟩ := go.mem k hk1'
        obtain ⟨wd, hw, he⟩ := wd_of k0 k1
        have gw := gr.each wd (List.mem_of_getElem? hw)
        have kn : k.toNat < was.length := by omega
        obtain ⟨wd', hw', isw⟩ := pairedGetL (w3 Fm).2 (List.getElem?_eq_getElem kn)
        rw [hw] at hw'
        cases hw'
        obtain ⟨pa, ra, rs, i1, i2, i3, i4⟩ := id isw
        have g3 := gw.three
        refine ⟨.int k, rfl, rfl, _, rfl, iteT ?_⟩
        refine ⟨fun σ' Hn => FrS Ps H Hn ∧ ∃ (tk : List Int) (log : Log) (fa : Addr), Hn ka = some (.lst (tk.map V.int)) ∧ GoodK tb tk ∧ Hn fa = some (.tup ((stand tb tk).map V.int)) ∧ IsLog Hn la log ∧ LogOk wds log ∧ log.length + rem tb tk ≤ 6000 ∧ goR wds tb ord m tk log = some R ∧
          ∃ y8 y9, σ' = [some (.ref ri), some (.ref ta), some (.ref oa), some (.ref wt), some (.ref ka), some (.ref fa), some (.ref la), some (vOpt (firstB (stand tb tk) wds ord)), y8, y9], fun σ' H' n => ⟨m, Nat.lt_succ_self _, n⟩, ?_⟩
        -- places
        refine ⟨.ref wt, rfl, .int k, rfl, wt, _, k, _, rfl, rfl, .inl (.inl (w3 Fm).1), atI_of k0 (List.getElem?_eq_getElem kn), _, _, 0, _, rfl, rfl, .inl (.inl i1), atI_nat (j := 0) rfl, ?_⟩
        have hpr : ∀ p ∈ wd.1, 0 ≤ p ∧ p < (tb.length : Int) := fun p hp => by
          have := gw.pl p hp
          omega
        refine ⟨.ref ta, rfl, .ref ka, rfl, .ref pa, rfl, ta, ka, pa, tb, tk, wd.1, rfl, inm.tab, hk, gk.len, i2, hpr, hTm, fun H5 f5 => ⟨_, rfl, ite2 (fun e => ?_) (fun e => ?_)⟩⟩
        · have ec : canN tb tk wd.1 = false := by
            cases c : canN tb tk wd.1 with
            | true => rw [c] at e; exact absurd e (by decide)
            | false => rfl
          rw [← he] at ec
          rw [ec, if_neg (by decide)] at hgo
          have eR : (false, stand tb tk, log) = R := Option.some.inj hgo
          have F5 := Fm.trans f5
          refine ⟨.ref fa, rfl, .ref la, rfl, (by show 3 ≤ sizeLine; decide), fun t nt => ?_⟩
          have st := same_upd (o := .tup [.str "spent", .ref fa, .ref la]) nt
          refine q _ t R (F5.same st) (F5.free nt) hR ?_
          rw [← eR]
          exact ⟨fa, la, upd_same, st _ _ (f5.tups hTm _ _ hfa), (hlog.seqs (f5.seqs hTm)).seqs (seqs_same st), nla0⟩
        · have ec : canN tb tk wd.1 = true := by
            cases c : canN tb tk wd.1 with
            | true => rfl
            | false => rw [c] at e; exact absurd rfl e
          rw [← he] at ec
          rw [ec, if_pos rfl] at hgo
          have hgo2 : goR wds tb ord m (bumpA tk (plc wds k)) (log ++ [(k, huesA (stand tb tk) (plc wds k))]) = some R := hgo
          have cn := can_of gr nd gt hw he ec
          obtain ⟨g2, r2⟩ := bumpA_good gk cn
          have one := gw.one
          have F5 := Fm.trans f5
          have sq5 := f5.seqs hTm
          have hlog5 := hlog.seqs sq5
          obtain ⟨es, hl5, pe⟩ := hlog5
          have el := pairedLen pe
          -- log
          refine ⟨.ref la, rfl, .inl ⟨rfl, _, .inl (.inl hl5)⟩, .int k, rfl, .ref fa, rfl, .ref pa, rfl, fa, pa, _, wd.1, many, hues, rfl, sq5.1 _ _ hfa, sq5.1 _ _ i2, stand_good gt gk, gw.pl, by omega, f5.2, fun H6 r f6 nr hr6 => ?_⟩
          have F6 := F5.trans f6
          refine ⟨(by show 2 ≤ sizeLine; decide), fun e6 ne6 => ?_⟩
          have s7 := same_upd (o := .tup [.int k, .ref r]) ne6
          have hl6 := f6.1 la _ nlP hl5
          refine ⟨la, _, .ref e6, rfl, rfl, s7 _ _ hl6, ?_, ?_⟩
          · rw [List.length_map, el]
            exact Nat.lt_of_le_of_lt (show log.length ≤ 6000 by omega) (by decide)
          have hl7 : upd H6 e6 (.tup [.int k, .ref r]) la = some (.lst (es.map V.ref)) := s7 _ _ hl6
          have F7 : FrS Ps H (upd (upd H6 e6 (.tup [.int k, .ref r])) la (.lst (es.map V.ref ++ [.ref e6]))) := (F6.same s7).put nla0 nlP
          have tu7 : Tups H6 (upd (upd H6 e6 (.tup [.int k, .ref r])) la (.lst (es.map V.ref ++ [.ref e6]))) := (tups_same s7).trans (tups_upd fun xs z => by rw [hl7] at z; cases z)
          have hlog7 : IsLog (upd (upd H6 e6 (.tup [.int k, .ref r])) la (.lst (es.map V.ref ++ [.ref e6]))) la (log ++ [(k, huesA (stand tb tk) (plc wds k))]) := by
            refine ⟨es ++ [e6], by rw [upd_same, List.map_append]; rfl, pairedSnoc (pairedMap (fun _ _ e => e.mono ((f6.tups f5.2).trans tu7)) pe) ⟨r, ?_, ?_⟩⟩
            · rw [upd_ne (fun z => by rw [z, hl6] at ne6; cases ne6)]
              exact upd_same
            · rw [he]
              exact tu7 _ _ hr6
          have hk7 : upd (upd H6 e6 (.tup [.int k, .ref r])) la (.lst (es.map V.ref ++ [.ref e6])) ka = some (.lst (tk.map V.int)) := by
            rw [upd_ne (Ne.symm nlk)]
            exact s7 _ _ (f6.1 ka _ nkP (f5.1 ka _ nkP hk))
          have hpa7 := tu7 _ _ (f6.tups f5.2 _ _ (sq5.1 _ _ i2))
          generalize upd (upd H6 e6 (.tup [.int k, .ref r])) la (.lst (es.map V.ref ++ [.ref e6])) = H7 at F7 hlog7 hk7 hpa7
          -- taken
          refine ⟨.ref pa, rfl, pa, rfl, ⟨_, .inl (.inl hpa7)⟩, ?_⟩
          refine for_tup (K := K) (a := pa) (xs := wd.1.map V.int) (fun i σ H8 => FrS Ps H H8 ∧ (∀ b o, b ≠ ka → H7 b = some o → H8 b = some o) ∧ H8 ka = some (.lst ((bumpA tk (wd.1.take i)).map V.int)) ∧ ∃ y9, σ = [some (.ref ri), some (.ref ta), some (.ref oa), some (.ref wt), some (.ref ka), some (.ref fa), some (.ref la), some (.int k), some (.ref pa), y9]) ⟨F7, fun _ _ _ e => e, hk7, _, rfl⟩ (fun i σ H8 _ p => .inl (.inl (p.2.1 _ _ (fun z => by rw [z, hk7] at hpa7; cases hpa7) hpa7))) (fun i x σ H8 hx pp => ?_) (fun σ H8 pp => ?_)
          · obtain ⟨F8, kp8, hk8, y9', rfl⟩ := pp
            obtain ⟨p, ep, rfl⟩ := map_get hx
            have hpp := hpr p (List.mem_of_getElem? ep)
            have hpl : p < ((bumpA tk (wd.1.take i)).length : Int) := by rw [bumpA_len, gk.len]; exact hpp.2
            have hat := atT hpp.1 hpl
            refine ⟨.ref ka, rfl, .int p, rfl, ka, _, p.toNat, _, rfl, congrArg V.int (by omega), .inl (.inl hk8), map_at hat, _, 1, rfl, rfl, ka, _, p, p.toNat, rfl, rfl, hk8, ?_, ?_⟩
            · rw [List.length_map]
              exact ixN_of hpp.1 hpl
            · refine ⟨F8.put nka0 nkP, fun b o n e => by rw [upd_ne n]; exact kp8 b o n e, ?_, _, rfl⟩
              rw [upd_same, take_snoc ep, bumpA_snoc, bump_eq hat, List.map_set]
          · obtain ⟨F8, kp8, hk8, y9', rfl⟩ := pp
            rw [List.length_map, List.take_length, ← he] at hk8
            have in8 := hin.seqs (F8.seqs hT)
            -- filling
            refine ⟨.ref ta, rfl, .ref ka, rfl, ta, ka, tb, _, rfl, in8.tab, hk8, g2, by omega, F8.2, fun H9 fa9 f9 nfa9 hfa9 => ?_⟩
            have F9 := F8.trans f9
            have in9 := hin.seqs (F9.seqs hT)
            -- number
            refine ⟨.ref wt, rfl, .ref oa, rfl, .ref fa9, rfl, wt, oa, fa9, was, wds, ord, _, many, hues, rfl, (w3 F9).1, (w3 F9).2, gr, in9.ho, go.mem, hfa9, stand_good gt g2, F9.2, fun H10 f10 => ?_⟩
            have F10 := F9.trans f10
            have sq : Seqs H8 H10 := (f9.seqs F8.2).trans (f10.seqs F9.2)
            have hlog8 : IsLog H8 la (log ++ [(k, huesA (stand tb tk) (plc wds k))]) := hlog7.keep (fun b xs e => kp8 b _ (fun z => by rw [z, hk7] at e; cases e) e) fun xs e => kp8 _ _ nlk e
            refine ⟨F10, bumpA tk (plc wds k), _, fa9, sq.2 _ _ hk8, g2, f10.tups F9.2 _ _ hfa9, hlog8.seqs sq, okl.snoc k0 k1 hw he hbk, ?_, hgo2, _, _, rfl⟩
            rw [List.length_append, List.length_singleton]
            rw [he] at r2
            rw [he]
            omega
end
end Rd

set_option Elab.async false
set_option linter.all false
set_option maxRecDepth 100000
set_option maxHeartbeats 4000000
namespace Rd
open PySem PySem.Spec PyProof.Rows L2 Dt
abbrev sMnd : Stmt := topS 22
abbrev nMnd : List Str := ["wishes", "pair", "number", "row"]
theorem scMnd : FnScope nMnd ["wishes", "pair"] (defScope sMnd) := ⟨rfl, rfl, rfl, by decide +kernel, rfl, by decide +kernel, by decide +kernel⟩
abbrev sIlg : Stmt := topS 23
abbrev nIlg : List Str := ["riddle", "log", "wishes", "pair"]
theorem scIlg : FnScope nIlg ["riddle", "log"] (defScope sIlg) := ⟨rfl, rfl, rfl, by decide +kernel, rfl, by decide +kernel, by decide +kernel⟩
abbrev sTol : Stmt := topS 24
abbrev nTol : List Str := ["riddle", "filling", "log", "wishes", "table", "number", "row", "place", "hue"]
theorem scTol : FnScope nTol ["riddle", "filling", "log"] (defScope sTol) := ⟨rfl, rfl, rfl, by decide +kernel, rfl, by decide +kernel, by decide +kernel⟩
def spNum : Sp := fun vs H Q _ => ∃ t lo hi : Int, vs = [.int t, .int lo, .int hi] ∧ Q (.bl (decide (lo ≤ t ∧ t ≤ hi))) H
def spHus (Ps : List Addr) : Sp := fun vs H Q _ => ∃ (ra : Addr) (row : Dt.Row) (n hues : Int), vs = [.ref ra, .int n, .int hues] ∧ n = (row.length : Int) ∧ Tabs Ps H ∧ IsRow H ra row ∧ (∀ h ∈ row, 0 ≤ h ∧ h < hues) ∧ ∀ H', FrS Ps H H' → Q (.bl true) H'
def spMnd : Sp := fun vs H Q _ => ∃ (wt e : Addr) (was : List Addr) (wds : List WD) (many hues : Int) (x : Int × List Int), vs = [.ref wt, .ref e] ∧ H wt = some (.tup (was.map V.ref)) ∧ Paired (IsWish H) was wds ∧ GoodR many hues wds ∧ IsEnt H e x ∧ Q (.bl (entB wds x)) H
def spIlg (Ps : List Addr) : Sp := fun vs H Q _ => ∃ (ri la : Addr) (many hues : Int) (wds : List WD) (log : Log), vs = [.ref ri, .ref la] ∧ IsRid H ri many hues wds ∧ GoodR many hues wds ∧ IsLog H la log ∧ Tabs Ps H ∧ ∀ H', FrS Ps H H' → Q (.bl (logB wds log)) H'
def spTol (Ps : List Addr) : Sp := fun vs H Q _ => ∃ (ri fa la : Addr) (many hues : Int) (wds : List WD) (fs : List Int) (log : Log), vs = [.ref ri, .ref fa, .ref la] ∧ IsRid H ri many hues wds ∧ GoodR many hues wds ∧ IsRow H fa fs ∧ GoodF many hues fs ∧ IsLog H la log ∧ LogOk wds log ∧ log.length ≤ 6000 ∧ Tabs Ps H ∧
  ∀ H' ta das, FrS Ps H H' → NewTab H H' ta das (toldT wds fs log) → Q (.ref ta) H'
def spIsr (Ps : List Addr) : Sp := fun vs H Q _ => ∃ (ri oa fa la : Addr) (many hues : Int) (wds : List WD) (ord : List Int) (b : Bool) (fs : List Int) (log : Log), vs = [.ref ri, .ref oa, .str (endS b), .ref fa, .ref la] ∧ IsRid H ri many hues wds ∧ GoodR many hues wds ∧ (∀ wd ∈ wds, wd.1.Nodup) ∧ H oa = some (.tup (ord.map V.int)) ∧ GoodO wds.length ord ∧ IsRow H fa fs ∧ GoodF many hues fs ∧ IsLog H la log ∧ log.length ≤ 6000 ∧ (logB wds log = true → ∀ ds ∈ toldT wds fs log, ds.length ≤ 1000) ∧ Tabs Ps H ∧
  ∀ H', FrS Ps H H' → Q (.bl (isRunB wds ord b fs log)) H'
structure TxtI (mg : Str → Option Value) : Prop where
  m_isinstance : mg "isinstance" = none
  m_int : mg "int" = none
  m_bool : mg "bool" = none
  m_tuple : mg "tuple" = none
  m_len : mg "len" = none
  m_all : mg "all" = none
structure TxtI1 (P : Program) (w : World) (K : PySem.W.Frag) (mg : Str → Option Value) (base : Heap) : Prop extends TxtI mg where
  c_is_number : Cal P w K mg base 1 "is_number" ["thing", "low", "high"] spNum
structure TxtI2 (P : Program) (w : World) (K : PySem.W.Frag) (mg : Str → Option Value) (base : Heap) : Prop where
  m_all : mg "all" = none
  c_is_mending : Cal P w K mg base 1 "is_mending" ["wishes", "pair"] spMnd
structure TxtI3 (P : Program) (w : World) (K : PySem.W.Frag) (mg : Str → Option Value) (base : Heap) (Ps : List Addr) : Prop where
  m_zip : mg "zip" = none
  m_enumerate : mg "enumerate" = none
  c_is_log : Cal P w K mg base 3 "is_log" ["riddle", "log"] (spIlg Ps)
structure TxtI4 (P : Program) (w : World) (K : PySem.W.Frag) (mg : Str → Option Value) (base : Heap) (Ps : List Addr) : Prop where
  c_are_hues : Cal P w K mg base 3 "are_hues" ["thing", "length", "hues"] (spHus Ps)
  c_is_log : Cal P w K mg base 3 "is_log" ["riddle", "log"] (spIlg Ps)
  c_told_back : Cal P w K mg base 4 "told_back" ["riddle", "filling", "log"] (spTol Ps)
  c_run : Cal P w K mg base 6 "run" ["riddle", "table", "order"] (spRun Ps)
section
variable {P : Program} {w : World} {K : PySem.W.Frag} {mg : Str → Option Value} {base : Heap}
theorem ok_mnd {f : Addr} {fd : FuncData} {k : Nat} (F : Fun K "is_mending" "is_mending" sMnd f fd) (T : TxtI mg) : FnOk P w K mg base CX0 (k + 1) f fd ["wishes", "pair"] spMnd := by
  refine F.ok scMnd (fun vs H Q E h => ?_) (fun cdv A outer s H vs Q E hr h => ?_)
  · obtain ⟨wt, e, was, wds, many, hues, x, rfl, _⟩ := h
    rfl
  · obtain ⟨wt, e, was, wds, many, hues, x, rfl, hw, pw, gr, ⟨r, he, hr5⟩, q⟩ := h
    refine ⟨_, (pss_cons (ps_asg (pv 1) (pg_tup rfl (pgs_cons (pg_name (i := 2) scMnd.nd rfl (Or.inl rfl)) (pgs_cons (pg_name (i := 3) scMnd.nd rfl (Or.inl rfl)) pgs_nil))))
  (pss_one (ps_ret (pe_and (pe_chain op_le op_lt pe_int (pv 2) (pe_callB call_len_seq (by rfl) T.m_len (by decide +kernel) (pa_cons (pv 0) pa_nil))) (pe_one (pe_cmpR (Dt.op_inT (units65 hr)) (pv 3) (pe_ix ix_tup (pe_ix ix_tup (pv 0) (pv 2) (fun _ _ => rfl)) pe_int (fun _ _ => rfl)) (by rfl))))))), ?_⟩
    have wl := pairedLen pw
    refine ⟨.ref e, rfl, e, _, rfl, .inl (.inl he), rfl, .int x.1, [.ref r], rfl, .ref r, [], rfl, rfl, ?_⟩
    have eF : ¬ (0 ≤ x.1 ∧ x.1 < (wds.length : Int)) → entB wds x = false := fun z => decide_eq_false fun y => z ⟨y.1, y.2.1⟩
    refine ⟨.int x.1, rfl, 0, x.1, rfl, rfl, _, rfl, ite2 (fun e0 => ?_) (fun e0 => ?_)⟩
    · have x0 : 0 ≤ x.1 := by simpa using e0
      refine ⟨.ref wt, rfl, wt, _, rfl, .inr (.inl (.inl hw)), x.1, _, rfl, rfl, _, rfl, ?_⟩
      rw [List.length_map, wl]
      refine ite2 (fun e1 => ?_) (fun e1 => ?_)
      · have x1 : x.1 < (wds.length : Int) := by simpa using e1
        have kn : x.1.toNat < was.length := by omega
        obtain ⟨wd, hwd, isw⟩ := pairedGetL pw (List.getElem?_eq_getElem kn)
        obtain ⟨pa, ra, rs, i1, i2, i3, i4⟩ := id isw
        have gw := gr.each wd (List.mem_of_getElem? hwd)
        refine ⟨.ref r, rfl, .ref wt, rfl, .int x.1, rfl, wt, _, x.1, _, rfl, rfl, .inl (.inl hw), atI_of x0 (List.getElem?_eq_getElem kn), _, _, 1, _, rfl, rfl, .inl (.inl i1), atI_nat (j := 1) rfl, rowD x.2, wd.2.map rowD, dpRow hr5, .tup (.inl (.inl i3)) (dpRows i4), shaped_row _, ?_, ?_⟩
        · refine (Fine.tuple (fineAll_map wd.2 (n := 2) (w := 64) fun r hr => fine_row (fun z hz => ?_) ?_)).shaped (by decide)
          · have := (gw.row r hr).2 z hz
            have := gr.h4
            omega
          · have := (gw.row r hr).1
            have := gw.three
            omega
        · rw [anyRows]
          have ee : entB wds x = decide (x.2 ∈ wd.2) := by
            unfold entB
            rw [getD_of hwd]
            by_cases c : x.2 ∈ wd.2
            · rw [decide_eq_true c]; exact decide_eq_true ⟨x0, x1, c⟩
            · rw [decide_eq_false c]; exact decide_eq_false fun z => c z.2.2
          rw [ee] at q
          exact q
      · have x1 : ¬ x.1 < (wds.length : Int) := by simpa using e1
        rw [eF fun z => x1 z.2] at q
        exact q
    · have x0 : ¬ 0 ≤ x.1 := by simpa using e0
      rw [eF fun z => x0 z.1] at q
      exact ⟨false, rfl, iteF q⟩
theorem ok_ilg {f c Pl : Addr} {fd : FuncData} {Ps : List Addr} {k : Nat} (F : FunC K "is_log" "is_log" sIlg f fd (.ref c)) (TB : GxR.TabB base mg c Pl) (hP : Pl ∈ Ps) (T : TxtI2 P w K mg base) : FnOk P w K mg base CX0 (k + 3) f fd ["riddle", "log"] (spIlg Ps) := by
  refine F.ok scIlg (fun vs H Q E h => ?_) (fun A outer s H vs Q E hr h => ?_)
  · obtain ⟨ri, la, many, hues, wds, log, rfl, _⟩ := h
    rfl
  · obtain ⟨ri, la, many, hues, wds, log, rfl, rid, gr, hlog, hT, q⟩ := h
    refine ⟨_, (pss_cons (ps_set (i := 2) scIlg.nd rfl (Or.inr rfl) (pe_ix ix_tup (pv 0) pe_int (fun _ _ => rfl)))
  (pss_one (ps_ret (Gx.pe_allX (own := [("pair", 3)]) (te := tCall spMnd [] E0 (tCons (tVar 2) (tCons (tVar 3) tNil))) hr (by rfl) T.m_all rfl scIlg.nd TB rfl (blkOk_by (own := [("pair", 3)]) (N := nIlg) (sc := defScope sIlg) (by decide +kernel)) ⟨rfl, by decide +kernel, rfl⟩ (pi_list (pv 1))
   (fun _ _ _ _ _ _ hA => (pg_name (i := 3) scIlg.nd rfl (Or.inl rfl))) (fun _ _ _ _ _ _ hA => pts_nil) (fun _ _ _ _ _ _ hA => (pe_cal T.c_is_mending (hA.mono (by omega)) (by rfl) (pa_cons (pv 2) (pa_cons (pv 3) pa_nil)))))))), ?_⟩
    obtain ⟨wt, was, h1, h2, h3⟩ := id rid
    obtain ⟨es, hl, pe⟩ := id hlog
    have el := pairedLen pe
    refine ⟨.ref ri, rfl, ri, _, 2, _, rfl, rfl, .inl (.inl h1), atI_nat (j := 2) rfl, .ref la, rfl, la, rfl, ⟨_, .inl (.inl hl)⟩, hT _ hP, fun H2 tb => ?_⟩
    have f2 := FrS.one hT hP tb
    refine Gx.all_list (K := K) (a := la) (xs := es.map V.ref) (fun i H3 => FrS Ps H H3 ∧ logB wds (log.take i) = true) ⟨f2, rfl⟩ (fun i H3 _ f3 => .inl (.inl ((f3.1.seqs hT).2 _ _ hl))) (fun i x H3 hx f3 => ?_) (fun H3 f3 => ?_)
    · obtain ⟨e, ee, rfl⟩ := map_get hx
      obtain ⟨f3, e3⟩ := f3
      obtain ⟨x, ex, isx⟩ := pairedGetL pe ee
      have tu := f3.tups hT
      refine ⟨rfl, yes_if ?_⟩
      refine ⟨.ref wt, rfl, .ref e, rfl, wt, e, was, wds, many, hues, x, rfl, tu _ _ h2, pairedMap (fun _ _ z => IsWish.mono tu z) h3, gr, isx.mono tu, _, rfl, ?_⟩
      have e4 : logB wds (log.take (i + 1)) = (logB wds (log.take i) && entB wds x) := by
        rw [take_snoc ex, logB, logB, List.all_append]
        simp
      cases c : entB wds x with
      | true =>
        rw [if_pos rfl]
        exact ⟨f3, by rw [e4, e3, c]; rfl⟩
      | false =>
        rw [if_neg (by decide)]
        have e5 : logB wds log = false := by
          rw [logB, List.all_eq_false]
          exact ⟨x, List.mem_of_getElem? ex, by rw [c]; decide⟩
        have := q H3 f3
        rw [e5] at this
        exact this
    · obtain ⟨f3, e3⟩ := f3
      rw [List.length_map, el, List.take_length] at e3
      have := q H3 f3
      rw [e3] at this
      exact this
set_option maxHeartbeats 16000000 in
theorem ok_tol {f : Addr} {fd : FuncData} {Ps : List Addr} {k : Nat} (F : Fun K "told_back" "told_back" sTol f fd) (T : TxtI3 P w K mg base Ps) : FnOk P w K mg base CX0 (k + 4) f fd ["riddle", "filling", "log"] (spTol Ps) := by
  refine F.ok scTol (fun vs H Q E h => ?_) (fun cdv A outer s H vs Q E hr h => ?_)
  · obtain ⟨ri, fa, la, many, hues, wds, fs, log, rfl, _⟩ := h
    rfl
  · obtain ⟨ri, fa, la, many, hues, wds, fs, log, rfl, rid, gr, hfa, gf, hlog, okl, ll, hT, q⟩ := h
    have hfa : H fa = some (.tup (fs.map V.int)) := hfa
    refine ⟨_, (pss_cons (ps_if (pt_not (pt_val (pe_cal T.c_is_log (hr.mono (by omega)) (by rfl) (pa_cons (pv 0) (pa_cons (pv 2) pa_nil)))))
  (pss_one Rd.ps_never) pss_nil)
  (pss_cons (ps_set (i := 3) scTol.nd rfl (Or.inl rfl) (pe_ix ix_tup (pv 0) pe_int (fun _ _ => rfl)))
  (pss_cons (ps_setLc (i := 4) (te := tLst tNil) (own := [("hue", 8)]) rfl scTol.nd rfl rfl (sw_true rfl rfl rfl (by decide +kernel)) (pi_tup (pv 1)) (blkOk_by (own := [("hue", 8)]) (N := nTol) (sc := defScope sTol) (by decide +kernel))
   (fun _ _ _ _ _ => (pg_name (i := 8) scTol.nd rfl (Or.inl rfl))) (fun _ _ _ _ _ => pts_nil) (fun _ _ _ _ _ => (pe_lst pa_nil)))
  (pss_cons (ps_for PassesOwn.never rfl (pi_list (pv 2)) (pg_tup rfl (pgs_cons (pg_name (i := 5) scTol.nd rfl (Or.inl rfl)) (pgs_cons (pg_name (i := 6) scTol.nd rfl (Or.inl rfl)) pgs_nil)))
  (pss_one (ps_for PassesOwn.never rfl (RZ.pi_zipA (by rfl) T.m_zip (pa_cons (pe_ix ix_tup (pe_ix ix_tup (pv 3) (pv 5) (fun _ _ => rfl)) pe_int (fun _ _ => rfl)) (pa_cons (pv 6) pa_nil))) (pg_tup rfl (pgs_cons (pg_name (i := 7) scTol.nd rfl (Or.inl rfl)) (pgs_cons (pg_name (i := 8) scTol.nd rfl (Or.inl rfl)) pgs_nil)))
  (pss_one (ps_expr (pe_bm PySem.F.plainAttrs_list PySem.F.slot_list_append PySem.F.type_list_append mt_append (pe_ix ix_list (pv 4) (pv 7) (fun _ _ => rfl)) (pa_cons (pv 8) pa_nil)))))))
  (pss_cons (ps_for PassesOwn.never rfl (Et.pi_enumT (by rfl) T.m_enumerate (pa_cons (pv 1) pa_nil)) (pg_tup rfl (pgs_cons (pg_name (i := 7) scTol.nd rfl (Or.inl rfl)) (pgs_cons (pg_name (i := 8) scTol.nd rfl (Or.inl rfl)) pgs_nil)))
  (pss_one (ps_expr (pe_bm PySem.F.plainAttrs_list PySem.F.slot_list_append PySem.F.type_list_append mt_append (pe_ix ix_list (pv 4) (pv 7) (fun _ _ => rfl)) (pa_cons (pv 8) pa_nil)))))
  (pss_one (ps_ret (pv 4)))))))), ?_⟩
    refine ⟨.ref ri, rfl, .ref la, rfl, ri, la, many, hues, wds, log, rfl, rid, gr, hlog, hT, fun H1 f1 => ?_⟩
    rw [logB_of okl]
    refine ⟨true, rfl, iteF ?_⟩
    obtain ⟨wt, was, h1, h2, h3⟩ := id rid
    obtain ⟨es, hl, pe⟩ := id hlog
    have el := pairedLen pe
    have wl := pairedLen h3
    have gl := gf.len
    have m6 := gr.m6
    refine ⟨.ref ri, rfl, ri, _, 2, _, rfl, rfl, .inl (.inl (f1.tups hT _ _ h1)), atI_nat (j := 2) rfl, ?_⟩
    -- table
    refine ⟨.ref fa, rfl, fa, rfl, ⟨_, .inl (.inl (f1.tups hT _ _ hfa))⟩, fun ta nta => ?_⟩
    have nta0 : H ta = none := f1.free nta
    have ntP : ta ∉ Ps := hT.new nta0
    refine lc_tup (K := K) (a := fa) (xs := fs.map V.int) (fun i H2 => FrS Ps H H2 ∧ ∃ das : List Addr, das.length = i ∧ NewTab H H2 ta das (List.replicate i [])) ⟨f1.put nta0 ntP, [], rfl, upd_same, nta0, List.nodup_nil, (fun _ h => nomatch h), .nil⟩ (fun i H2 _ p => .inl (.inl (p.1.tups hT _ _ hfa))) (fun i x H2 hx p => ?_) (fun H2 p => ?_)
    · obtain ⟨f2, das, dl, nt⟩ := p
      have hi : i < fs.length := by
        have := (List.getElem?_eq_some_iff.mp hx).1
        rw [List.length_map] at this
        exact this
      refine ⟨rfl, yes_if ?_⟩
      refine ⟨(by show 0 ≤ sizeLine; decide), fun d nd => ?_⟩
      have sd := same_upd (o := .lst []) nd
      have nda : d ≠ ta := (ne_of_none nt.ht nd).symm
      have nd0 : H d = none := f2.free nd
      refine ⟨_, sd _ _ nt.ht, ?_, (f2.same sd).put nta0 ntP, das ++ [d], ?_, ?_⟩
      · rw [List.length_map]
        exact small1000 (by omega)
      · rw [List.length_append, dl]; rfl
      · refine ⟨by rw [upd_same, List.map_append]; rfl, nta0, ?_, fun b hb => ?_, ?_⟩
        · refine List.nodup_append.mpr ⟨nt.nd, List.nodup_cons.mpr ⟨List.not_mem_nil, List.nodup_nil⟩, fun x hx y hy => ?_⟩
          rw [List.mem_singleton.mp hy]
          exact paired_fresh nt.pr nd x hx
        · rcases List.mem_append.mp hb with hb | hb
          · exact nt.new b hb
          · rw [List.mem_singleton.mp hb]; exact ⟨nd0, nda⟩
        · rw [List.replicate_succ']
          refine pairedSnoc (paired_upd (pairedMap (fun _ _ e => sd _ _ e) nt.pr) fun b hb => (nt.new b hb).2) ?_
          show upd _ ta _ d = _
          rw [upd_ne nda]
          exact upd_same
    obtain ⟨f2, das, dl, nt⟩ := p
    rw [List.length_map] at dl nt
    have h33 : ∀ wd ∈ wds, wd.1.length ≤ 3 := fun wd hw => (gr.each wd hw).three
    -- the log
    refine ⟨.ref la, rfl, la, rfl, ⟨_, .inl (.inl ((f2.seqs hT).2 _ _ hl))⟩, ?_⟩
    refine for_list (K := K) (a := la) (xs := es.map V.ref) (fun i σ H3 => FrS Ps H H3 ∧ NewTab H H3 ta das (toldL wds fs.length (log.take i)) ∧ ∃ y5 y6 y7 y8, σ = [some (.ref ri), some (.ref fa), some (.ref la), some (.ref wt), some (.ref ta), y5, y6, y7, y8]) ⟨f2, nt, none, none, none, none, rfl⟩ (fun i σ H3 _ p => .inl (.inl ((p.1.seqs hT).2 _ _ hl))) (fun i x σ H3 hx p => ?_) (fun σ H3 p => ?_)
    · obtain ⟨f3, nt3, y5, y6, y7, y8, rfl⟩ := p
      obtain ⟨e, ee, rfl⟩ := map_get hx
      obtain ⟨x, ex, ⟨r, hx1, hx2⟩⟩ := pairedGetL pe ee
      have hi : i < log.length := (List.getElem?_eq_some_iff.mp ex).1
      obtain ⟨x0, x1, wd, hwd, hrow⟩ := okl x (List.mem_of_getElem? ex)
      have gw := gr.each wd (List.mem_of_getElem? hwd)
      have g3 := gw.three
      have grow := gw.row _ hrow
      have ep : plc wds x.1 = wd.1 := by rw [plc, getD_of hwd]
      have kn : x.1.toNat < was.length := by omega
      obtain ⟨wd', hwd', isw⟩ := pairedGetL h3 (List.getElem?_eq_getElem kn)
      rw [hwd] at hwd'
      cases hwd'
      obtain ⟨pa, ra, rs, i1, i2, i3, i4⟩ := id isw
      have tu := f3.tups hT
      refine ⟨e, _, rfl, .inl (.inl (tu _ _ hx1)), rfl, .int x.1, [.ref r], rfl, .ref r, [], rfl, rfl, ?_⟩
      refine ⟨.ref wt, rfl, .int x.1, rfl, wt, _, x.1, _, rfl, rfl, .inl (.inl (tu _ _ h2)), atI_of x0 (List.getElem?_eq_getElem kn), _, _, 0, _, rfl, rfl, .inl (.inl (tu _ _ i1)), atI_nat (j := 0) rfl, .ref r, rfl, pa, r, wd.1.map V.int, x.2.map V.int, rfl, .inr ⟨.inl (.inl (tu _ _ i2)), .inl (.inl (tu _ _ hx2)), ?_⟩⟩
      refine RZ.for_zipT (K := K) (by rw [List.length_map, List.length_map, grow.1]) (fun j σ H4 => FrS Ps H H4 ∧ NewTab H H4 ta das (appA (toldL wds fs.length (log.take i)) (wd.1.take j) (x.2.take j)) ∧ ∃ y7 y8, σ = [some (.ref ri), some (.ref fa), some (.ref la), some (.ref wt), some (.ref ta), some (.int x.1), some (.ref r), y7, y8]) ⟨f3, nt3, _, _, rfl⟩ (fun j σ H4 p => ⟨.inl (.inl (p.1.tups hT _ _ i2)), .inl (.inl (p.1.tups hT _ _ hx2))⟩) (fun j xv yv Tt σ H4 hxv hyv p nT => ?_) (fun σ H4 p => ?_)
      · obtain ⟨f4, nt4, z7, z8, rfl⟩ := p
        obtain ⟨pl, epl, rfl⟩ := map_get hxv
        obtain ⟨hu, ehu, rfl⟩ := map_get hyv
        have hpp := gw.pl pl (List.mem_of_getElem? epl)
        have hj : j < wd.1.length := (List.getElem?_eq_some_iff.mp epl).1
        have sT := same_upd (o := .tup [.int pl, .int hu]) nT
        have nt5 := nt4.mono (seqs_same sT)
        have f5 := f4.same sT
        have hpn : pl.toNat < das.length := by omega
        obtain ⟨l, el2, hl2⟩ := pairedGetL nt5.pr (List.getElem?_eq_getElem hpn)
        have hdm := nt5.new _ (List.getElem_mem hpn)
        refine ⟨Tt, _, rfl, .inl (.inl upd_same), rfl, .int pl, [.int hu], rfl, .int hu, [], rfl, rfl, ?_⟩
        refine ⟨.ref ta, rfl, .int pl, rfl, ta, _, pl, _, rfl, rfl, .inl (.inl nt5.ht), atI_of hpp.1 (List.getElem?_eq_getElem hpn), .inl ⟨rfl, _, .inl (.inl hl2)⟩, .int hu, rfl, _, _, _, rfl, rfl, hl2, ?_, ?_⟩
        · rw [List.length_map]
          have a := appA_le (wd.1.take j) (x.2.take j) (toldL wds fs.length (log.take i)) pl.toNat
          rw [getD_of el2, List.length_take] at a
          have b := toldL_le h33 fs.length pl.toNat (log.take i)
          rw [List.length_take] at b
          exact Nat.lt_of_le_of_lt (show l.length ≤ 20000 by omega) (by decide)
        · refine ⟨f5.put hdm.1 (hT.new hdm.1), ?_, _, _, rfl⟩
          rw [appA_snoc _ epl ehu]
          have z := nt5.app (x := hu) (List.getElem?_eq_getElem hpn) el2
          rw [List.map_append] at z
          exact z
      · obtain ⟨f4, nt4, z7, z8, rfl⟩ := p
        rw [List.length_map, List.take_length, ← grow.1, List.take_length] at nt4
        refine ⟨f4, ?_, _, _, _, _, rfl⟩
        rw [take_snoc ex, toldL_snoc, ep]
        exact nt4
    · obtain ⟨f3, nt3, y5, y6, y7, y8, rfl⟩ := p
      rw [List.length_map, el, List.take_length] at nt3
      -- the filling
      refine ⟨.ref fa, rfl, fa, fs.map V.int, rfl, .inl (.inl (f3.tups hT _ _ hfa)), ?_⟩
      refine Et.for_enumT (K := K) (a := fa) (xs := fs.map V.int) (fun i σ H4 => FrS Ps H H4 ∧ NewTab H H4 ta das (finA (toldL wds fs.length log) fs i) ∧ ∃ y5 y6 y7 y8, σ = [some (.ref ri), some (.ref fa), some (.ref la), some (.ref wt), some (.ref ta), y5, y6, y7, y8]) ⟨f3, nt3, _, _, _, _, rfl⟩ (fun i σ H4 _ p => .inl (.inl (p.1.tups hT _ _ hfa))) (fun i x σ H4 Tt hx p nT => ?_) (fun σ H4 p => ?_)
      · obtain ⟨f4, nt4, z5, z6, z7, z8, rfl⟩ := p
        obtain ⟨hu, ehu, rfl⟩ := map_get hx
        have hi : i < fs.length := (List.getElem?_eq_some_iff.mp ehu).1
        have sT := same_upd (o := .tup [.int (i : Nat), .int hu]) nT
        have nt5 := nt4.mono (seqs_same sT)
        have f5 := f4.same sT
        have hpn : i < das.length := by omega
        obtain ⟨l, el2, hl2⟩ := pairedGetL nt5.pr (List.getElem?_eq_getElem hpn)
        have hdm := nt5.new _ (List.getElem_mem hpn)
        refine ⟨Tt, _, rfl, .inl (.inl upd_same), rfl, .int i, [.int hu], rfl, .int hu, [], rfl, rfl, ?_⟩
        refine ⟨.ref ta, rfl, .int i, rfl, ta, _, i, _, rfl, rfl, .inl (.inl nt5.ht), atI_nat (map_at (List.getElem?_eq_getElem hpn)), .inl ⟨rfl, _, .inl (.inl hl2)⟩, .int hu, rfl, _, _, _, rfl, rfl, hl2, ?_, ?_⟩
        · rw [List.length_map]
          have a := finA_get (toldL wds fs.length log) fs i i (by rw [toldL_len]; omega)
          rw [getD_of el2, if_neg (Nat.lt_irrefl _)] at a
          have b := toldL_le h33 fs.length i log
          rw [← a] at b
          exact Nat.lt_of_le_of_lt (show l.length ≤ 20000 by omega) (by decide)
        · refine ⟨f5.put hdm.1 (hT.new hdm.1), ?_, _, _, _, _, rfl⟩
          rw [finA_succ, getD_of ehu]
          have z := nt5.app (x := hu) (List.getElem?_eq_getElem hpn) el2
          rw [List.map_append] at z
          exact z
      · obtain ⟨f4, nt4, z5, z6, z7, z8, rfl⟩ := p
        rw [List.length_map] at nt4
        exact ⟨.ref ta, rfl, q H4 ta das f4 nt4⟩
end
end Rd

set_option Elab.async false
set_option linter.all false
set_option maxRecDepth 100000
set_option maxHeartbeats 4000000
namespace Rd
open PySem PySem.Spec PyProof.Rows L2 Dt
abbrev sCla : Stmt := topS 7
abbrev nCla : List Str := ["one", "other", "place"]
theorem scCla : FnScope nCla ["one", "other"] (defScope sCla) := ⟨rfl, rfl, rfl, by decide +kernel, rfl, by decide +kernel, by decide +kernel⟩
abbrev sCls : Stmt := topS 8
abbrev nCls : List Str := ["riddle", "wishes", "wish", "number", "other"]
theorem scCls : FnScope nCls ["riddle"] (defScope sCls) := ⟨rfl, rfl, rfl, by decide +kernel, rfl, by decide +kernel, by decide +kernel⟩
def spCla (Ps : List Addr) : Sp := fun vs H Q _ => ∃ (wa wb : Addr) (a b : WD), vs = [.ref wa, .ref wb] ∧ IsWish H wa a ∧ IsWish H wb b ∧ Tabs Ps H ∧ ∀ H', FrS Ps H H' → Q (.bl (clB a b)) H'
/-- a list of new lists, each by itself -/
def IsLL (H H' : Hp) (l : Addr) (rows : List (List Int)) : Prop := ∃ ls : List Addr, H' l = some (.lst (ls.map V.ref)) ∧ Paired (fun la row => H' la = some (.lst (row.map V.int))) ls rows ∧ ls.Nodup ∧ l ∉ ls ∧ ∀ la ∈ ls, H la = none
def spCls (Ps : List Addr) : Sp := fun vs H Q _ => ∃ (ri : Addr) (wds : List WD) (many hues : Int), vs = [.ref ri] ∧ IsRid H ri many hues wds ∧ GoodR many hues wds ∧ Tabs Ps H ∧
  ∀ H' l, FrS Ps H H' → H l = none → IsLL H H' l (clsAll wds) → Q (.ref l) H'
structure TxtY (mg : Str → Option Value) : Prop where
  m_any : mg "any" = none
structure TxtCs (P : Program) (w : World) (K : PySem.W.Frag) (mg : Str → Option Value) (base : Heap) (Ps : List Addr) : Prop where
  m_enumerate : mg "enumerate" = none
  c_clash : Cal P w K mg base 1 "clash" ["one", "other"] (spCla Ps)
section
variable {P : Program} {w : World} {K : PySem.W.Frag} {mg : Str → Option Value} {base : Heap}
theorem ok_cla {f c Pc : Addr} {Ps : List Addr} {fd : FuncData} {k : Nat} (F : FunC K "clash" "clash" sCla f fd (.ref c)) (TB : GxR.TabB base mg c Pc) (hP : Pc ∈ Ps) (T : TxtY mg) : FnOk P w K mg base CX0 (k + 1) f fd ["one", "other"] (spCla Ps) := by
  refine F.ok scCla (fun vs H Q E h => ?_) (fun A outer s H vs Q E hr h => ?_)
  · obtain ⟨wa, wb, a, b, rfl, _⟩ := h
    rfl
  · obtain ⟨wa, wb, a, b, rfl, ha, hb, hT, q⟩ := h
    refine ⟨_, pss_one (ps_ret (Gv.pe_anyG (x := "place") hr (by rfl) T.m_any TB rfl ⟨rfl, rfl, by decide +kernel, rfl, rfl, fun y hy e => ?_⟩ (pe_ix ix_tup (pv 0) pe_int (fun _ _ => rfl)) (fun _ => rfl))), ?_⟩
    · match y, hy, e with
      | _, .head _, e => exact nomatch e
      | _, .tail _ (.head _), e => exact nomatch e
      | _, .tail _ (.tail _ (.head _)), _ => exact ⟨_, rfl⟩
    obtain ⟨pa, ra, rs, a1, a2, a3, a4⟩ := ha
    obtain ⟨pb, rb, rs2, b1, b2, b3, b4⟩ := hb
    refine ⟨.ref wa, rfl, wa, _, 0, _, rfl, rfl, .inl (.inl a1), rfl, pa, a.1.map V.int, (a.1.map fun p => decide (p ∈ b.1)).map V.bl, rfl, .inr (.inl (.inl a2)), by simp, fun pins => Gv.elt_in0 (j := 1) (ns := b.1) rfl rfl rfl rfl rfl rfl rfl (.inl (.inl b1)) (.inl (.inl b2)) (hT _ hP) hr.units fun i x0 hx => ?_, hT _ hP, _, rfl, fun H2 hb => ?_⟩
    · rw [List.getElem?_map] at hx
      cases e : a.1[i]? with
      | none => rw [e] at hx; cases hx
      | some n =>
        rw [e] at hx
        cases hx
        refine ⟨n, rfl, ?_⟩
        rw [List.getElem?_map, List.getElem?_map, e]
        rfl
    · have fr : FrS Ps H H2 := FrS.one hT hP hb
      have e : (List.map (fun p => decide (p ∈ b.1)) a.1).any id = clB a b := by
        rw [List.any_map]
        rfl
      rw [e]
      exact q H2 fr
theorem ok_cls {f : Addr} {Ps : List Addr} {fd : FuncData} {k : Nat} (F : Fun K "clashing" "clashing" sCls f fd) (T : TxtCs P w K mg base Ps) : FnOk P w K mg base CX0 (k + 2) f fd ["riddle"] (spCls Ps) := by
  refine F.ok scCls (fun vs H Q E h => ?_) (fun cdv A outer s H vs Q E hr h => ?_)
  · obtain ⟨ri, wds, many, hues, rfl, _⟩ := h
    rfl
  · obtain ⟨ri, wds, many, hues, rfl, hrd, gr, hT, q⟩ := h
    refine ⟨_, (pss_cons (ps_set (i := 1) scCls.nd rfl (Or.inr rfl) (pe_ix ix_tup (pv 0) pe_int (fun _ _ => rfl)))
  (pss_one (ps_ret (pe_lc (te := tLc (Et.iEnumT K (tCons (tVar 1) tNil)) (gTup K 2 (gCons (gName 3) (gCons (gName 4) gNil))) (tB (tCall (spCla Ps) [] E0 (tCons (tVar 2) (tCons (tVar 4) tNil)))) (tVar 3) [3, 4]) (own := [("wish", 2)]) rfl scCls.nd  (pi_tup (pv 1)) (blkOk_by (own := [("wish", 2)]) (N := nCls) (sc := defScope sCls) (by decide +kernel))
   (fun _ _ _ _ _ => (pg_name (i := 2) scCls.nd rfl (Or.inr rfl))) (fun _ _ _ _ _ => pts_nil) (fun _ _ _ _ _ => (pe_lc (own := [("number", 3), ("other", 4)]) rfl scCls.nd  (Et.pi_enumT (by rfl) T.m_enumerate (pa_cons (pv 1) pa_nil)) (blkOk_by (own := [("number", 3), ("other", 4)]) (N := nCls) (sc := { kind := .function, names := [(".0", .local), ("wish", .cell), ("enumerate", .globalImplicit), ("wishes", .cell)], isGenerator := false, isCoroutine := false }) (by decide +kernel))
   (fun _ _ _ _ _ => (pg_tup rfl (pgs_cons (pg_name (i := 3) scCls.nd rfl (Or.inl rfl)) (pgs_cons (pg_name (i := 4) scCls.nd rfl (Or.inl rfl)) pgs_nil)))) (fun _ _ _ _ _ => pts_one (pt_val (pe_cal T.c_clash (hr.mono (by omega)) (by rfl) (pa_cons (pv 2) (pa_cons (pv 4) pa_nil))))) (fun _ _ _ _ _ => (pv 3)))))))), ?_⟩
    obtain ⟨wt, was, h1, h2, h3⟩ := id hrd
    have hl : was.length = wds.length := pairedLen h3
    have e8 := gr.eight
    refine ⟨.ref ri, rfl, ri, _, 2, _, rfl, rfl, .inl (.inl h1), rfl, ?_⟩
    refine ⟨.ref wt, rfl, wt, rfl, ⟨_, .inl (.inl h2)⟩, fun D nD => ?_⟩
    refine lc_tup (K := K) (a := wt) (xs := was.map V.ref) (fun i H3 => FrS Ps H H3 ∧ IsLL H H3 D ((wds.take i).map fun wd => clsL wds wd wds.length)) ⟨FrS.of hT (same_upd nD), [], upd_same, .nil, List.nodup_nil, List.not_mem_nil, fun _ z => nomatch z⟩ (fun i H3 _ p => .inl (.inl (p.1.tups hT _ _ h2))) (fun i x H3 hx p => ?_) (fun H3 p => ?_)
    · obtain ⟨fr, ls, hD, pl, nd, nDl, fl⟩ := p
      rw [List.getElem?_map] at hx
      cases ew : was[i]? with
      | none => rw [ew] at hx; cases hx
      | some wa =>
        rw [ew] at hx
        cases hx
        obtain ⟨wd, hwd, isw⟩ := pairedGetL h3 ew
        have hi : i < was.length := (List.getElem?_eq_some_iff.mp ew).1
        refine ⟨rfl, yes_if ?_⟩
        refine ⟨.ref wt, rfl, wt, was.map V.ref, rfl, .inl (.inl (fr.tups hT _ _ h2)), fun D2 nD2 => ?_⟩
        refine Et.lc_enumT (K := K) (a := wt) (xs := was.map V.ref) (fun j H5 => FrS Ps H3 H5 ∧ H5 D2 = some (.lst ((clsL wds wd j).map V.int))) ⟨FrS.of fr.2 (same_upd nD2), upd_same⟩ (fun j H5 _ pp => .inl (.inl ((fr.trans pp.1).tups hT _ _ h2))) (fun j x H5 T2 hx pp nT => ?_) (fun H5 pp => ?_)
        · obtain ⟨fr5, hD5⟩ := pp
          rw [List.getElem?_map] at hx
          cases eb : was[j]? with
          | none => rw [eb] at hx; cases hx
          | some wb =>
            rw [eb] at hx
            cases hx
            obtain ⟨wd2, hwd2, isw2⟩ := pairedGetL h3 eb
            have hj : j < was.length := (List.getElem?_eq_some_iff.mp eb).1
            have sT := same_upd (o := .tup [.int (j : Nat), .ref wb]) nT
            have fr6 := (fr.trans fr5).same sT
            have t6 := fr6.tups hT
            refine ⟨T2, [.int j, .ref wb], rfl, .inl (.inl upd_same), rfl, .int j, [.ref wb], rfl, .ref wb, [], rfl, rfl, rfl, ?_⟩
            refine ⟨.ref wa, rfl, .ref wb, rfl, wa, wb, wd, wd2, rfl, isw.mono t6, isw2.mono t6, fr6.2, fun H7 fr7 => ⟨_, rfl, ?_⟩⟩
            have fr57 := (fr5.same sT).trans fr7
            have hD7 : H7 D2 = some (.lst ((clsL wds wd j).map V.int)) := (fr7.seqs fr6.2).2 _ _ (sT _ _ hD5)
            have ec := clAt_of (a := wd) hwd2
            refine ite2 (fun e => ?_) (fun e => ?_)
            · refine ⟨.int j, rfl, _, hD7, ?_, fr57.put nD2 (fr.2.new nD2), ?_⟩
              · rw [List.length_map]
                have := clsL_len wds wd j
                exact small1000 (by omega)
              · rw [upd_same, clsL_yes (ec.trans e), List.map_append]
                rfl
            · refine ⟨fr57, ?_⟩
              rw [clsL_no (ec.trans (by simpa using e))]
              exact hD7
        · obtain ⟨fr5, hD5⟩ := pp
          rw [List.length_map, hl] at hD5
          have hD5' := (fr5.seqs fr.2).2 _ _ hD
          have nn : H D2 = none := fr.free nD2
          have nDD : D2 ≠ D := fun z => by rw [z, hD] at nD2; cases nD2
          have lsl := pairedLen pl
          have keepL : ∀ la row, H3 la = some (.lst row) → la ≠ D → upd H5 D (.lst (ls.map V.ref ++ [.ref D2])) la = some (.lst row) := fun la row e n => by
            rw [upd_ne n]
            exact (fr5.seqs fr.2).2 _ _ e
          have inl : ∀ {l : List Addr} {m : List (List Int)}, Paired (fun la row => H3 la = some (.lst (row.map V.int))) l m → D ∉ l → Paired (fun la row => upd H5 D (.lst (ls.map V.ref ++ [.ref D2])) la = some (.lst (row.map V.int))) l m := fun {l m} p => by
            induction p with
            | nil => exact fun _ => .nil
            | cons h t ih => exact fun n => .cons (keepL _ _ h (fun z => n (by rw [z]; exact List.mem_cons_self))) (ih fun z => n (List.mem_cons_of_mem _ z))
          have n2 : D2 ∉ ls := fun z => by
            obtain ⟨j, hj⟩ := List.getElem?_of_mem z
            obtain ⟨row, _, e⟩ := pairedGetL pl hj
            rw [nD2] at e
            cases e
          refine ⟨_, hD5', ?_, (fr.trans fr5).put nD (hT.new nD), ls ++ [D2], ?_, ?_, ?_, ?_, ?_⟩
          · rw [List.length_map, lsl, List.length_map, List.length_take]
            exact small1000 (by omega)
          · rw [upd_same, List.map_append]
            rfl
          · rw [take_snoc hwd, List.map_append]
            refine pairedSnoc (inl pl nDl) ?_
            rw [upd_ne nDD]
            exact hD5
          · exact List.nodup_append.mpr ⟨nd, by simp, fun a ha b hb e => n2 (by rw [← List.mem_singleton.mp hb, ← e]; exact ha)⟩
          · exact fun z => (List.mem_append.mp z).elim nDl fun z => nDD (List.mem_singleton.mp z).symm
          · exact fun la z => (List.mem_append.mp z).elim (fl la) fun z => by rw [List.mem_singleton.mp z]; exact nn
    · obtain ⟨fr, ll⟩ := p
      rw [List.length_map, hl, List.take_length] at ll
      exact q H3 D fr nD ll
end
end Rd

set_option Elab.async false
set_option linter.all false
set_option maxRecDepth 100000
set_option maxHeartbeats 4000000
namespace Rd
open PySem PySem.Spec PyProof.Rows L2 Dt
abbrev sGrw : Stmt := topS 10
abbrev nGrw : List Str := ["numbers", "below", "trees", "at", "other"]
theorem scGrw : FnScope nGrw ["numbers", "below"] (defScope sGrw) := ⟨rfl, rfl, rfl, by decide +kernel, rfl, by decide +kernel, by decide +kernel⟩
def spGrw (Ps : List Addr) : Sp := fun vs H Q _ => ∃ (na ba : Addr) (nums : List Int) (bas : List Addr) (bel : List (List Int)), vs = [.ref na, .ref ba] ∧ H na = some (.lst (nums.map V.int)) ∧ H ba = some (.lst (bas.map V.ref)) ∧ Paired (IsInts H) bas bel ∧ Grows nums.length bel ∧ 1 ≤ nums.length ∧ nums.length ≤ 900 ∧ (∀ b ∈ bel, b.length ≤ 900) ∧ Tabs Ps H ∧
  ∀ H' v, FrS Ps H H' → IsTr H' v (treeI nums bel 0) → Q v H'
structure TxtG3 (mg : Str → Option Value) : Prop where
  m_len : mg "len" = none
  m_reversed : mg "reversed" = none
  m_range : mg "range" = none
  m_tuple : mg "tuple" = none
theorem ix_nat {n j : Nat} (hj : j < n) : ixN n (j : Int) = some j := by
  unfold ixN
  rw [if_pos (by omega), if_pos (by omega)]
  simp
theorem rep_ref (t : Addr) (n : Nat) : (List.replicate n [V.ref t]).flatten = List.replicate n (V.ref t) := by
  induction n with
  | zero => rfl
  | succ n ih => rw [List.replicate_succ, List.flatten_cons, ih, List.replicate_succ]; rfl
section
variable {P : Program} {w : World} {K : PySem.W.Frag} {mg : Str → Option Value} {base : Heap}
set_option maxHeartbeats 16000000 in
theorem ok_grw {f c Pt : Addr} {Ps : List Addr} {fd : FuncData} {k : Nat} (F : FunC K "grown" "grown" sGrw f fd (.ref c)) (TB : GxR.TabB base mg c Pt) (hP : Pt ∈ Ps) (T : TxtG3 mg) : FnOk P w K mg base CX0 (k + 3) f fd ["numbers", "below"] (spGrw Ps) := by
  refine F.ok scGrw (fun vs H Q E h => ?_) (fun A outer s H vs Q E hr h => ?_)
  · obtain ⟨na, ba, nums, bas, bel, rfl, _⟩ := h
    rfl
  · obtain ⟨na, ba, nums, bas, bel, rfl, hna, hba, pb, gr, n1, n9, few, hT, q⟩ := h
    refine ⟨_, (pss_cons (ps_set (i := 2) scGrw.nd rfl (Or.inr rfl) (pe_op op_rep (pe_lst (pa_cons (pe_tup pa_nil) pa_nil)) (pe_callB call_len_seq (by rfl) T.m_len (by decide +kernel) (pa_cons (pv 0) pa_nil))))
  (pss_cons (ps_for PassesOwn.never rfl (pi_revR (by rfl) T.m_reversed (prg_1 (by rfl) T.m_range (pe_callB call_len_seq (by rfl) T.m_len (by decide +kernel) (pa_cons (pv 0) pa_nil)))) (pg_name (i := 3) scGrw.nd rfl (Or.inl rfl))
  (pss_one (ps_asg (pe_tup (pa_cons (pe_ix ix_list (pv 0) (pv 3) (fun _ _ => rfl)) (pa_cons (Gx.pe_tupX (own := [("other", 4)]) (te := tOp (rIxL K) (tVar 2) (tVar 4)) hr (by rfl) T.m_tuple rfl scGrw.nd TB rfl (blkOk_by (own := [("other", 4)]) (N := nGrw) (sc := defScope sGrw) (by decide +kernel)) ⟨rfl, by decide +kernel, rfl⟩ (pi_list (pe_ix ix_list (pv 1) (pv 3) (fun _ _ => rfl)))
   (fun _ _ _ _ _ _ hA => (pg_name (i := 4) scGrw.nd rfl (Or.inl rfl))) (fun _ _ _ _ _ _ hA => pts_nil) (fun _ _ _ _ _ _ hA => (pe_ix ix_list (pv 2) (pv 4) (fun _ _ => rfl)))) pa_nil))) (pg_sub (pv 2) (pv 3) set_list))))
  (pss_one (ps_ret (pe_ix ix_list (pv 2) pe_int (fun _ _ => rfl)))))), ?_⟩
    have bl := pairedLen pb
    refine ⟨(by show 0 ≤ sizeLine; decide), fun t0 nt0 => ⟨(by show 1 ≤ sizeLine; decide), fun l1 nl1 => ?_⟩⟩
    have s0 := same_upd (o := .tup []) nt0
    have s1 := s0.trans (same_upd (o := .lst [V.ref t0]) nl1)
    refine ⟨.ref na, rfl, na, _, rfl, .inl (.inl (.inl (s1 _ _ hna))), l1, _, [.ref t0], rfl, rfl, upd_same, by omega, by rw [List.length_map]; omega, by rw [List.length_map]; show 1 * _ ≤ sizeLine; exact Nat.le_of_lt (small1000 (by omega)), fun l nl => ?_⟩
    rw [List.length_map, Int.toNat_natCast, rep_ref]
    have s2 := s1.trans (same_upd (o := .lst (List.replicate nums.length (V.ref t0))) nl)
    have nlH : H l = none := s1.free nl
    have nlP : l ∉ Ps := hT.new nlH
    have hl2 : upd (upd (upd H t0 (.tup [])) l1 (.lst [V.ref t0])) l (.lst (List.replicate nums.length (V.ref t0))) l = some (.lst (List.replicate nums.length (V.ref t0))) := upd_same
    generalize upd (upd (upd H t0 (.tup [])) l1 (.lst [V.ref t0])) l (.lst (List.replicate nums.length (V.ref t0))) = H2 at s2 hl2
    refine ⟨.ref na, rfl, na, _, rfl, .inl (.inl (.inl (s2 _ _ hna))), _, rfl, by omega, by omega, by omega, by rw [List.length_map]; omega, ?_⟩
    rw [List.length_map]
    have en : (((nums.length : Nat) : Int) - 0).toNat = nums.length := by omega
    rw [en]
    refine for_down (fun i σ H3 => FrS Ps H H3 ∧ (∃ xs : List V, H3 l = some (.lst xs) ∧ xs.length = nums.length ∧ ∀ j : Nat, nums.length - i ≤ j → j < nums.length → ∃ v, xs[j]? = some v ∧ IsTr H3 v (treeI nums bel j)) ∧ ∃ y3, σ = [some (.ref na), some (.ref ba), some (.ref l), y3, none]) ⟨FrS.of hT s2, ⟨_, hl2, List.length_replicate, fun j h1 h2 => by omega⟩, none, rfl⟩ (fun i σ H3 hi p => ?_) (fun σ H3 p => ?_)
    · obtain ⟨f3, ⟨xs, hxs, xl, tr⟩, y3, rfl⟩ := p
      obtain ⟨m, em⟩ : ∃ m : Nat, m = nums.length - 1 - i := ⟨_, rfl⟩
      have ev : (0 : Int) + ((nums.length : Nat) : Int) - 1 + (i : Nat) * (-1) = (m : Int) := by omega
      rw [ev]
      have hm : m < nums.length := by omega
      have q3 := f3.seqs hT
      have hna3 := q3.2 _ _ hna
      have hba3 := q3.2 _ _ hba
      have hbm : m < bel.length := by rw [gr.1]; exact hm
      obtain ⟨bk, ebk, ibk⟩ := pairedGet pb (List.getElem?_eq_getElem hbm)
      have ibk3 : H3 bk = some (.lst ((bel[m]).map V.int)) := q3.2 _ _ ibk
      have eb : bel.getD m [] = bel[m] := by
        rw [List.getD_eq_getElem?_getD, List.getElem?_eq_getElem hbm]
        rfl
      have gm := gr.2 m hm
      rw [eb] at gm
      have te := treeI_eq (nums := nums) gr hm
      rw [eb] at te
      have fw := few _ (List.getElem_mem hbm)
      generalize bel[m] = bm at ibk3 gm te fw
      refine ⟨.ref na, rfl, .int m, rfl, na, _, _, .int (atF nums (m : Int)), rfl, rfl, .inl (.inl hna3), atI_of (by omega) (atT (by omega) (by omega)), .ref ba, rfl, .int m, rfl, ba, _, _, .ref bk, rfl, rfl, .inl (.inl hba3), atI_nat (map_at ebk), bk, rfl, ⟨_, .inl (.inl ibk3)⟩, f3.2 _ hP, fun H4 tb => ?_⟩
      have f4 := FrS.one f3.2 hP tb
      refine Gx.tup_list (K := K) (a := bk) (xs := bm.map V.int) ?_ (fun j ys H5 => FrS Ps H3 H5 ∧ IsTrs H5 ys ((bm.take j).map fun z => treeI nums bel z.toNat)) ⟨f4, .nil⟩ (fun j ys H5 _ p => .inl (.inl ((p.1.seqs f3.2).2 _ _ ibk3))) (fun j ys H5 p => ?_) (fun j x ys H5 hx p => ?_) (fun ys H5 p => ?_)
      · rw [List.length_map]
        exact Nat.le_of_lt (small1000 (by omega))
      · rw [p.2.len, List.length_map, List.length_take]
        omega
      · obtain ⟨z, ez, rfl⟩ := map_get hx
        obtain ⟨f5, it⟩ := p
        have hz := gm z (List.mem_of_getElem? ez)
        obtain ⟨zn, rfl⟩ : ∃ zn : Nat, z = zn := ⟨z.toNat, by omega⟩
        obtain ⟨v, ev2, isv⟩ := tr zn (by omega) (by omega)
        refine ⟨rfl, yes_if ?_⟩
        refine ⟨.ref l, rfl, .int zn, rfl, l, xs, _, v, rfl, rfl, .inl (.inl (f5.1 l _ nlP hxs)), atI_nat ev2, f5, ?_⟩
        rw [take_snoc ez, List.map_append]
        exact it.snoc (isv.mono (f5.tups f3.2))
      · obtain ⟨f5, it⟩ := p
        rw [List.length_map, List.take_length] at it
        intro tk ntk
        refine ⟨(by show 2 ≤ sizeLine; decide), fun t2 nt2 => ?_⟩
        have v1 := same_upd (o := .tup ys) ntk
        have v2 := same_upd (o := .tup [.int (atF nums (m : Int)), .ref tk]) nt2
        have htk := v2 _ _ (upd_same (H := H5) (a := tk) (o := .tup ys))
        have f7 := f5.same (v1.trans v2)
        have it7 := it.mono (tups_same (v1.trans v2))
        have ht2 : upd (upd H5 tk (.tup ys)) t2 (.tup [.int (atF nums (m : Int)), .ref tk]) t2 = some (.tup [.int (atF nums (m : Int)), .ref tk]) := upd_same
        generalize upd (upd H5 tk (.tup ys)) t2 (.tup [.int (atF nums (m : Int)), .ref tk]) = H7 at v2 htk f7 it7 ht2
        have hl7 := f7.1 l _ nlP hxs
        have tu8 : Tups H7 (upd H7 l (.lst (xs.set m (.ref t2)))) := tups_upd fun zs z => by rw [hl7] at z; cases z
        have tu38 := (f7.tups f3.2).trans tu8
        refine ⟨.ref l, rfl, .int m, rfl, l, xs, _, m, rfl, rfl, hl7, ix_nat (by omega), (f3.trans f7).put nlH nlP, ⟨_, upd_same, by rw [List.length_set]; exact xl, fun j h1 h2 => ?_⟩, _, rfl⟩
        by_cases e : m = j
        · subst e
          refine ⟨.ref t2, List.getElem?_set_self (by omega), ?_⟩
          rw [te]
          exact .mk (tu8 _ _ ht2) (tu8 _ _ htk) (it7.mono tu8)
        · obtain ⟨v, ev2, isv⟩ := tr j (by omega) h2
          exact ⟨v, by rw [List.getElem?_set_ne e]; exact ev2, isv.mono tu38⟩
    · obtain ⟨f3, ⟨xs, hxs, xl, tr⟩, y3, rfl⟩ := p
      obtain ⟨v, ev2, isv⟩ := tr 0 (by omega) (by omega)
      exact ⟨.ref l, rfl, l, xs, 0, v, rfl, rfl, .inl (.inl hxs), atI_nat (j := 0) ev2, q H3 v f3 isv⟩
end
end Rd

set_option Elab.async false
set_option linter.all false
set_option maxRecDepth 100000
set_option maxHeartbeats 4000000
namespace Rd
open PySem PySem.Spec PyProof.Rows L2 Dt
abbrev sWhy : Stmt := topS 11
abbrev nWhy : List Str := ["riddle", "log", "t", "clashes", "numbers", "below", "deepest", "number", "row", "above", "depth", "at", "other"]
theorem scWhy : FnScope nWhy ["riddle", "log", "t"] (defScope sWhy) := ⟨rfl, rfl, rfl, by decide +kernel, rfl, by decide +kernel, by decide +kernel⟩
def numAt (log : Log) (t : Int) : Int := (log.getD t.toNat (0, [])).1
def revN (log : Log) (t : Int) : List Int := ((log.take t.toNat).map (·.1)).reverse
structure WhyT (wds : List WD) (log : Log) (t : Int) (T : WTr) : Prop where
  nodes : (nodesD T 0).Perm (depthsL wds (numAt log t) (revN log t))
  ok : okT (clN wds) wds.length T
  top : T.top = numAt log t
def spWhy (Ps : List Addr) : Sp := fun vs H Q _ => ∃ (ri la : Addr) (t : Int) (wds : List WD) (many hues : Int) (log : Log), vs = [.ref ri, .ref la, .int t] ∧ IsRid H ri many hues wds ∧ GoodR many hues wds ∧ IsLog H la log ∧ (∀ e ∈ log, 0 ≤ e.1 ∧ e.1 < (wds.length : Int)) ∧ log.length ≤ 800 ∧ 0 ≤ t ∧ t < (log.length : Int) ∧ Tabs Ps H ∧
  ∀ H' v T, FrS Ps H H' → IsTr H' v T → WhyT wds log t T → Q v H'
structure TxtW3 (P : Program) (w : World) (K : PySem.W.Frag) (mg : Str → Option Value) (base : Heap) (Ps : List Addr) : Prop where
  m_len : mg "len" = none
  m_reversed : mg "reversed" = none
  m_max : mg "max" = none
  c_clashing : Cal P w K mg base 2 "clashing" ["riddle"] (spCls Ps)
  c_grown : Cal P w K mg base 3 "grown" ["numbers", "below"] (spGrw Ps)
/-- what is kept of the deepest ones -/
def DI (H : Hp) (kvs : List (Key × V)) (zs : List (Int × Int)) : Prop := ∀ o : Int, (valV kvs (Sum.inl o) = none ∧ ∀ z ∈ zs, z.1 ≠ o) ∨
  ∃ (t : Addr) (d at_ : Int), valV kvs (Sum.inl o) = some (.ref t) ∧ H t = some (.tup [.int d, .int at_]) ∧ 0 ≤ at_ ∧ zs[at_.toNat]? = some (o, d) ∧ ∀ y ∈ zs, y.1 = o → y.2 ≤ d
theorem DI.mono {H H' : Hp} {kvs : List (Key × V)} {zs : List (Int × Int)} (h : DI H kvs zs) (s : Tups H H') : DI H' kvs zs := fun o => (h o).imp_right fun ⟨t, d, a, h1, h2, h3⟩ => ⟨t, d, a, h1, s _ _ h2, h3⟩
theorem DI.put {H H' : Hp} {kvs : List (Key × V)} {zs : List (Int × Int)} {n d : Int} {t : Addr} (h : DI H kvs zs) (s : Tups H H') (ht : H' t = some (.tup [.int (d + 1), .int (zs.length : Nat)])) (mx : ∀ y ∈ zs, y.1 = n → y.2 ≤ d) : DI H' (putK kvs (Sum.inl n) (.ref t)) (zs ++ [(n, d + 1)]) := fun o => by
  rw [valV_put]
  by_cases e : o = n
  · subst e
    refine .inr ⟨t, d + 1, (zs.length : Nat), by rw [if_pos rfl], ht, by omega, ?_, fun y hy ey => ?_⟩
    · rw [Int.toNat_natCast, List.getElem?_append_right (Nat.le_refl _), Nat.sub_self]
      rfl
    · rcases List.mem_append.mp hy with hy | hy
      · have := mx y hy ey
        omega
      · rw [List.mem_singleton.mp hy]
        exact Int.le_refl _
  · rw [if_neg (fun z => e (Sum.inl.inj z))]
    rcases h o with ⟨h1, h2⟩ | ⟨t, d', a, h1, h2, h3, h4, h5⟩
    · refine .inl ⟨h1, fun z hz => ?_⟩
      rcases List.mem_append.mp hz with hz | hz
      · exact h2 z hz
      · rw [List.mem_singleton.mp hz]
        exact fun y => e y.symm
    · refine .inr ⟨t, d', a, h1, s _ _ h2, h3, ?_, fun y hy ey => ?_⟩
      · rw [List.getElem?_append_left (List.getElem?_eq_some_iff.mp h4).1]
        exact h4
      · rcases List.mem_append.mp hy with hy | hy
        · exact h5 y hy ey
        · rw [List.mem_singleton.mp hy] at ey
          exact absurd ey.symm e
def refOf (kvs : List (Key × V)) (o : Int) : Option Addr := match valV kvs (Sum.inl o) with
  | some (.ref t) => some t
  | _ => none
theorem fm_snoc {α β : Type} (f : α → Option β) {l : List α} {j : Nat} {x : α} (h : l[j]? = some x) : (l.take (j + 1)).filterMap f = (l.take j).filterMap f ++ (f x).toList := by
  rw [take_snoc h, List.filterMap_append]
  cases e : f x with
  | none => simp [e]
  | some y => simp [e]
theorem wAt_of {wds : List WD} {n : Int} {wd : WD} (h : wds[n.toNat]? = some wd) : wAt wds n = wd := by
  rw [wAt, List.getD_eq_getElem?_getD, h]
  rfl
theorem cls_mem {wds : List WD} {n o : Int} {wd : WD} (h : wds[n.toNat]? = some wd) : o ∈ clsL wds wd wds.length ↔ (0 ≤ o ∧ o < (wds.length : Int)) ∧ clN wds n o = true := by
  unfold clsL clN
  rw [wAt_of h]
  constructor
  · intro z
    obtain ⟨k, hk, rfl⟩ := List.mem_map.mp z
    obtain ⟨h1, h2⟩ := List.mem_filter.mp hk
    have h1 := List.mem_range.mp h1
    have e := clAt_of (a := wd) (List.getElem?_eq_getElem h1)
    rw [e] at h2
    refine ⟨by omega, ?_⟩
    rw [wAt_of (n := (k : Int)) (wd := wds[k]) (by rw [Int.toNat_natCast]; exact List.getElem?_eq_getElem h1)]
    exact h2
  · rintro ⟨⟨o0, o1⟩, c⟩
    obtain ⟨k, rfl⟩ : ∃ k : Nat, o = k := ⟨o.toNat, by omega⟩
    have hk : k < wds.length := by omega
    rw [wAt_of (n := (k : Int)) (wd := wds[k]) (by rw [Int.toNat_natCast]; exact List.getElem?_eq_getElem hk)] at c
    exact List.mem_map.mpr ⟨k, List.mem_filter.mpr ⟨List.mem_range.mpr hk, by rw [clAt_of (a := wd) (List.getElem?_eq_getElem hk)]; exact c⟩, rfl⟩
theorem clN_self {wds : List WD} {many hues : Int} (gr : GoodR many hues wds) {n : Int} (n0 : 0 ≤ n) (n1 : n < (wds.length : Int)) : clN wds n n = true := by
  have hn : n.toNat < wds.length := by omega
  unfold clN
  rw [wAt_of (List.getElem?_eq_getElem hn)]
  have g := gr.each _ (List.getElem_mem hn)
  have o := g.one
  cases e : wds[n.toNat].1 with
  | nil => rw [e] at o; exact absurd o (by decide)
  | cons p r =>
    unfold clB
    rw [e, List.any_cons, decide_eq_true (List.mem_cons_self (a := p) (l := r))]
    rfl
/-- the lists of a walk -/
structure WL (H1 H3 : Hp) (na ba dd lt : Addr) (bas : List Addr) (kvs : List (Key × V)) (zs : List (Int × Int)) (prs : List Nat) (xs : List V) : Prop where
  fr : Same H1 H3
  hn : H3 na = some (.lst ((zs.map (·.1)).map V.int))
  hb : H3 ba = some (.lst (bas.map V.ref))
  pb : Paired (IsInts H3) bas (belOf prs)
  nd : (na :: ba :: bas).Nodup
  nw : ∀ b ∈ na :: ba :: bas, H1 b = none
  hd : H3 dd = some (.dK kvs)
  nd1 : H1 dd = none
  di : DI H3 kvs zs
  hlt : H3 lt = some (.lst xs)
  ltn : lt ∉ na :: ba :: bas
theorem pairedSet {α β : Type} {F G : α → β → Prop} {y : β} : ∀ {l : List α} {m : List β} {i : Nat} {a : α}, Paired F l m → l[i]? = some a → l.Nodup → (∀ x ∈ l, x ≠ a → ∀ b, F x b → G x b) → G a y → Paired G l (m.set i y)
  | _, _, _, _, .nil, h, _, _, _ => by simp at h
  | _, _, 0, a, .cons h t, e, nd, g, ga => by
    cases Option.some.inj (show some _ = some a from e)
    rw [List.set_cons_zero]
    obtain ⟨n1, n2⟩ := List.nodup_cons.mp nd
    exact .cons ga (pairedMem43 t fun x hx b => g x (List.mem_cons_of_mem _ hx) (fun z => n1 (by rw [← z]; exact hx)) b)
  | _, _, i + 1, a, .cons h t, e, nd, g, ga => by
    rw [List.set_cons_succ]
    obtain ⟨n1, n2⟩ := List.nodup_cons.mp nd
    exact .cons (g _ List.mem_cons_self (fun z => n1 (by rw [z]; exact List.mem_of_getElem? e)) _ h) (pairedSet t (i := i) e n2 (fun x hx => g x (List.mem_cons_of_mem _ hx)) ga)
where
  pairedMem43 {α β : Type} {F G : α → β → Prop} : ∀ {l : List α} {m : List β}, Paired F l m → (∀ a ∈ l, ∀ b, F a b → G a b) → Paired G l m
  | _, _, .nil, _ => .nil
  | _, _, .cons h t, g => .cons (g _ List.mem_cons_self _ h) (pairedMem43 t fun a ha => g a (List.mem_cons_of_mem _ ha))
theorem hu43 {k : Nat} {A : Around} (h : Room k A) : A.units + 1 < cLine := by
  have := h.units
  omega
theorem WL.more {H1 H3 : Hp} {na ba dd lt bk t2 nb : Addr} {bas : List Addr} {kvs : List (Key × V)} {zs : List (Int × Int)} {prs : List Nat} {xs : List V} (x : WL H1 H3 na ba dd lt bas kvs zs prs xs) {at_ : Nat} {n d : Int} (ok : PrOk prs) (len : zs.length = prs.length) (eb : bas[at_]? = some bk) (mx : ∀ y ∈ zs, y.1 = n → y.2 ≤ d)
    (nt2 : upd H3 bk (.lst ((kids prs at_).map V.int ++ [.int (zs.length : Nat)])) t2 = none)
    (nnb : upd (upd (upd (upd H3 bk (.lst ((kids prs at_).map V.int ++ [.int (zs.length : Nat)]))) t2 (.tup [.int (d + 1), .int (zs.length : Nat)])) dd (.dK (putK kvs (Sum.inl n) (.ref t2)))) na (.lst ((zs.map (·.1)).map V.int ++ [.int n])) nb = none) :
    WL H1 (upd (upd (upd (upd (upd (upd H3 bk (.lst ((kids prs at_).map V.int ++ [.int (zs.length : Nat)]))) t2 (.tup [.int (d + 1), .int (zs.length : Nat)])) dd (.dK (putK kvs (Sum.inl n) (.ref t2)))) na (.lst ((zs.map (·.1)).map V.int ++ [.int n]))) nb (.lst [])) ba (.lst (bas.map V.ref ++ [.ref nb])))
      na ba dd lt (bas ++ [nb]) (putK kvs (Sum.inl n) (.ref t2)) (zs ++ [(n, d + 1)]) (prs ++ [at_ + 1]) xs := by
  have mbk := List.mem_of_getElem? eb
  have ha : at_ < bas.length := (List.getElem?_eq_some_iff.mp eb).1
  have bl := pairedLen x.pb
  have bl2 : (belOf prs).length = prs.length := by unfold belOf; rw [List.length_map, List.length_range]
  obtain ⟨n1, n2⟩ := List.nodup_cons.mp x.nd
  obtain ⟨n3, n4⟩ := List.nodup_cons.mp n2
  have nab : na ≠ ba := fun z => n1 (by rw [z]; exact List.mem_cons_self)
  have nbk1 : bk ≠ na := fun z => n1 (by rw [← z]; exact List.mem_cons_of_mem _ mbk)
  have nbk2 : bk ≠ ba := fun z => n3 (by rw [← z]; exact mbk)
  obtain ⟨row, hrow, ibk⟩ := pairedGetL x.pb eb
  have ibk : H3 bk = some (.lst (row.map V.int)) := ibk
  have dna : dd ≠ na := fun z => by have := x.hd; rw [z, x.hn] at this; cases this
  have dba : dd ≠ ba := fun z => by have := x.hd; rw [z, x.hb] at this; cases this
  have dls : ∀ {b : Addr} {ys : List V}, H3 b = some (.lst ys) → b ≠ dd := fun {b ys} e z => by rw [z, x.hd] at e; cases e
  have t2n : ∀ {b : Addr} {o : HO}, H3 b = some o → b ≠ t2 := fun {b o} e z => by
    rw [← z] at nt2
    by_cases y : b = bk
    · rw [y, upd_same] at nt2; cases nt2
    · rw [upd_ne y, e] at nt2; cases nt2
  have nbt : nb ≠ t2 := fun z => by
    rw [z] at nnb
    have e1 : t2 ≠ na := (t2n x.hn).symm
    have e2 : t2 ≠ dd := (t2n x.hd).symm
    rw [upd_ne e1, upd_ne e2, upd_same] at nnb
    cases nnb
  have nbn : ∀ {b : Addr} {o : HO}, H3 b = some o → b ≠ nb := fun {b o} e z => by
    rw [← z] at nnb
    by_cases y1 : b = na
    · rw [y1, upd_same] at nnb; cases nnb
    · rw [upd_ne y1] at nnb
      by_cases y2 : b = dd
      · rw [y2, upd_same] at nnb; cases nnb
      · rw [upd_ne y2, upd_ne (t2n e)] at nnb
        by_cases y3 : b = bk
        · rw [y3, upd_same] at nnb; cases nnb
        · rw [upd_ne y3, e] at nnb; cases nnb
  have keep : ∀ {b : Addr} {o : HO}, H3 b = some o → b ≠ bk → b ≠ dd → b ≠ na → b ≠ ba → (upd (upd (upd (upd (upd (upd H3 bk (.lst ((kids prs at_).map V.int ++ [.int (zs.length : Nat)]))) t2 (.tup [.int (d + 1), .int (zs.length : Nat)])) dd (.dK (putK kvs (Sum.inl n) (.ref t2)))) na (.lst ((zs.map (·.1)).map V.int ++ [.int n]))) nb (.lst [])) ba (.lst (bas.map V.ref ++ [.ref nb]))) b = some o := fun {b o} e e1 e2 e3 e4 => by
    rw [upd_ne e4, upd_ne (nbn e), upd_ne e3, upd_ne e2, upd_ne (t2n e), upd_ne e1]
    exact e
  have tups : Tups H3 (upd (upd (upd (upd (upd (upd H3 bk (.lst ((kids prs at_).map V.int ++ [.int (zs.length : Nat)]))) t2 (.tup [.int (d + 1), .int (zs.length : Nat)])) dd (.dK (putK kvs (Sum.inl n) (.ref t2)))) na (.lst ((zs.map (·.1)).map V.int ++ [.int n]))) nb (.lst [])) ba (.lst (bas.map V.ref ++ [.ref nb]))) := fun b ys e => keep e (fun z => by rw [z, ibk] at e; cases e) (fun z => by rw [z, x.hd] at e; cases e) (fun z => by rw [z, x.hn] at e; cases e) (fun z => by rw [z, x.hb] at e; cases e)
  have hat : at_ < prs.length := by omega
  have erow : row = kids prs at_ := by
    have e := hrow
    unfold belOf at e
    rw [List.getElem?_map, List.getElem?_range hat] at e
    exact (Option.some.inj e).symm
  have nbl : nb ∉ na :: ba :: bas := fun z => by
    rcases List.mem_cons.mp z with z | z
    · exact nbn x.hn z.symm
    · rcases List.mem_cons.mp z with z | z
      · exact nbn x.hb z.symm
      · obtain ⟨i, hi⟩ := List.getElem?_of_mem z
        obtain ⟨r, _, e⟩ := pairedGetL x.pb hi
        exact nbn (show H3 nb = some (.lst (r.map V.int)) from e) rfl
  have nb1 : H1 nb = none := by
    cases e : H1 nb with
    | none => rfl
    | some o => exact absurd rfl (nbn (x.fr _ _ e))
  refine ⟨fun b o e => ?_, ?_, ?_, ?_, ?_, ?_, ?_, x.nd1, ?_, ?_, ?_⟩
  · have e3 := x.fr b o e
    exact keep e3 (fun z => by have := x.nw bk (List.mem_cons_of_mem _ (List.mem_cons_of_mem _ mbk)); rw [← z, e] at this; cases this) (fun z => by have := x.nd1; rw [← z, e] at this; cases this) (fun z => by have := x.nw na List.mem_cons_self; rw [← z, e] at this; cases this) (fun z => by have := x.nw ba (List.mem_cons_of_mem _ List.mem_cons_self); rw [← z, e] at this; cases this)
  · rw [upd_ne nab, upd_ne (nbn x.hn), upd_same, List.map_append, List.map_append]
    rfl
  · rw [upd_same, List.map_append]
    rfl
  · rw [belOf_more ok hat]
    refine pairedSnoc (pairedSet (i := at_) x.pb eb n4 (fun y hy ne b e => ?_) ?_) ?_
    · have e : H3 y = some (.lst (b.map V.int)) := e
      exact keep e ne (dls e) (fun z => n1 (by rw [← z]; exact List.mem_cons_of_mem _ hy)) (fun z => n3 (by rw [← z]; exact hy))
    · show (upd _ ba _) bk = _
      rw [upd_ne nbk2, upd_ne (nbn ibk), upd_ne nbk1, upd_ne (dls ibk), upd_ne (t2n ibk), upd_same, List.map_append, len]
      rfl
    · show (upd _ ba _) nb = _
      rw [upd_ne (fun z => nbl (by rw [z]; exact List.mem_cons_of_mem _ List.mem_cons_self)), upd_same]
      rfl
  · have nd := x.nd
    have e : na :: ba :: (bas ++ [nb]) = (na :: ba :: bas) ++ [nb] := rfl
    rw [e]
    exact List.nodup_append.mpr ⟨nd, by simp, fun a h b hb e => nbl (by rw [← List.mem_singleton.mp hb, ← e]; exact h)⟩
  · intro b hb
    have e : na :: ba :: (bas ++ [nb]) = (na :: ba :: bas) ++ [nb] := rfl
    rw [e] at hb
    rcases List.mem_append.mp hb with hb | hb
    · exact x.nw b hb
    · rw [List.mem_singleton.mp hb]
      exact nb1
  · rw [upd_ne dba, upd_ne (nbn x.hd), upd_ne dna, upd_same]
  · refine x.di.put tups ?_ mx
    rw [upd_ne (t2n x.hb).symm, upd_ne nbt.symm, upd_ne (t2n x.hn).symm, upd_ne (t2n x.hd).symm, upd_same]
  · have hlt := x.hlt
    exact keep hlt (fun z => x.ltn (by rw [z]; exact List.mem_cons_of_mem _ (List.mem_cons_of_mem _ mbk))) (dls hlt) (fun z => x.ltn (by rw [z]; exact List.mem_cons_self)) (fun z => x.ltn (by rw [z]; exact List.mem_cons_of_mem _ List.mem_cons_self))
  · intro z
    have e : na :: ba :: (bas ++ [nb]) = (na :: ba :: bas) ++ [nb] := rfl
    rw [e] at z
    rcases List.mem_append.mp z with z | z
    · exact x.ltn z
    · exact nbn x.hlt (List.mem_singleton.mp z)
theorem WL.same {H1 H3 H4 : Hp} {na ba dd lt : Addr} {bas : List Addr} {kvs : List (Key × V)} {zs : List (Int × Int)} {prs : List Nat} {xs : List V} (x : WL H1 H3 na ba dd lt bas kvs zs prs xs) (s : Same H3 H4) : WL H1 H4 na ba dd lt bas kvs zs prs xs :=
  ⟨x.fr.trans s, s _ _ x.hn, s _ _ x.hb, pairedMap (fun _ _ e => s _ _ e) x.pb, x.nd, x.nw, s _ _ x.hd, x.nd1, x.di.mono (tups_same s), s _ _ x.hlt, x.ltn⟩
end Rd

set_option Elab.async false
set_option linter.all false
set_option maxRecDepth 100000
set_option maxHeartbeats 4000000
namespace Rd
open PySem PySem.Spec PyProof.Rows L2 Dt
theorem revN_take (log : Log) (t : Int) : (revN log t).length = min t.toNat log.length := by
  unfold revN
  rw [List.length_reverse, List.length_map, List.length_take]
theorem revN_at {log : Log} {t : Int} {i : Nat} {e : Int × List Int} (ht : t.toNat ≤ log.length) (hi : i < t.toNat) (h : log[t.toNat - 1 - i]? = some e) : (revN log t)[i]? = some e.1 := by
  unfold revN
  rw [List.getElem?_reverse (by rw [List.length_map, List.length_take]; omega), List.getElem?_map, List.length_map, List.length_take, Nat.min_eq_left ht, List.getElem?_take_of_lt (by omega), h]
  rfl
theorem depths_head (wds : List WD) (k : Int) (ks : List Int) : (depthsL wds k ks).getD 0 (0, 0) = (k, 0) := by
  have all : ∀ (ks : List Int) (zs : List (Int × Int)), 1 ≤ zs.length → (ks.foldl (dstep wds) zs).getD 0 (0, 0) = zs.getD 0 (0, 0) := fun ks => by
    induction ks with
    | nil => exact fun _ _ => rfl
    | cons n r ih =>
      intro zs hz
      rw [List.foldl_cons]
      have e : dstep wds zs n = zs ++ [(n, 1 + mxI (abv wds zs n))] ∨ dstep wds zs n = zs := by
        unfold dstep
        split
        · exact .inl rfl
        · exact .inr rfl
      rcases e with e | e
      · rw [e, ih _ (by rw [List.length_append]; omega), getD_old (by omega)]
      · rw [e]
        exact ih zs hz
  exact all ks [(k, 0)] (Nat.le_refl 1)
theorem putK_le {κ : Type} [DecidableEq κ] (kvs : List (κ × V)) (k : κ) (v : V) : (putK kvs k v).length ≤ kvs.length + 1 := by
  unfold putK
  split
  · rw [List.length_map]
    omega
  · rw [List.length_append]
    exact Nat.le_refl _
def pzA (H : Hp) (t : Addr) : Int × Int := match H t with
  | some (.tup [.int d, .int a]) => (d, a)
  | _ => (0, 0)
theorem kids_len (prs : List Nat) (i : Nat) : (kids prs i).length ≤ prs.length := by
  unfold kids
  rw [List.length_map]
  exact Nat.le_trans (List.length_filter_le _ _) (by rw [List.length_range]; exact Nat.le_refl _)
section
variable {P : Program} {w : World} {K : PySem.W.Frag} {mg : Str → Option Value} {base : Heap}
set_option maxHeartbeats 32000000 in
theorem ok_why {f : Addr} {Ps : List Addr} {fd : FuncData} {k : Nat} (F : Fun K "why" "why" sWhy f fd) (T : TxtW3 P w K mg base Ps) : FnOk P w K mg base CX0 (k + 4) f fd ["riddle", "log", "t"] (spWhy Ps) := by
  refine F.ok scWhy (fun vs H Q E h => ?_) (fun cdv A outer s H vs Q E hr h => ?_)
  · obtain ⟨ri, la, t, wds, many, hues, log, rfl, _⟩ := h
    rfl
  · obtain ⟨ri, la, t, wds, many, hues, log, rfl, rid, gr, isl, ln, l8, t0, t1, hT, q⟩ := h
    refine ⟨_, (pss_cons (ps_if (pt_not (pt_chain op_le op_lt pe_int (pv 2) (pe_callB call_len_seq (by rfl) T.m_len (by decide +kernel) (pa_cons (pv 1) pa_nil))))
  (pss_one Rd.ps_never) pss_nil)
  (pss_cons (ps_set (i := 3) scWhy.nd rfl (Or.inl rfl) (pe_cal T.c_clashing (hr.mono (by omega)) (by rfl) (pa_cons (pv 0) pa_nil)))
  (pss_cons (ps_set (i := 4) scWhy.nd rfl (Or.inl rfl) (pe_lst (pa_cons (pe_ix ix_tup (pe_ix ix_list (pv 1) (pv 2) (fun _ _ => rfl)) pe_int (fun _ _ => rfl)) pa_nil)))
  (pss_cons (ps_set (i := 5) scWhy.nd rfl (Or.inl rfl) (pe_lst (pa_cons (pe_lst pa_nil) pa_nil)))
  (pss_cons (ps_set (i := 6) scWhy.nd rfl (Or.inr rfl) (pe_disp (pps_cons (pe_ix ix_tup (pe_ix ix_list (pv 1) (pv 2) (fun _ _ => rfl)) pe_int (fun _ _ => rfl)) (pe_tup (pa_cons pe_int (pa_cons pe_int pa_nil))) pps_nil) (by rfl) (by rfl) (fun z => by cases z) (by decide)))
  (pss_cons (ps_for PassesOwn.never rfl (pi_reversed (by rfl) T.m_reversed (pa_cons (pe_slice sl_list (pv 1) po_none (po_some (pv 2))) pa_nil)) (pg_tup rfl (pgs_cons (pg_name (i := 7) scWhy.nd rfl (Or.inl rfl)) (pgs_cons (pg_name (i := 8) scWhy.nd rfl (Or.inl rfl)) pgs_nil)))
  (pss_cons (ps_setLc (i := 9) (te := tDGet (tVar 6) (tVar 12)) (own := [("other", 12)]) rfl scWhy.nd rfl rfl (sw_true rfl rfl rfl (by decide +kernel)) (pi_list (pe_ix ix_list (pv 3) (pv 7) (fun _ _ => rfl))) (blkOk_by (own := [("other", 12)]) (N := nWhy) (sc := defScope sWhy) (by decide +kernel))
   (fun _ _ _ _ _ => (pg_name (i := 12) scWhy.nd rfl (Or.inl rfl))) (fun _ _ _ _ _ => pts_one (pt_cmp (pc_din (hu43 hr) (pv 12) (pv 6)))) (fun _ _ _ _ _ => (pe_dget (hu43 hr) (pv 6) (pv 12) (fun _ _ => rfl))))
  (pss_one (ps_if (pt_truth (pv 9) (by intro _; rfl))
  (pss_cons (ps_asg (pe_callB (cr_maxP rfl hr.units) (by rfl) T.m_max (by decide +kernel) (pa_cons (pv 9) pa_nil)) (pg_tup rfl (pgs_cons (pg_name (i := 10) scWhy.nd rfl (Or.inl rfl)) (pgs_cons (pg_name (i := 11) scWhy.nd rfl (Or.inl rfl)) pgs_nil))))
  (pss_cons (ps_expr (pe_bm PySem.F.plainAttrs_list PySem.F.slot_list_append PySem.F.type_list_append mt_append (pe_ix ix_list (pv 5) (pv 11) (fun _ _ => rfl)) (pa_cons (pe_callB call_len_seq (by rfl) T.m_len (by decide +kernel) (pa_cons (pv 4) pa_nil)) pa_nil)))
  (pss_cons (ps_asg (pe_tup (pa_cons (pe_op op_add (pv 10) pe_int) (pa_cons (pe_callB call_len_seq (by rfl) T.m_len (by decide +kernel) (pa_cons (pv 4) pa_nil)) pa_nil))) (pg_sub (pv 6) (pv 7) (set_dict (hu43 hr))))
  (pss_cons (ps_expr (pe_bm PySem.F.plainAttrs_list PySem.F.slot_list_append PySem.F.type_list_append mt_append (pv 4) (pa_cons (pv 7) pa_nil)))
  (pss_one (ps_expr (pe_bm PySem.F.plainAttrs_list PySem.F.slot_list_append PySem.F.type_list_append mt_append (pv 5) (pa_cons (pe_lst pa_nil) pa_nil)))))))) pss_nil))))
  (pss_one (ps_ret (pe_cal T.c_grown (hr.mono (by omega)) (by rfl) (pa_cons (pv 4) (pa_cons (pv 5) pa_nil))))))))))), ?_⟩
    obtain ⟨es, hla, pe⟩ := id isl
    have el := pairedLen pe
    obtain ⟨tn, rfl⟩ : ∃ tn : Nat, t = tn := ⟨t.toNat, by omega⟩
    have htn : tn < log.length := by omega
    -- is there such a step?
    refine ⟨.int tn, rfl, 0, _, rfl, rfl, _, rfl, ?_⟩
    rw [if_pos (decide_eq_true (by omega))]
    refine ⟨.ref la, rfl, la, _, rfl, .inl (.inl (.inl hla)), _, _, rfl, rfl, _, rfl, ?_⟩
    rw [List.length_map, decide_eq_true (show ((tn : Nat) : Int) < (es.length : Int) by omega)]
    refine iteF ?_
    -- clashes
    refine ⟨.ref ri, rfl, ri, wds, many, hues, rfl, rid, gr, hT, fun H1 ca f1 nca ll => ?_⟩
    obtain ⟨ls, hca, pls, _, _, _⟩ := ll
    have q1 := f1.seqs hT
    have hla1 := q1.2 _ _ hla
    have pe1 := pairedMap (fun _ _ e => IsEnt.mono e q1.1) pe
    obtain ⟨e0, ee0, ie0⟩ := pairedGet pe1 (List.getElem?_eq_getElem htn)
    obtain ⟨r0, he0, hr0⟩ := ie0
    have k0 := ln _ (List.getElem_mem htn)
    have ek : numAt log (tn : Int) = (log[tn]).1 := by
      unfold numAt
      rw [Int.toNat_natCast, List.getD_eq_getElem?_getD, List.getElem?_eq_getElem htn]
      rfl
    rw [← ek] at he0 k0
    obtain ⟨kk, ekk⟩ : ∃ kk, kk = numAt log (tn : Int) := ⟨_, rfl⟩
    rw [← ekk] at he0 k0
    -- numbers
    refine ⟨.ref la, rfl, .int tn, rfl, la, _, _, .ref e0, rfl, rfl, .inl (.inl hla1), atI_nat (map_at ee0), e0, _, 0, .int kk, rfl, rfl, .inl (.inl he0), atI_nat (j := 0) rfl, (by show 1 ≤ sizeLine; decide), fun na nna => ?_⟩
    have s2 := same_upd (o := .lst [V.int kk]) nna
    have hna2 : upd H1 na (.lst [V.int kk]) na = some (.lst [V.int kk]) := upd_same
    generalize upd H1 na (.lst [V.int kk]) = H2 at s2 hna2
    -- below
    refine ⟨(by show 0 ≤ sizeLine; decide), fun b0 nb0 => ⟨(by show 1 ≤ sizeLine; decide), fun ba nba => ?_⟩⟩
    have s3 := same_upd (o := .lst []) nb0
    have s4 := same_upd (o := .lst [V.ref b0]) nba
    have hb04 := s4 _ _ (upd_same (H := H2) (a := b0) (o := .lst []))
    have s24 := s3.trans s4
    have nba2 : H2 ba = none := s3.free nba
    have nb0ba : b0 ≠ ba := fun z => by rw [← z, upd_same] at nba; cases nba
    have hba4 : upd (upd H2 b0 (.lst [])) ba (.lst [V.ref b0]) ba = some (.lst [V.ref b0]) := upd_same
    generalize upd (upd H2 b0 (.lst [])) ba (.lst [V.ref b0]) = H4 at s4 hb04 s24 hba4
    have s14 := s2.trans s24
    -- deepest
    refine fun dd ndd => ?_
    have s5 := same_upd (o := .dK []) ndd
    have hdd5 : upd H4 dd (.dK []) dd = some (.dK []) := upd_same
    generalize upd H4 dd (.dK []) = H5 at s5 hdd5
    have s15 := s14.trans s5
    refine ⟨.ref la, rfl, .int tn, rfl, la, _, _, .ref e0, rfl, rfl, .inl (.inl (s15 _ _ hla1)), atI_nat (map_at ee0), e0, _, 0, .int kk, rfl, rfl, .inl (.inl (s15 _ _ he0)), atI_nat (j := 0) rfl, (by show 2 ≤ sizeLine; decide), fun tz ntz => ?_⟩
    have s6 := same_upd (o := .tup [V.int 0, .int 0]) ntz
    have htz6 : upd H5 tz (.tup [V.int 0, .int 0]) tz = some (.tup [V.int 0, .int 0]) := upd_same
    generalize upd H5 tz (.tup [V.int 0, .int 0]) = H6 at s6 htz6
    have hdd6 := s6 _ _ hdd5
    refine ⟨hdd6, [(Sum.inl kk, .ref tz)], rfl, (by show 1 ≤ 15; decide), ?_⟩
    have em : mergeK [] [((Sum.inl kk : Key), V.ref tz)] = [(Sum.inl kk, V.ref tz)] := rfl
    rw [em]
    have ne6 : ∀ {b : Addr} {o : HO}, H4 b = some o → b ≠ dd := fun {b o} e z => by rw [z, ndd] at e; cases e
    have tu7 : Tups H6 (upd H6 dd (.dK [(Sum.inl kk, V.ref tz)])) := tups_upd fun zs z => by rw [hdd6] at z; cases z
    have k7 : ∀ {b : Addr} {o : HO}, H4 b = some o → upd H6 dd (.dK [(Sum.inl kk, V.ref tz)]) b = some o := fun {b o} e => by
      rw [upd_ne (ne6 e)]
      exact (s5.trans s6) _ _ e
    have hdd7 : upd H6 dd (.dK [(Sum.inl kk, V.ref tz)]) dd = some (.dK [(Sum.inl kk, V.ref tz)]) := upd_same
    have htz7 := tu7 _ _ htz6
    generalize upd H6 dd (.dK [(Sum.inl kk, V.ref tz)]) = H7 at tu7 k7 hdd7 htz7
    have s17 : Same H1 H7 := fun b o e => k7 (s14 _ _ e)
    -- backwards
    refine ⟨.ref la, rfl, .int tn, rfl, _, rfl, la, _, rfl, .inl (.inl (s17 _ _ hla1)), fun lt nlt => ?_⟩
    have ec : cutV (es.map V.ref) none (some (tn : Int)) = (es.take tn).map V.ref := cut_to V.ref es tn
    rw [ec]
    have s8 := same_upd (o := .lst ((es.take tn).map V.ref)) nlt
    have hlt8 : upd H7 lt (.lst ((es.take tn).map V.ref)) lt = some (.lst ((es.take tn).map V.ref)) := upd_same
    generalize upd H7 lt (.lst ((es.take tn).map V.ref)) = H8 at s8 hlt8
    have n7 : ∀ {b : Addr} {o : HO}, H7 b = some o → lt ≠ b := fun {b o} e z => by rw [z, e] at nlt; cases nlt
    have w8 : WL H1 H8 na ba dd lt [b0] [(Sum.inl kk, V.ref tz)] [(kk, 0)] [0] ((es.take tn).map V.ref) := by
      have nab0 : na ≠ b0 := fun z => by rw [← z, hna2] at nb0; cases nb0
      have naba : na ≠ ba := fun z => by rw [← z, hna2] at nba2; cases nba2
      refine ⟨s17.trans s8, s8 _ _ (k7 (s24 _ _ hna2)), s8 _ _ (k7 hba4), .cons (s8 _ _ (k7 hb04)) .nil, ?_, ?_, s8 _ _ hdd7, ?_, ?_, hlt8, ?_⟩
      · exact List.nodup_cons.mpr ⟨by simp [naba, nab0], List.nodup_cons.mpr ⟨by simp [nb0ba.symm], List.nodup_cons.mpr ⟨by simp, List.nodup_nil⟩⟩⟩
      · intro b hb
        rcases List.mem_cons.mp hb with rfl | hb
        · exact nna
        · rcases List.mem_cons.mp hb with rfl | hb
          · exact s2.free nba2
          · rw [List.mem_singleton.mp hb]
            exact s2.free nb0
      · exact s14.free ndd
      · intro o
        by_cases e : o = kk
        · subst e
          refine .inr ⟨tz, 0, 0, valV_pos (p := ((Sum.inl o : Key), V.ref tz)) rfl, s8 _ _ htz7, Int.le_refl _, rfl, fun y hy _ => ?_⟩
          rw [List.mem_singleton.mp hy]
          exact Int.le_refl _
        · refine .inl ⟨?_, fun z hz => ?_⟩
          · rw [valV_neg (p := ((Sum.inl kk : Key), V.ref tz)) (fun z => e (Sum.inl.inj z).symm)]
            exact valV_nil
          · rw [List.mem_singleton.mp hz]
            exact fun y => e y.symm
      · intro z
        rcases List.mem_cons.mp z with z | z
        · exact n7 (k7 (s24 _ _ hna2)) z
        · rcases List.mem_cons.mp z with z | z
          · exact n7 (k7 hba4) z
          · exact n7 (k7 hb04) (List.mem_singleton.mp z)
    have wi8 := WI.start (wds := wds) k0.1 k0.2
    have rl := revN_take log (tn : Int)
    rw [Int.toNat_natCast, Nat.min_eq_left (by omega)] at rl
    clear s2 hna2 nb0 nba s3 s4 hb04 s24 nba2 nb0ba hba4 s14 ndd s5 hdd5 s15 ntz s6 htz6 hdd6 em ne6 tu7 k7 hdd7 htz7 s17 nlt ec s8 hlt8 n7 he0 hr0
    have xl : ((es.take tn).map V.ref).length = tn := by rw [List.length_map, List.length_take]; omega
    refine ⟨lt, _, rfl, .inl (.inl w8.hlt), ?_⟩
    refine for_revL (K := K) (a := lt) (xs := (es.take tn).map V.ref) (fun i σ H9 => (∃ bas kvs zs prs, WL H1 H9 na ba dd lt bas kvs zs prs ((es.take tn).map V.ref) ∧ WI wds zs prs ∧ zs = depthsL wds kk ((revN log (tn : Int)).take i) ∧ kvs.length ≤ i + 1) ∧ ∃ y7 y8 y9 y10 y11, σ = [some (.ref ri), some (.ref la), some (.int tn), some (.ref ca), some (.ref na), some (.ref ba), some (.ref dd), y7, y8, y9, y10, y11, none]) ⟨⟨_, _, _, _, w8, wi8, rfl, Nat.le_refl _⟩, none, none, none, none, none, rfl⟩ (fun i σ H9 _ p => by obtain ⟨⟨_, _, _, _, x, _⟩, _⟩ := p; exact .inl (.inl x.hlt)) (fun i x σ H9 hi hx p => ?_) (fun σ H9 p => ?_)
    · obtain ⟨⟨bas, kvs, zs, prs, x9, wi, ez, kl⟩, y7, y8, y9, y10, y11, rfl⟩ := p
      rw [xl] at hi hx
      obtain ⟨e1, ee1, rfl⟩ := map_get hx
      rw [List.getElem?_take_of_lt (by omega)] at ee1
      obtain ⟨en, een, ⟨r1, he1, hr1⟩⟩ := pairedGetL pe1 ee1
      have nn := ln en (List.mem_of_getElem? een)
      have rat := revN_at (log := log) (t := (tn : Int)) (i := i) (e := en) (by rw [Int.toNat_natCast]; omega) (by rw [Int.toNat_natCast]; exact hi) (by rw [Int.toNat_natCast]; exact een)
      have zl := (depths_len wds kk ((revN log (tn : Int)).take i)).1
      rw [← ez, List.length_take] at zl
      have zlen := wi.len
      obtain ⟨n, en1⟩ : ∃ n, n = en.1 := ⟨_, rfl⟩
      rw [← en1] at he1 nn rat
      have hwn : n.toNat < wds.length := by omega
      have hwd := List.getElem?_eq_getElem hwn
      have rowc : (clsAll wds)[n.toNat]? = some (clsL wds wds[n.toNat] wds.length) := by
        unfold clsAll
        rw [List.getElem?_map, hwd]
        rfl
      obtain ⟨lc, elc, hlc⟩ := pairedGet pls rowc
      have cm := fun o => cls_mem (o := o) hwd
      have crl := clsL_len wds wds[n.toNat] wds.length
      have e8 := gr.eight
      generalize clsL wds wds[n.toNat] wds.length = cr at hlc cm crl
      refine ⟨e1, _, rfl, .inl (.inl (x9.fr _ _ he1)), rfl, .int n, [.ref r1], rfl, .ref r1, [], rfl, rfl, ?_⟩
      -- above
      refine ⟨.ref ca, rfl, .int n, rfl, ca, _, _, .ref lc, rfl, rfl, .inl (.inl (x9.fr _ _ hca)), atI_of nn.1 elc, lc, rfl, ⟨_, .inl (.inl (x9.fr _ _ hlc))⟩, fun D nD => ?_⟩
      refine lc_list (K := K) (a := lc) (xs := cr.map V.int) (fun j H10 => Same H9 H10 ∧ H10 D = some (.lst (((cr.take j).filterMap (refOf kvs)).map V.ref))) ⟨same_upd nD, upd_same⟩ (fun j H10 _ p => .inl (.inl (p.1 _ _ (x9.fr _ _ hlc)))) (fun j x H10 hx p => ?_) (fun H10 p => ?_)
      · obtain ⟨o, eo, rfl⟩ := map_get hx
        obtain ⟨s10, hD⟩ := p
        have hj : j < cr.length := (List.getElem?_eq_some_iff.mp eo).1
        have hdd10 := s10 _ _ x9.hd
        have dg := DGet.k (k := Sum.inl o) hdd10
        refine ⟨rfl, .int o, rfl, .ref dd, rfl, dd, _, rfl, dg, _, rfl, ?_⟩
        rcases x9.di o with ⟨v1, _⟩ | ⟨t, d, a, v1, v2, v3, v4, v5⟩
        · rw [v1]
          refine iteF ⟨s10, ?_⟩
          rw [fm_snoc _ eo, hD]
          have e : refOf kvs o = none := by unfold refOf; rw [v1]
          rw [e]
          simp
        · rw [v1] at dg ⊢
          refine iteT ⟨.ref dd, rfl, .int o, rfl, dd, _, rfl, dg, _, hD, ?_, same_put s10 nD, ?_⟩
          · rw [List.length_map]
            have := List.length_filterMap_le (refOf kvs) (cr.take j)
            rw [List.length_take] at this
            exact small1000 (by omega)
          · have e : refOf kvs o = some t := by unfold refOf; rw [v1]
            rw [upd_same, fm_snoc _ eo, e, List.map_append]
            rfl
      obtain ⟨s10, hD⟩ := p
      rw [List.length_map, List.take_length] at hD
      have x10 := x9.same s10
      have step : depthsL wds kk ((revN log (tn : Int)).take (i + 1)) = dstep wds zs n := by
        rw [take_snoc rat, depths_snoc, ← ez]
      -- what stands above
      have inTs : ∀ t, t ∈ cr.filterMap (refOf kvs) ↔ ∃ o, o ∈ cr ∧ refOf kvs o = some t := fun t => List.mem_filterMap
      have zIn : ∀ z ∈ zs, clN wds n z.1 = true → ∃ t d a, refOf kvs z.1 = some t ∧ t ∈ cr.filterMap (refOf kvs) ∧ H10 t = some (.tup [.int d, .int a]) ∧ 0 ≤ a ∧ zs[a.toNat]? = some (z.1, d) ∧ (∀ y ∈ zs, y.1 = z.1 → y.2 ≤ d) := fun z hz c => by
        have pz := wi.pos z hz
        rcases x10.di z.1 with ⟨_, v2⟩ | ⟨t, d, a, v1, v2, v3, v4, v5⟩
        · exact absurd rfl (v2 z hz)
        · have e : refOf kvs z.1 = some t := by unfold refOf; rw [v1]
          exact ⟨t, d, a, e, (inTs t).mpr ⟨z.1, (cm z.1).mpr ⟨pz.2, c⟩, e⟩, v2, v3, v4, v5⟩
      refine ⟨.ref D, rfl, _, .inl ⟨_, .inl (.inl hD), rfl⟩, ?_⟩
      by_cases emp : cr.filterMap (refOf kvs) = []
      · rw [emp]
        refine iteF ?_
        have no : ∀ z ∈ zs, clN wds n z.1 = false := fun z hz => by
          cases c : clN wds n z.1 with
          | false => rfl
          | true =>
            obtain ⟨t, _, _, _, h2, _⟩ := zIn z hz c
            rw [emp] at h2
            cases h2
        exact ⟨⟨bas, kvs, zs, prs, x10, wi, by rw [step, dstep_no no], by omega⟩, _, _, _, _, _, rfl⟩
      · have em : (!((cr.filterMap (refOf kvs)).map V.ref).isEmpty) = true := by
          cases hc : cr.filterMap (refOf kvs) with
          | nil => exact absurd hc emp
          | cons a r => rfl
        rw [em]
        refine iteT ?_
        -- the deepest
        have tIs : ∀ t ∈ cr.filterMap (refOf kvs), ∃ o d a, o ∈ cr ∧ refOf kvs o = some t ∧ H10 t = some (.tup [.int d, .int a]) ∧ 0 ≤ a ∧ zs[a.toNat]? = some (o, d) := fun t ht => by
          obtain ⟨o, ho, e⟩ := (inTs t).mp ht
          rcases x10.di o with ⟨v1, _⟩ | ⟨t', d, a, v1, v2, v3, v4, v5⟩
          · unfold refOf at e
            rw [v1] at e
            cases e
          · have e' := e
            unfold refOf at e'
            rw [v1] at e'
            cases Option.some.inj e'
            exact ⟨o, d, a, ho, e, v2, v3, v4⟩
        have pzt : ∀ t ∈ cr.filterMap (refOf kvs), H10 t = some (.tup [.int (pzA H10 t).1, .int (pzA H10 t).2]) := fun t ht => by
          obtain ⟨o, d, a, _, _, v2, _⟩ := tIs t ht
          unfold pzA
          rw [v2]
        refine ⟨.ref D, rfl, D, _, pzA H10, rfl, .inl (.inl hD), emp, pzt, fun t mt mx => ?_⟩
        obtain ⟨o, d, a, ho, er, v2, a0, eza⟩ := tIs t mt
        have et : pzA H10 t = (d, a) := by unfold pzA; rw [v2]
        obtain ⟨an, rfl⟩ : ∃ an : Nat, a = an := ⟨a.toNat, by omega⟩
        rw [Int.toNat_natCast] at eza
        have han : an < zs.length := (List.getElem?_eq_some_iff.mp eza).1
        have cno := ((cm o).mp ho).2
        have dmx : ∀ z ∈ zs, clN wds n z.1 = true → z.2 ≤ d := fun z hz c => by
          obtain ⟨t', d', a', e', m', v', _, _, b'⟩ := zIn z hz c
          have y := mx t' m'
          have e2 : pzA H10 t' = (d', a') := by unfold pzA; rw [v']
          rw [et, e2] at y
          have := b' z hz rfl
          have y : d' ≤ d := y
          omega
        have d0 := (wi.pos _ (List.mem_of_getElem? eza)).1
        have mxn : ∀ y ∈ zs, y.1 = n → y.2 ≤ d := fun y hy ey => dmx y hy (by rw [ey]; exact clN_self gr nn.1 nn.2)
        refine ⟨t, _, rfl, .inl (.inl v2), rfl, .int d, [.int an], rfl, .int an, [], rfl, rfl, ?_⟩
        -- below
        have bl := pairedLen x10.pb
        have bl2 : (belOf prs).length = prs.length := by unfold belOf; rw [List.length_map, List.length_range]
        have hab : an < bas.length := by omega
        have eb := List.getElem?_eq_getElem hab
        obtain ⟨row, hrow, ibk⟩ := pairedGetL x10.pb eb
        have erow : row = kids prs an := by
          have e := hrow
          unfold belOf at e
          rw [List.getElem?_map, List.getElem?_range (by omega)] at e
          exact (Option.some.inj e).symm
        subst erow
        have ibk : H10 bas[an] = some (.lst ((kids prs an).map V.int)) := ibk
        have kln := kids_len prs an
        generalize bas[an] = bk at eb ibk
        obtain ⟨m1, m2⟩ := List.nodup_cons.mp x10.nd
        obtain ⟨m3, m4⟩ := List.nodup_cons.mp m2
        have mbk := List.mem_of_getElem? eb
        have nab : na ≠ ba := fun z => m1 (by rw [z]; exact List.mem_cons_self)
        have nbk1 : bk ≠ na := fun z => m1 (by rw [← z]; exact List.mem_cons_of_mem _ mbk)
        have nbk2 : bk ≠ ba := fun z => m3 (by rw [← z]; exact mbk)
        have dbk : bk ≠ dd := fun z => by rw [z, x10.hd] at ibk; cases ibk
        have dna : dd ≠ na := fun z => by have := x10.hd; rw [z, x10.hn] at this; cases this
        have dba : dd ≠ ba := fun z => by have := x10.hd; rw [z, x10.hb] at this; cases this
        refine ⟨.ref ba, rfl, .int an, rfl, ba, _, _, .ref bk, rfl, rfl, .inl (.inl x10.hb), atI_nat (map_at eb), .inl ⟨rfl, _, .inl (.inl ibk)⟩, .ref na, rfl, na, _, rfl, .inl (.inl (.inl x10.hn)), bk, _, _, rfl, rfl, ibk, ?_, ?_⟩
        · rw [List.length_map]
          exact small1000 (by omega)
        rw [List.length_map, List.length_map]
        -- deepest
        have hn11 : upd H10 bk (.lst ((kids prs an).map V.int ++ [.int (zs.length : Nat)])) na = some (.lst ((zs.map (·.1)).map V.int)) := by rw [upd_ne nbk1.symm]; exact x10.hn
        refine ⟨.int d, rfl, d, 1, rfl, rfl, .ref na, rfl, na, _, rfl, .inl (.inl (.inl hn11)), (by show 2 ≤ sizeLine; decide), fun t2 nt2 => ?_⟩
        rw [List.length_map, List.length_map]
        have t2n : ∀ {b : Addr} {o : HO}, upd H10 bk (.lst ((kids prs an).map V.int ++ [.int (zs.length : Nat)])) b = some o → b ≠ t2 := fun {b o} e z => by rw [z, nt2] at e; cases e
        have hd11 : upd H10 bk (.lst ((kids prs an).map V.int ++ [.int (zs.length : Nat)])) dd = some (.dK kvs) := by rw [upd_ne dbk.symm]; exact x10.hd
        have hb11 : upd H10 bk (.lst ((kids prs an).map V.int ++ [.int (zs.length : Nat)])) ba = some (.lst (bas.map V.ref)) := by rw [upd_ne nbk2.symm]; exact x10.hb
        refine ⟨.ref dd, rfl, .int n, rfl, dd, _, rfl, DPut.k (k := Sum.inl n) (kvs := kvs) (by rw [upd_ne (t2n hd11)]; exact hd11) (small1000 (by omega)), ?_⟩
        -- numbers
        have hn13 : upd (upd (upd H10 bk (.lst ((kids prs an).map V.int ++ [.int (zs.length : Nat)]))) t2 (.tup [.int (d + 1), .int (zs.length : Nat)])) dd (.dK (putK kvs (Sum.inl n) (.ref t2))) na = some (.lst ((zs.map (·.1)).map V.int)) := by rw [upd_ne dna.symm, upd_ne (t2n hn11)]; exact hn11
        refine ⟨.ref na, rfl, .inl ⟨rfl, _, .inl (.inl hn13)⟩, .int n, rfl, na, _, _, rfl, rfl, hn13, by rw [List.length_map, List.length_map]; exact small1000 (by omega), ?_⟩
        -- one more list
        have hb14 : upd (upd (upd (upd H10 bk (.lst ((kids prs an).map V.int ++ [.int (zs.length : Nat)]))) t2 (.tup [.int (d + 1), .int (zs.length : Nat)])) dd (.dK (putK kvs (Sum.inl n) (.ref t2)))) na (.lst ((zs.map (·.1)).map V.int ++ [.int n])) ba = some (.lst (bas.map V.ref)) := by rw [upd_ne nab.symm, upd_ne dba.symm, upd_ne (t2n hb11)]; exact hb11
        refine ⟨.ref ba, rfl, .inl ⟨rfl, _, .inl (.inl hb14)⟩, (by show 0 ≤ sizeLine; decide), fun nb nnb => ?_⟩
        refine ⟨ba, _, _, rfl, rfl, same_upd nnb _ _ hb14, by rw [List.length_map]; exact small1000 (by omega), ⟨_, _, _, _, x10.more wi.ok zlen eb mxn nt2 nnb, wi.more nn.1 nn.2 eza cno, by rw [step, dstep_yes d0 (List.mem_of_getElem? eza) cno dmx], ?_⟩, _, _, _, _, _, rfl⟩
        have := putK_le kvs (Sum.inl n : Key) (V.ref t2)
        omega
    · obtain ⟨⟨bas, kvs, zs, prs, x9, wi, ez, kl⟩, y7, y8, y9, y10, y11, rfl⟩ := p
      rw [xl, List.take_of_length_le (by omega)] at ez
      have zl := (depths_len wds kk (revN log (tn : Int))).1
      rw [← ez] at zl
      have zlen := wi.len
      have o1 := wi.ok.one
      have f9 := f1.same x9.fr
      have gg := wi.ok.grows
      rw [← zlen, ← List.length_map (f := fun z : Int × Int => z.1)] at gg
      obtain ⟨t1', t2', t3'⟩ := wi.tree
      refine ⟨.ref na, rfl, .ref ba, rfl, na, ba, zs.map (·.1), bas, belOf prs, rfl, x9.hn, x9.hb, x9.pb, gg, by rw [List.length_map]; omega, by rw [List.length_map]; omega, fun b hb => ?_, f9.2, fun H' v f' it => ?_⟩
      · unfold belOf at hb
        obtain ⟨i, _, rfl⟩ := List.mem_map.mp hb
        have := kids_len prs i
        omega
      · refine q H' v _ (f9.trans f') it ⟨?_, t2', ?_⟩
        · rw [← ekk, ← ez]
          exact t1'
        · rw [t3', ez, depths_head, ekk]
end
end Rd

set_option Elab.async false
set_option linter.all false
set_option maxRecDepth 100000
set_option maxHeartbeats 4000000
namespace Rd
open PySem PySem.Spec PyProof.Rows L2 Dt
abbrev sHad : Stmt := topS 12
abbrev nHad : List Str := ["wishes", "level", "often", "number", "place"]
theorem scHad : FnScope nHad ["wishes", "level"] (defScope sHad) := ⟨rfl, rfl, rfl, by decide +kernel, rfl, by decide +kernel, by decide +kernel⟩
abbrev sHid : Stmt := topS 14
abbrev nHid : List Str := ["wish", "table", "deeper", "places", "rows", "place"]
theorem scHid : FnScope nHid ["wish", "table", "deeper"] (defScope sHid) := ⟨rfl, rfl, rfl, by decide +kernel, rfl, by decide +kernel, by decide +kernel⟩
theorem putK_keys {κ : Type} [DecidableEq κ] (kvs : List (κ × V)) (k : κ) (v : V) (nd : (kvs.map (·.1)).Nodup) : ((putK kvs k v).map (·.1)).Nodup ∧ ∀ x ∈ putK kvs k v, x.1 = k ∨ ∃ y ∈ kvs, x.1 = y.1 := by
  unfold putK
  by_cases h : (kvs.any fun kv => decide (kv.1 = k)) = true
  · rw [if_pos h]
    refine ⟨?_, fun x hx => ?_⟩
    · rw [List.map_map]
      have e : (kvs.map ((fun kv : κ × V => kv.1) ∘ fun kv => if kv.1 = k then (kv.1, v) else kv)) = kvs.map (·.1) := List.map_congr_left fun kv _ => by
        show (if kv.1 = k then (kv.1, v) else kv).1 = kv.1
        split <;> rfl
      rw [e]
      exact nd
    · obtain ⟨y, hy, rfl⟩ := List.mem_map.mp hx
      refine .inr ⟨y, hy, ?_⟩
      split <;> rfl
  · rw [if_neg h]
    have no : k ∉ kvs.map (·.1) := fun z => h (by
      obtain ⟨y, hy, e⟩ := List.mem_map.mp z
      exact List.any_eq_true.mpr ⟨y, hy, decide_eq_true e⟩)
    refine ⟨?_, fun x hx => ?_⟩
    · rw [List.map_append]
      exact List.nodup_append.mpr ⟨nd, by simp, fun a ha b hb e => no (by rw [List.map_singleton, List.mem_singleton] at hb; have hb : b = k := hb; rw [← hb, ← e]; exact ha)⟩
    · rcases List.mem_append.mp hx with hx | hx
      · exact .inr ⟨x, hx, rfl⟩
      · rw [List.mem_singleton.mp hx]
        exact .inl rfl
/-- what a dict of numbers counts -/
structure CntD (m : Int) (kvs : List (Key × V)) (c : Int → Nat) : Prop where
  val : ∀ p : Int, valV kvs (Sum.inl p) = if c p = 0 then none else some (.int (c p : Nat))
  key : ∀ x ∈ kvs, ∃ p : Int, x.1 = Sum.inl p ∧ 0 ≤ p ∧ p < m
  nd : (kvs.map (·.1)).Nodup
theorem CntD.nil (m : Int) : CntD m [] fun _ => 0 := ⟨fun _ => rfl, (fun _ h => nomatch h), List.nodup_nil⟩
theorem CntD.more {m : Int} {kvs : List (Key × V)} {c : Int → Nat} (h : CntD m kvs c) {p : Int} (p0 : 0 ≤ p) (p1 : p < m) : CntD m (putK kvs (Sum.inl p) (.int ((c p : Nat) + 1))) fun q => if q = p then c p + 1 else c q := by
  obtain ⟨n1, n2⟩ := putK_keys kvs (Sum.inl p : Key) (.int ((c p : Nat) + 1)) h.nd
  refine ⟨fun q => ?_, fun x hx => ?_, n1⟩
  · rw [valV_put]
    by_cases e : q = p
    · subst e
      rw [if_pos rfl, if_pos rfl, if_neg (by omega)]
      rfl
    · rw [if_neg (fun z => e (Sum.inl.inj z)), if_neg e]
      exact h.val q
  · rcases n2 x hx with e | ⟨y, hy, e⟩
    · exact ⟨p, e, p0, p1⟩
    · obtain ⟨r, er, r1⟩ := h.key y hy
      exact ⟨r, e.trans er, r1⟩
def spHad : Sp := fun vs H Q _ => ∃ (wt lv : Addr) (was : List Addr) (wds : List WD) (ns : List Int) (many hues : Int), vs = [.ref wt, .ref lv] ∧ H wt = some (.tup (was.map V.ref)) ∧ Paired (IsWish H) was wds ∧ GoodR many hues wds ∧ (∀ wd ∈ wds, wd.1.Nodup) ∧ H lv = some (.lst (ns.map V.int)) ∧ (∀ n ∈ ns, 0 ≤ n ∧ n < (wds.length : Int)) ∧ ns.length ≤ 900 ∧
  ∀ H' d kvs, Same H H' → H d = none → H' d = some (.dK kvs) → CntD many kvs (cntP wds ns) → Q (.ref d) H'
def drwA (tb : List (List Int)) (dp ps : List Int) : List Int := ps.map fun p => atF (tb.getD p.toNat []) (atF dp p)
def spHid (Ps : List Addr) : Sp := fun vs H Q _ => ∃ (wa ta ka : Addr) (wd : WD) (das : List Addr) (tb : List (List Int)) (dp : List Int) (many hues : Int), vs = [.ref wa, .ref ta, .ref ka] ∧ IsWish H wa wd ∧ Good many hues wd ∧ many ≤ 6 ∧ hues ≤ 4 ∧ H ta = some (.lst (das.map V.ref)) ∧ Paired (IsInts H) das tb ∧ H ka = some (.lst (dp.map V.int)) ∧ GoodT many hues tb ∧ (dp.length : Int) = many ∧ (∀ p ∈ wd.1, 0 ≤ atF dp p ∧ atF dp p < ((tb.getD p.toNat []).length : Int)) ∧ Tabs Ps H ∧
  ∀ H', FrS Ps H H' → Q (.bl (decide (drwA tb dp wd.1 ∈ wd.2))) H'
structure TxtP1 (mg : Str → Option Value) : Prop where
  m_tuple : mg "tuple" = none
section
variable {P : Program} {w : World} {K : PySem.W.Frag} {mg : Str → Option Value} {base : Heap}
set_option maxHeartbeats 16000000 in
theorem ok_had {f : Addr} {fd : FuncData} {k : Nat} (F : Fun K "had" "had" sHad f fd) : FnOk P w K mg base CX0 (k + 1) f fd ["wishes", "level"] spHad := by
  refine F.ok scHad (fun vs H Q E h => ?_) (fun cdv A outer s H vs Q E hr h => ?_)
  · obtain ⟨wt, lv, was, wds, ns, many, hues, rfl, _⟩ := h
    rfl
  · obtain ⟨wt, lv, was, wds, ns, many, hues, rfl, hwt, pw, gr, nds, hlv, hn, n9, q⟩ := h
    refine ⟨_, (pss_cons (ps_set (i := 2) scHad.nd rfl (Or.inl rfl) pe_dnewK)
  (pss_cons (ps_for PassesOwn.never rfl (pi_list (pv 1)) (pg_name (i := 3) scHad.nd rfl (Or.inl rfl))
  (pss_one (ps_for PassesOwn.never rfl (pi_tup (pe_ix ix_tup (pe_ix ix_tup (pv 0) (pv 3) (fun _ _ => rfl)) pe_int (fun _ _ => rfl))) (pg_name (i := 4) scHad.nd rfl (Or.inl rfl))
  (pss_one (ps_asg (pe_op op_add (pe_dget2 (hu43 hr) (pv 2) (pv 4) pe_int ⟨by rfl, by rfl, by rfl, by rfl⟩) pe_int) (pg_sub (pv 2) (pv 4) (set_dict (hu43 hr))))))))
  (pss_one (ps_ret (pv 2))))), ?_⟩
    refine fun d nd => ?_
    have s1 := same_upd (o := .dK []) nd
    refine ⟨.ref lv, rfl, lv, rfl, ⟨_, .inl (.inl (s1 _ _ hlv))⟩, ?_⟩
    refine for_list (K := K) (a := lv) (xs := ns.map V.int) (fun i σ H3 => Same H H3 ∧ (∃ kvs, H3 d = some (.dK kvs) ∧ CntD many kvs (cntP wds (ns.take i)) ∧ kvs.length ≤ 3 * i) ∧ ∃ y3 y4, σ = [some (.ref wt), some (.ref lv), some (.ref d), y3, y4]) ⟨s1, ⟨[], upd_same, CntD.nil many, Nat.le_refl _⟩, none, none, rfl⟩ (fun i σ H3 _ p => .inl (.inl (p.1 _ _ hlv))) (fun i x σ H3 hx p => ?_) (fun σ H3 p => ?_)
    · obtain ⟨n, en, rfl⟩ := map_get hx
      obtain ⟨s3, ⟨kvs, hd, cd, kl⟩, y3, y4, rfl⟩ := p
      have nn := hn n (List.mem_of_getElem? en)
      have hi : i < ns.length := (List.getElem?_eq_some_iff.mp en).1
      have hwn : n.toNat < wds.length := by omega
      obtain ⟨wa, ewa, isw⟩ := pairedGet pw (List.getElem?_eq_getElem hwn)
      obtain ⟨pa, ra, rs, i1, i2, i3, i4⟩ := isw.mono (tups_same s3)
      have i2 : H3 pa = some (.tup ((wds[n.toNat]).1.map V.int)) := i2
      have g := gr.each _ (List.getElem_mem hwn)
      have ndp := nds _ (List.getElem_mem hwn)
      have ewt := wAt_of (wds := wds) (n := n) (List.getElem?_eq_getElem hwn)
      have g3 := g.three
      generalize wds[n.toNat] = wd at i2 g ndp ewt g3
      refine ⟨.ref wt, rfl, .int n, rfl, wt, _, _, .ref wa, rfl, rfl, .inl (.inl (s3 _ _ hwt)), atI_of nn.1 ewa, wa, _, 0, .ref pa, rfl, rfl, .inl (.inl i1), atI_nat (j := 0) rfl, pa, rfl, ⟨_, .inl (.inl i2)⟩, ?_⟩
      have npd : pa ≠ d := fun z => by rw [z, hd] at i2; cases i2
      refine for_tup (K := K) (a := pa) (xs := wd.1.map V.int) (fun j σ H4 => (Same H H4 ∧ H4 pa = some (.tup (wd.1.map V.int))) ∧ (∃ kvs, H4 d = some (.dK kvs) ∧ CntD many kvs (fun p => cntP wds (ns.take i) p + if p ∈ wd.1.take j then 1 else 0) ∧ kvs.length ≤ 3 * i + j) ∧ ∃ z4, σ = [some (.ref wt), some (.ref lv), some (.ref d), some (.int n), z4]) ⟨⟨s3, i2⟩, ⟨kvs, hd, by simpa using cd, by omega⟩, _, rfl⟩ (fun j σ H4 _ p => .inl (.inl p.1.2)) (fun j x σ H4 hx p => ?_) (fun σ H4 p => ?_)
      · obtain ⟨pl, epl, rfl⟩ := map_get hx
        obtain ⟨⟨s4, hpa4⟩, ⟨kvs4, hd4, cd4, kl4⟩, z4, rfl⟩ := p
        have hj : j < wd.1.length := (List.getElem?_eq_some_iff.mp epl).1
        have pp := g.pl pl (List.mem_of_getElem? epl)
        have dg := DGet.k (k := Sum.inl pl) hd4
        have nin : pl ∉ wd.1.take j := fun z => by
          obtain ⟨i0, hi0⟩ := List.getElem?_of_mem z
          have li := (List.getElem?_eq_some_iff.mp hi0).1
          rw [List.length_take] at li
          rw [List.getElem?_take_of_lt (by omega)] at hi0
          obtain ⟨a1, a2⟩ := List.getElem?_eq_some_iff.mp hi0
          obtain ⟨b1, b2⟩ := List.getElem?_eq_some_iff.mp epl
          have := (List.getElem_inj ndp).mp (a2.trans b2.symm)
          omega
        have vv : (valV kvs4 (Sum.inl pl)).getD (.int 0) = .int ((cntP wds (ns.take i) pl : Nat) : Int) := by
          rw [cd4.val pl, if_neg nin, Nat.add_zero]
          by_cases z : cntP wds (ns.take i) pl = 0
          · rw [if_pos z, z]
            rfl
          · rw [if_neg z]
            rfl
        refine ⟨.ref d, rfl, d, rfl, .inl ⟨kvs4, .inl hd4⟩, .int pl, rfl, _, dg, ?_⟩
        rw [vv]
        refine ⟨_, 1, rfl, rfl, .ref d, rfl, .int pl, rfl, d, _, rfl, DPut.k (k := Sum.inl pl) hd4 (Nat.lt_of_lt_of_le (show kvs4.length < 4000 by omega) (by decide)), ⟨same_put s4 nd, ?_⟩, ⟨_, upd_same, ?_, ?_⟩, _, rfl⟩
        · rw [upd_ne npd]
          exact hpa4
        · have z := cd4.more pp.1 pp.2
          rw [if_neg nin, Nat.add_zero] at z
          have e : (fun q : Int => if q = pl then cntP wds (ns.take i) pl + 1 else cntP wds (ns.take i) q + if q ∈ wd.1.take j then 1 else 0) = fun q => cntP wds (ns.take i) q + if q ∈ wd.1.take (j + 1) then 1 else 0 := by
            funext q
            rw [take_snoc epl]
            by_cases c : q = pl
            · subst c
              rw [if_pos rfl, if_pos (List.mem_append_right _ List.mem_cons_self)]
            · rw [if_neg c]
              by_cases c2 : q ∈ wd.1.take j
              · rw [if_pos c2, if_pos (List.mem_append_left _ c2)]
              · rw [if_neg c2, if_neg (fun z => (List.mem_append.mp z).elim c2 fun y => c (List.mem_singleton.mp y))]
          rw [e] at z
          exact z
        · exact Nat.le_trans (putK_le kvs4 (Sum.inl pl : Key) _) (by omega)
      · obtain ⟨⟨s4, hpa4⟩, ⟨kvs4, hd4, cd4, kl4⟩, z4, rfl⟩ := p
        rw [List.length_map, List.take_length] at cd4
        rw [List.length_map] at kl4
        refine ⟨s4, ⟨kvs4, hd4, ?_, by omega⟩, _, _, rfl⟩
        have e : (fun p : Int => cntP wds (ns.take i) p + if p ∈ wd.1 then 1 else 0) = cntP wds (ns.take (i + 1)) := by
          funext p
          unfold cntP
          rw [take_snoc en, List.countP_append, List.countP_singleton, ewt]
          congr 1
          by_cases c : p ∈ wd.1
          · rw [if_pos c, if_pos (decide_eq_true c)]
          · rw [if_neg c, if_neg (by rw [decide_eq_true_eq]; exact c)]
        rw [e] at cd4
        exact cd4
    · obtain ⟨s3, ⟨kvs, hd, cd, kl⟩, y3, y4, rfl⟩ := p
      rw [List.length_map, List.take_length] at cd
      exact ⟨.ref d, rfl, q H3 d kvs s3 nd hd cd⟩
set_option maxHeartbeats 16000000 in
theorem ok_hid {f c Pt : Addr} {Ps : List Addr} {fd : FuncData} {k : Nat} (F : FunC K "has_its_draws" "has_its_draws" sHid f fd (.ref c)) (TB : GxR.TabB base mg c Pt) (hP : Pt ∈ Ps) (T : TxtP1 mg) : FnOk P w K mg base CX0 (k + 3) f fd ["wish", "table", "deeper"] (spHid Ps) := by
  refine F.ok scHid (fun vs H Q E h => ?_) (fun A outer s H vs Q E hr h => ?_)
  · obtain ⟨wa, ta, ka, wd, das, tb, dp, many, hues, rfl, _⟩ := h
    rfl
  · obtain ⟨wa, ta, ka, wd, das, tb, dp, many, hues, rfl, isw, gw, m6, h4, hta, pt, hka, gt, dl, ok, hT, q⟩ := h
    refine ⟨_, (pss_cons (ps_asg (pv 0) (pg_tup rfl (pgs_cons (pg_name (i := 3) scHid.nd rfl (Or.inl rfl)) (pgs_cons (pg_name (i := 4) scHid.nd rfl (Or.inl rfl)) pgs_nil))))
  (pss_one (ps_ret (pe_cmpR (Dt.op_inT (units65 hr)) (Gx.pe_tupX (own := [("place", 5)]) (te := tOp (rIxL K) (tOp (rIxL K) (tVar 1) (tVar 5)) (tOp (rIxL K) (tVar 2) (tVar 5))) hr (by rfl) T.m_tuple rfl scHid.nd TB rfl (blkOk_by (own := [("place", 5)]) (N := nHid) (sc := defScope sHid) (by decide +kernel)) ⟨rfl, by decide +kernel, rfl⟩ (pi_tup (pv 3))
   (fun _ _ _ _ _ _ hA => (pg_name (i := 5) scHid.nd rfl (Or.inl rfl))) (fun _ _ _ _ _ _ hA => pts_nil) (fun _ _ _ _ _ _ hA => (pe_ix ix_list (pe_ix ix_list (pv 1) (pv 5) (fun _ _ => rfl)) (pe_ix ix_list (pv 2) (pv 5) (fun _ _ => rfl)) (fun _ _ => rfl)))) (pv 4) (by rfl))))), ?_⟩
    obtain ⟨pa, ra, rs, h1, h2, h3, h4'⟩ := id isw
    have h2 : H pa = some (.tup (wd.1.map V.int)) := h2
    have tl := gt.len
    have dal := pairedLen pt
    have g3 := gw.three
    refine ⟨.ref wa, rfl, wa, _, rfl, .inl (.inl h1), rfl, .ref pa, [.ref ra], rfl, .ref ra, [], rfl, rfl, ?_⟩
    refine ⟨.ref pa, rfl, pa, rfl, ⟨_, .inl (.inl h2)⟩, hT _ hP, fun H2 tbd => ?_⟩
    have f2 := FrS.one hT hP tbd
    have hue : ∀ p ∈ wd.1, ∃ ds, tb[p.toNat]? = some ds ∧ tb.getD p.toNat [] = ds ∧ 0 ≤ atF ds (atF dp p) ∧ atF ds (atF dp p) < hues := fun p hp => by
      have pp := gw.pl p hp
      have hk : p.toNat < tb.length := by omega
      have e : tb.getD p.toNat [] = tb[p.toNat] := by
        rw [List.getD_eq_getElem?_getD, List.getElem?_eq_getElem hk]
        rfl
      have o := ok p hp
      rw [e] at o
      refine ⟨tb[p.toNat], List.getElem?_eq_getElem hk, e, ?_⟩
      have m := List.mem_of_getElem? (atT o.1 o.2)
      exact gt.hue _ (List.getElem_mem hk) _ m
    refine Gx.tup_tup (K := K) (a := pa) (xs := wd.1.map V.int) (by rw [List.length_map]; exact Nat.le_of_lt (small1000 (by omega))) (fun i ys H3 => FrS Ps H H3 ∧ ys = (drwA tb dp (wd.1.take i)).map V.int) ⟨f2, rfl⟩ (fun i ys H3 _ f3 => .inl (.inl (f3.1.tups hT _ _ h2))) (fun i ys H3 f3 => ?_) (fun i x ys H3 hx f3 => ?_) (fun ys H3 f3 => ?_)
    · rw [f3.2, List.length_map, drwA, List.length_map, List.length_take]
      omega
    · obtain ⟨p, ep, rfl⟩ := map_get hx
      obtain ⟨f3, rfl⟩ := f3
      have mp := List.mem_of_getElem? ep
      have pp := gw.pl p mp
      have o := ok p mp
      obtain ⟨ds, eds, egd, _⟩ := hue p mp
      have q3 := f3.seqs hT
      obtain ⟨da, eda, ida⟩ := pairedGet pt eds
      rw [egd] at o
      refine ⟨rfl, yes_if ?_⟩
      refine ⟨.ref ta, rfl, .int p, rfl, ta, _, _, .ref da, rfl, rfl, .inl (.inl (q3.2 _ _ hta)), atI_of pp.1 eda, .ref ka, rfl, .int p, rfl, ka, _, _, .int (atF dp p), rfl, rfl, .inl (.inl (q3.2 _ _ hka)), atI_of pp.1 (atT pp.1 (by omega)), da, _, _, .int (atF ds (atF dp p)), rfl, rfl, .inl (.inl (q3.2 _ _ ida)), atI_of o.1 (atT o.1 o.2), f3, ?_⟩
      rw [take_snoc ep, drwA, drwA, List.map_append, List.map_append]
      show _ = _ ++ [V.int (atF (tb.getD p.toNat []) (atF dp p))]
      rw [egd]
    · obtain ⟨f3, rfl⟩ := f3
      rw [List.length_map, List.take_length]
      intro t nt
      have v4 := same_upd (o := .tup ((drwA tb dp wd.1).map V.int)) nt
      have f4 := f3.same v4
      have tp := f4.tups hT
      refine ⟨.ref ra, rfl, rowD (drwA tb dp wd.1), wd.2.map rowD, .tup (.inl (.inl upd_same)) (dpInts _), .tup (.inl (.inl (tp _ _ h3))) (dpRows (pairedMap (fun _ _ e => tp _ _ e) h4')), ?_, ?_, ?_⟩
      · refine (fine_row (fun z hz => ?_) ?_).shaped (by decide)
        · obtain ⟨p, hp, rfl⟩ := List.mem_map.mp hz
          obtain ⟨ds, _, egd, o1, o2⟩ := hue p hp
          rw [egd]
          omega
        · rw [drwA, List.length_map]
          omega
      · refine (Fine.tuple (fineAll_map wd.2 (n := 2) (w := 64) fun r hr => fine_row (fun z hz => ?_) ?_)).shaped (by decide)
        · have := (gw.row r hr).2 z hz
          omega
        · have := (gw.row r hr).1
          omega
      · rw [anyRows]
        exact q _ f4
end
end Rd

set_option Elab.async false
set_option linter.all false
set_option maxRecDepth 100000
set_option maxHeartbeats 4000000
namespace Rd
open PySem PySem.Spec PyProof.Rows L2 Dt
abbrev sLvo : Stmt := topS 13
abbrev nLvo : List Str := ["wishes", "table", "tree", "levels", "left", "trees", "level", "place", "times", "number", "below", "other"]
theorem scLvo : FnScope nLvo ["wishes", "table", "tree"] (defScope sLvo) := ⟨rfl, rfl, rfl, by decide +kernel, rfl, by decide +kernel, by decide +kernel⟩
theorem lcin_tup {K : PySem.W.Frag} {a : Addr} {xs : List V} {g : TG} {tt : TT} {te : TE} {vs : List Nat} {σ : L2.St} {H4 : Hp} {D : Addr} {Qd : Hp → Prop} (Pv : Nat → Hp → Prop) (h0 : Pv 0 H4) (hl : ∀ i H, i ≤ xs.length → Pv i H → SqT K H a xs)
    (hs : ∀ i x H, xs[i]? = some x → Pv i H → g x (wipe σ vs) H fun σ2 H2 => wipe σ2 vs = wipe σ vs ∧ tt σ2 H2 fun b H3 =>
      if b = true then te σ2 H3 fun y H4 => ∃ acc, H4 D = some (.lst acc) ∧ acc.length < sizeLine ∧ Pv (i + 1) (upd H4 D (.lst (acc ++ [y]))) else Pv (i + 1) H3) (hd : ∀ H, Pv xs.length H → Qd H) :
    ∃ W : Nat → Nat → Hp → Prop, (∃ m, W 0 m H4) ∧ ∀ i m H, W i m H →
      ((Itt K a).stop i H ∧ Qd H) ∨ ((Itt K a).go i H ∧ ∃ Nx : Hp → Prop, (∀ H', Nx H' → ∃ m', m' < m ∧ W (i + 1) m' H') ∧ ∀ x H', (Itt K a).yld i H x H' → g x (wipe σ vs) H' fun σ2 H2 => wipe σ2 vs = wipe σ vs ∧ tt σ2 H2 fun b H3 =>
        if b = true then te σ2 H3 fun y H4 => ∃ acc, H4 D = some (.lst acc) ∧ acc.length < sizeLine ∧ Nx (upd H4 D (.lst (acc ++ [y]))) else Nx H3) := by
  refine ⟨fun i m H => m = xs.length - i ∧ i ≤ xs.length ∧ Pv i H, ⟨xs.length, by simp, Nat.zero_le _, h0⟩, ?_⟩
  rintro i m H ⟨rfl, hi, p⟩
  have q := hl i H hi p
  by_cases hlt : i < xs.length
  · refine .inr ⟨⟨xs, xs[i], q, by simp [hlt]⟩, Pv (i + 1), fun H' p' => ⟨xs.length - (i + 1), by omega, rfl, hlt, p'⟩, fun x H' y => ?_⟩
    obtain ⟨e, y⟩ := y
    subst e
    exact hs i x _ (y xs q) p
  · have e : i = xs.length := by omega
    subst e
    exact .inl ⟨⟨xs, q, Nat.le_refl _⟩, hd H p⟩
theorem valV_at {κ : Type} [DecidableEq κ] : ∀ {kvs : List (κ × V)} {j : Nat} {k : κ} {v : V}, (kvs.map (·.1)).Nodup → kvs[j]? = some (k, v) → valV kvs k = some v
  | [], _, _, _, _, h => by simp at h
  | x :: r, 0, k, v, _, h => by
    cases Option.some.inj (show some x = some (k, v) from h)
    exact valV_pos (p := (k, v)) rfl
  | x :: r, j + 1, k, v, nd, h => by
    rw [List.map_cons] at nd
    obtain ⟨n1, n2⟩ := List.nodup_cons.mp nd
    have h' : r[j]? = some (k, v) := h
    rw [valV_neg fun z => n1 (by rw [z]; exact List.mem_map.mpr ⟨(k, v), List.mem_of_getElem? h', rfl⟩)]
    exact valV_at n2 h'
theorem valV_key {κ : Type} [DecidableEq κ] : ∀ {kvs : List (κ × V)} {k : κ} {v : V}, valV kvs k = some v → ∃ j : Nat, kvs[j]? = some (k, v)
  | [], _, _, h => by rw [valV_nil] at h; cases h
  | x :: r, k, v, h => by
    by_cases e : x.1 = k
    · rw [valV_pos e] at h
      refine ⟨0, ?_⟩
      cases Option.some.inj h
      rw [← e]
      rfl
    · rw [valV_neg e] at h
      obtain ⟨j, hj⟩ := valV_key h
      exact ⟨j + 1, hj⟩
def keyI (x : Key × V) : Option Int := match x.1 with
  | .inl p => some p
  | _ => none
theorem nodup_le {α : Type} [DecidableEq α] : ∀ {l m : List α}, l.Nodup → (∀ x ∈ l, x ∈ m) → l.length ≤ m.length
  | [], m, _, _ => Nat.zero_le _
  | x :: r, m, nd, h => by
    obtain ⟨n1, n2⟩ := List.nodup_cons.mp nd
    have hx := h x List.mem_cons_self
    have ih := nodup_le (m := m.erase x) n2 fun y hy => (List.mem_erase_of_ne fun z => n1 (by rw [← z]; exact hy)).mpr (h y (List.mem_cons_of_mem _ hy))
    rw [List.length_erase_of_mem hx] at ih
    have := List.length_pos_of_mem hx
    rw [List.length_cons]
    omega
def LD (kvs : List (Key × V)) (g : Int → Option Int) : Prop := ∀ p : Int, valV kvs (Sum.inl p) = (g p).map V.int
theorem LD.put {kvs : List (Key × V)} {g : Int → Option Int} (h : LD kvs g) (p y : Int) : LD (putK kvs (Sum.inl p) (.int y)) fun q => if q = p then some y else g q := fun q => by
  rw [valV_put]
  dsimp only
  by_cases e : q = p
  · subst e
    rw [if_pos rfl, if_pos rfl]
    rfl
  · rw [if_neg (fun z => e (Sum.inl.inj z)), if_neg e]
    exact h q
def spLvo : Sp := fun vs H Q _ => ∃ (wt ta : Addr) (v : V) (T : WTr) (was das : List Addr) (wds : List WD) (tb : List (List Int)) (many hues : Int), vs = [.ref wt, .ref ta, v] ∧ H wt = some (.tup (was.map V.ref)) ∧ Paired (IsWish H) was wds ∧ GoodR many hues wds ∧ (∀ wd ∈ wds, wd.1.Nodup) ∧ H ta = some (.lst (das.map V.ref)) ∧ Paired (IsInts H) das tb ∧ (tb.length : Int) = many ∧ IsTr H v T ∧ (∀ z ∈ nodesD T 0, 0 ≤ z.1 ∧ z.1 < (wds.length : Int)) ∧ (nodesD T 0).length ≤ 900 ∧
  (∀ H', Same H H' → passB wds tb (nodesD T 0) = false → Q .non H') ∧
  (∀ H' l las Ls, Same H H' → H l = none → H' l = some (.lst (las.map V.ref)) → Paired (IsInts H') las Ls → (zipL Ls 0).Perm (nodesD T 0) → (∀ p x, leftF wds (lnT tb) Ls p = some x → 1 ≤ x) → Ls.length ≤ 900 → Q (.ref l) H')
structure TxtQ1 (P : Program) (w : World) (K : PySem.W.Frag) (mg : Str → Option Value) (base : Heap) : Prop where
  m_len : mg "len" = none
  c_had : Cal P w K mg base 1 "had" ["wishes", "level"] spHad
section
variable {P : Program} {w : World} {K : PySem.W.Frag} {mg : Str → Option Value} {base : Heap}
set_option maxHeartbeats 32000000 in
theorem ok_lvo {f : Addr} {fd : FuncData} {k : Nat} (F : Fun K "levels_of" "levels_of" sLvo f fd) (T : TxtQ1 P w K mg base) : FnOk P w K mg base CX0 (k + 2) f fd ["wishes", "table", "tree"] spLvo := by
  refine F.ok scLvo (fun vs H Q E h => ?_) (fun cdv A outer s H vs Q E hr h => ?_)
  · obtain ⟨wt, ta, v, T0, was, das, wds, tb, many, hues, rfl, _⟩ := h
    rfl
  · obtain ⟨wt, ta, v, T0, was, das, wds, tb, many, hues, rfl, hwt, pw, gr, nds, hta, pt, tbl, isT, inR, few, qn, q⟩ := h
    refine ⟨_, (pss_cons (ps_set (i := 3) scLvo.nd rfl (Or.inl rfl) (pe_lst pa_nil))
  (pss_cons (ps_set (i := 4) scLvo.nd rfl (Or.inl rfl) pe_dnewK)
  (pss_cons (ps_set (i := 5) scLvo.nd rfl (Or.inl rfl) (pe_lst (pa_cons (pv 2) pa_nil)))
  (pss_cons (ps_while PassesOwn.never (pt_truth (pv 5) (by intro _; rfl))
  (pss_cons (ps_setLc (i := 6) (g := gTup K 2 (gCons (gName 9) (gCons (gName 10) gNil))) (te := tVar 9) (own := [("number", 9), ("below", 10)]) rfl scLvo.nd rfl rfl (sw_true rfl rfl rfl (by decide +kernel)) (pi_list (pv 5)) (blkOk_by (own := [("number", 9), ("below", 10)]) (N := nLvo) (sc := defScope sLvo) (by decide +kernel))
   (fun _ _ _ _ _ => (pg_tup rfl (pgs_cons (pg_name (i := 9) scLvo.nd rfl (Or.inl rfl)) (pgs_cons (pg_name (i := 10) scLvo.nd rfl (Or.inl rfl)) pgs_nil)))) (fun _ _ _ _ _ => pts_nil) (fun _ _ _ _ _ => (pv 9)))
  (pss_cons (ps_for PassesOwn.never rfl (pi_items (pe_frz (pe_cal T.c_had (hr.mono (by omega)) (by rfl) (pa_cons (pv 0) (pa_cons (pv 6) pa_nil))))) (pg_tup rfl (pgs_cons (pg_name (i := 7) scLvo.nd rfl (Or.inl rfl)) (pgs_cons (pg_name (i := 8) scLvo.nd rfl (Or.inl rfl)) pgs_nil)))
  (C8.pss_cut (ps_asg (pe_ifExp (pt_cmp (pc_din (hu43 hr) (pv 7) (pv 4))) (pe_op op_sub (pe_dget (hu43 hr) (pv 4) (pv 7) (fun _ _ => rfl)) (pv 8)) (pe_callB call_len_seq (by rfl) T.m_len (by decide +kernel) (pa_cons (pe_ix ix_list (pv 1) (pv 7) (fun _ _ => rfl)) pa_nil))) (pg_sub (pv 4) (pv 7) (set_dict (hu43 hr))))
  (pss_one (ps_if (pt_cmpR op_lt (pe_dget (hu43 hr) (pv 4) (pv 7) (fun _ _ => rfl)) pe_int (nomark _))
  (pss_one (ps_ret pe_non)) pss_nil))))
  (pss_cons (ps_expr (pe_bm PySem.F.plainAttrs_list PySem.F.slot_list_append PySem.F.type_list_append mt_append (pv 3) (pa_cons (pv 6) pa_nil)))
  (pss_one (ps_setLc2 (i := 5) (g := gTup K 2 (gCons (gName 9) (gCons (gName 10) gNil))) (wi1 := iTup K (tVar 10)) (g1 := gName 11) (te := tVar 11) (own := [("number", 9), ("below", 10), ("other", 11)]) (vs1 := [11]) rfl scLvo.nd rfl rfl (sw_true rfl rfl rfl (by decide +kernel)) (pi_list (pv 5)) (blkOk_by (own := [("number", 9), ("below", 10), ("other", 11)]) (N := nLvo) (sc := defScope sLvo) (by decide +kernel)) (by decide)
   (fun _ _ _ _ _ => (pg_tup rfl (pgs_cons (pg_name (i := 9) scLvo.nd rfl (Or.inl rfl)) (pgs_cons (pg_name (i := 10) scLvo.nd rfl (Or.inl rfl)) pgs_nil)))) (fun _ _ _ _ _ => pts_nil) (fun _ _ _ _ _ => (pi_tup (pv 10))) (fun _ _ _ _ _ => (pg_name (i := 11) scLvo.nd rfl (Or.inl rfl))) (fun _ _ _ _ _ => pts_nil) (fun _ _ _ _ _ => (pv 11))))))))
  (pss_one (ps_ret (pv 3))))))), ?_⟩
    have dal := pairedLen pt
    refine ⟨(by show 0 ≤ sizeLine; decide), fun lv nlv => ?_⟩
    have s1 := same_upd (o := .lst []) nlv
    have hlv1 : upd H lv (.lst []) lv = some (.lst []) := upd_same
    generalize upd H lv (.lst []) = H1 at s1 hlv1
    refine fun ld nld => ?_
    have s2 := same_upd (o := .dK []) nld
    have hld2 : upd H1 ld (.dK []) ld = some (.dK []) := upd_same
    have nldl : ld ≠ lv := fun z => by rw [z, hlv1] at nld; cases nld
    have nldH : H ld = none := s1.free nld
    have hlv2 := s2 _ _ hlv1
    have s02 := s1.trans s2
    generalize upd H1 ld (.dK []) = H2 at s2 hld2 hlv2 s02
    refine ⟨v, rfl, (by show 1 ≤ sizeLine; decide), fun tv ntv => ?_⟩
    have s3 := same_upd (o := .lst [v]) ntv
    have htv3 : upd H2 tv (.lst [v]) tv = some (.lst [v]) := upd_same
    have hld3 := s3 _ _ hld2
    have hlv3 := s3 _ _ hlv2
    have s03 := s02.trans s3
    have ntvl : tv ≠ lv := fun z => by rw [z, hlv2] at ntv; cases ntv
    generalize upd H2 tv (.lst [v]) = H3 at s3 htv3 hld3 hlv3 s03
    refine ⟨fun m σ Hm => Same H Hm ∧ (∃ (las : List Addr) (Ls : List (List Int)) (kvs : List (Key × V)) (tv : Addr) (vs : List V) (ts : List WTr), Hm lv = some (.lst (las.map V.ref)) ∧ Paired (IsInts Hm) las Ls ∧ lv ∉ las ∧ Hm ld = some (.dK kvs) ∧ LD kvs (leftF wds (lnT tb) Ls) ∧ kvs.length ≤ 3 * (zipL Ls 0).length ∧ (∀ p x, leftF wds (lnT tb) Ls p = some x → 1 ≤ x) ∧ Hm tv = some (.lst vs) ∧ tv ≠ lv ∧ IsTrs Hm vs ts ∧ (zipL Ls 0 ++ nodesL ts (Ls.length : Int)).Perm (nodesD T0 0) ∧ Ls.length ≤ (zipL Ls 0).length ∧ m = (nodesL ts (Ls.length : Int)).length ∧ ∃ y6 y7 y8, σ = [some (.ref wt), some (.ref ta), some v, some (.ref lv), some (.ref ld), some (.ref tv), y6, y7, y8, none, none, none]), ⟨_, s03, [], [], [], tv, [v], [T0], hlv3, .nil, (by simp), hld3, fun _ => rfl, Nat.zero_le _, (fun p x z => nomatch z), htv3, ntvl, .cons (isT.mono (tups_same s03)) .nil, ?_, Nat.zero_le _, rfl, none, none, none, rfl⟩, ?_⟩
    · show (nodesL [T0] 0).Perm (nodesD T0 0)
      rw [nodesL, nodesL, List.append_nil]
    · clear htv3 hld3 hlv3 s03 s3 ntvl ntv hld2 hlv2 s02 s2 hlv1 s1
      rintro m σ Hm ⟨sm, las, Ls, kvs, tv, vs, ts, hlv, pl, nll, hld, ldo, kl, ge1, htv, ntl, itr, pm, lsl, rfl, y6, y7, y8, rfl⟩
      have vl := itr.len
      have tot := pm.length_eq
      rw [List.length_append] at tot
      refine ⟨.ref tv, rfl, _, .inl ⟨_, .inl (.inl htv), rfl⟩, ?_⟩
      by_cases te : ts = []
      · have ve : vs = [] := List.length_eq_zero_iff.mp (by rw [vl, te]; rfl)
        rw [ve]
        refine iteF ⟨.ref lv, rfl, q Hm lv las Ls sm nlv hlv pl ?_ ge1 (by omega)⟩
        rw [te, nodesL, List.append_nil] at pm
        exact pm
      · have em : (!vs.isEmpty) = true := by
          cases hc : vs with
          | nil => exact absurd (List.length_eq_zero_iff.mp (by rw [← vl, hc]; rfl)) te
          | cons a r => rfl
        rw [em]
        refine iteT ⟨_, fun σ' H' p => p, ?_⟩
        have stp := nodesL_step (Ls.length : Int) ts
        have stl := stp.length_eq
        rw [List.length_append, List.length_map] at stl
        have tpos : 1 ≤ ts.length := by
          cases hc : ts with
          | nil => exact absurd hc te
          | cons a r => rw [List.length_cons]; omega
        -- the level
        refine ⟨.ref tv, rfl, tv, rfl, ⟨_, .inl (.inl htv)⟩, fun D nD => ?_⟩
        refine lc_list (K := K) (a := tv) (xs := vs) (fun j H10 => Same Hm H10 ∧ H10 D = some (.lst (((ts.take j).map WTr.top).map V.int))) ⟨same_upd nD, upd_same⟩ (fun j H10 _ p => .inl (.inl (p.1 _ _ htv))) (fun j x H10 hx p => ?_) (fun H10 p => ?_)
        · obtain ⟨s10, hD⟩ := p
          obtain ⟨t, et, it⟩ := itr.get hx
          have hj : j < ts.length := (List.getElem?_eq_some_iff.mp et).1
          cases it with
          | @mk a c n vs1 ts1 h1 h2 h3 =>
          refine ⟨a, _, rfl, .inl (.inl (s10 _ _ h1)), rfl, .int n, [.ref c], rfl, .ref c, [], rfl, rfl, rfl, yes_if ?_⟩
          refine ⟨.int n, rfl, _, hD, by rw [List.length_map, List.length_map, List.length_take]; exact small1000 (by omega), same_put s10 nD, ?_⟩
          rw [upd_same, take_snoc et, List.map_append, List.map_append]
          rfl
        obtain ⟨s10, hD⟩ := p
        rw [vl, List.take_length] at hD
        have nDlv : D ≠ lv := fun z => by rw [z, hlv] at nD; cases nD
        have nDld : D ≠ ld := fun z => by rw [z, hld] at nD; cases nD
        have nDla : D ∉ las := fun z => by
          obtain ⟨i0, hi0⟩ := List.getElem?_of_mem z
          obtain ⟨r0, _, e⟩ := pairedGetL pl hi0
          have e : Hm D = some (.lst (r0.map V.int)) := e
          rw [nD] at e
          cases e
        have inL : ∀ n ∈ ts.map WTr.top, 0 ≤ n ∧ n < (wds.length : Int) := fun n hn => by
          obtain ⟨t, ht, rfl⟩ := List.mem_map.mp hn
          exact inR (t.top, (Ls.length : Int)) (pm.mem_iff.mp (List.mem_append_right _ (stp.mem_iff.mpr (List.mem_append_left _ (List.mem_map.mpr ⟨t, ht, rfl⟩)))))
        have s010 := sm.trans s10
        refine ⟨.ref wt, rfl, .ref D, rfl, wt, D, was, wds, ts.map WTr.top, many, hues, rfl, s010 _ _ hwt, pairedMap (fun _ _ e => IsWish.mono (tups_same s010) e) pw, gr, nds, hD, inL, by rw [List.length_map]; omega, fun H11 dh kvh s11 ndh hdh cd => ⟨dh, .dK kvh, rfl, hdh, trivial, fun od => ⟨dh, od, kvh, rfl, upd_same, ?_⟩⟩⟩
        have hmd : Hm dh = none := s10.free ndh
        have s12 : Same Hm (upd H11 dh (.frz od (.dK kvh))) := same_put (s10.trans s11) hmd
        have nDdh : D ≠ dh := fun z => by rw [← z, hD] at ndh; cases ndh
        have hD12 : upd H11 dh (.frz od (.dK kvh)) D = some (.lst ((ts.map WTr.top).map V.int)) := by rw [upd_ne nDdh]; exact s11 _ _ hD
        have hdh12 : upd H11 dh (.frz od (.dK kvh)) dh = some (.frz od (.dK kvh)) := upd_same
        generalize upd H11 dh (.frz od (.dK kvh)) = H12 at s12 hD12 hdh12
        have dhld : dh ≠ ld := fun z => by rw [z, hld] at hmd; cases hmd
        have s012 := sm.trans s12
        have hld12 := s12 _ _ hld
        have hlv12 := s12 _ _ hlv
        have htv12 := s12 _ _ htv
        have pl12 := pairedMap (fun _ _ e => s12 _ _ e) pl
        have itr12 := itr.mono (tups_same s12)
        clear hD s010 s10 s11 hdh ndh hmd
        obtain ⟨L, eL⟩ : ∃ L, L = ts.map WTr.top := ⟨_, rfl⟩
        rw [← eL] at hD12 cd inL
        -- what stands in the dict
        have ent : ∀ {j : Nat} {kk : Key} {x : V}, kvh[j]? = some (kk, x) → ∃ p : Int, kk = Sum.inl p ∧ x = .int (cntP wds L p : Nat) ∧ 0 < cntP wds L p ∧ 0 ≤ p ∧ p < many := fun {j kk x} e => by
          obtain ⟨p, ep, p0, p1⟩ := cd.key _ (List.mem_of_getElem? e)
          have ep : kk = Sum.inl p := ep
          subst ep
          have z := valV_at cd.nd e
          rw [cd.val p] at z
          by_cases c : cntP wds L p = 0
          · rw [if_pos c] at z
            cases z
          · rw [if_neg c] at z
            exact ⟨p, rfl, (Option.some.inj z).symm, by omega, p0, p1⟩
        have kvl : kvh.length ≤ 3 * L.length := by
          have sub : ∀ x ∈ kvh.map (·.1), x ∈ L.flatMap fun n => (wAt wds n).1.map fun p => (Sum.inl p : Key) := fun x hx => by
            obtain ⟨y, hy, rfl⟩ := List.mem_map.mp hx
            obtain ⟨j, hj⟩ := List.getElem?_of_mem hy
            obtain ⟨p, ep, _, cp, _, _⟩ := ent (j := j) (kk := y.1) (x := y.2) hj
            obtain ⟨n, hn, hp⟩ := List.countP_pos_iff.mp cp
            exact List.mem_flatMap.mpr ⟨n, hn, List.mem_map.mpr ⟨p, of_decide_eq_true hp, ep.symm⟩⟩
          have a := nodup_le cd.nd sub
          rw [List.length_map] at a
          refine Nat.le_trans a ?_
          have b : ∀ l : List Int, (∀ n ∈ l, 0 ≤ n ∧ n < (wds.length : Int)) → (l.flatMap fun n => (wAt wds n).1.map fun p => (Sum.inl p : Key)).length ≤ 3 * l.length := fun l => by
            induction l with
            | nil => exact fun _ => Nat.le_refl _
            | cons n r ih =>
              intro h
              have hn := h n List.mem_cons_self
              have hk : n.toNat < wds.length := by omega
              have g := (gr.each _ (List.getElem_mem hk)).three
              have := ih fun x hx => h x (List.mem_cons_of_mem _ hx)
              rw [List.flatMap_cons, List.length_append, List.length_map, wAt_of (List.getElem?_eq_getElem hk), List.length_cons]
              omega
          exact b L inL
        have LLl : L.length = ts.length := by rw [eL, List.length_map]
        refine for_items (fun j σ H13 => (∀ b o, b ≠ ld → H12 b = some o → H13 b = some o) ∧ Same H H13 ∧ (∃ kvs', H13 ld = some (.dK kvs') ∧ LD kvs' (fun p => if p ∈ (kvh.take j).filterMap keyI then lstep wds (lnT tb) (leftF wds (lnT tb) Ls p) L p else leftF wds (lnT tb) Ls p) ∧ kvs'.length ≤ kvs.length + j ∧ ∀ p ∈ (kvh.take j).filterMap keyI, ∀ x, lstep wds (lnT tb) (leftF wds (lnT tb) Ls p) L p = some x → 1 ≤ x) ∧ ∃ z7 z8, σ = [some (.ref wt), some (.ref ta), some v, some (.ref lv), some (.ref ld), some (.ref tv), some (.ref D), z7, z8, none, none, none]) ⟨fun _ _ _ e => e, s012, ⟨kvs, hld12, fun p => by dsimp only; rw [if_neg (by simp)]; exact ldo p, by omega, fun p hp => by simp at hp⟩, y7, y8, rfl⟩ (fun j σ H13 _ p => p.1 _ _ dhld hdh12) (fun j kk x σ H13 Tt hx p nT => ?_) (fun σ H13 p => ?_)
        · obtain ⟨k13, s013, ⟨kvs', hld13, ld13, kl13, ok13⟩, z7, z8, rfl⟩ := p
          obtain ⟨p, rfl, rfl, cpos, p0, p1⟩ := ent hx
          have hj : j < kvh.length := (List.getElem?_eq_some_iff.mp hx).1
          have vis : (kvh.take (j + 1)).filterMap keyI = (kvh.take j).filterMap keyI ++ [p] := by
            rw [take_snoc hx, List.filterMap_append]
            rfl
          have nv : p ∉ (kvh.take j).filterMap keyI := fun z => by
            obtain ⟨y, hy, ey⟩ := List.mem_filterMap.mp z
            obtain ⟨i0, hi0⟩ := List.getElem?_of_mem hy
            have li := (List.getElem?_eq_some_iff.mp hi0).1
            rw [List.length_take] at li
            rw [List.getElem?_take_of_lt (by omega)] at hi0
            have ey1 : y.1 = Sum.inl p := by
              unfold keyI at ey
              split at ey
              · rename_i q' e'
                rw [e']
                rw [Option.some.inj ey]
              · cases ey
            have nk := cd.nd
            have a1 : (kvh.map (·.1))[i0]? = some (Sum.inl p) := by rw [List.getElem?_map, hi0]; exact congrArg some ey1
            have a2 : (kvh.map (·.1))[j]? = some (Sum.inl p) := by rw [List.getElem?_map, hx]; rfl
            obtain ⟨b1, b2⟩ := List.getElem?_eq_some_iff.mp a1
            obtain ⟨c1, c2⟩ := List.getElem?_eq_some_iff.mp a2
            have := (List.getElem_inj nk).mp (b2.trans c2.symm)
            omega
          have cur := ld13 p
          dsimp only at cur
          rw [if_neg nv] at cur
          have vT := same_upd (o := .tup [kV (Sum.inl p), .int (cntP wds L p : Nat)]) nT
          have hld14 := vT _ _ hld13
          have s014 := s013.trans vT
          have k14 : ∀ b o, b ≠ ld → H12 b = some o → upd H13 Tt (.tup [kV (Sum.inl p), .int (cntP wds L p : Nat)]) b = some o := fun b o n e => vT _ _ (k13 b o n e)
          have hT14 : upd H13 Tt (.tup [kV (Sum.inl p), .int (cntP wds L p : Nat)]) Tt = some (.tup [V.int p, .int (cntP wds L p : Nat)]) := upd_same
          generalize upd H13 Tt (.tup [kV (Sum.inl p), .int (cntP wds L p : Nat)]) = H14 at vT hld14 s014 k14 hT14
          refine ⟨Tt, _, rfl, .inl (.inl hT14), rfl, .int p, [.int (cntP wds L p : Nat)], rfl, .int (cntP wds L p : Nat), [], rfl, rfl, ?_⟩
          have kvb : kvs'.length < sizeLine := Nat.lt_of_lt_of_le (show kvs'.length < 9000 by omega) (by decide)
          refine ⟨fun σ H15 => ∃ y, lstep wds (lnT tb) (leftF wds (lnT tb) Ls p) L p = some y ∧ H15 = upd H14 ld (.dK (putK kvs' (Sum.inl p) (.int y))) ∧ σ = [some (.ref wt), some (.ref ta), some v, some (.ref lv), some (.ref ld), some (.ref tv), some (.ref D), some (.int p), some (.int (cntP wds L p : Nat)), none, none, none], ?_, ?_⟩
          · have dg := DGet.k (k := Sum.inl p) hld14
            refine ⟨.int p, rfl, .ref ld, rfl, ld, _, rfl, dg, _, rfl, ?_⟩
            rw [cur] at dg ⊢
            cases o : leftF wds (lnT tb) Ls p with
            | none =>
              rw [o] at dg
              have hk : p.toNat < tb.length := by omega
              obtain ⟨da, eda, ida⟩ := pairedGet pt (List.getElem?_eq_getElem hk)
              refine iteF ⟨.ref ta, rfl, .int p, rfl, ta, _, _, .ref da, rfl, rfl, .inl (.inl (s014 _ _ hta)), atI_of p0 eda, da, _, rfl, .inl (.inl (.inl (s014 _ _ ida))), .ref ld, rfl, .int p, rfl, ld, _, rfl, DPut.k (k := Sum.inl p) hld14 kvb, _, ?_, rfl, rfl⟩
              unfold lstep
              dsimp only
              rw [if_neg (by omega), lnT, List.getD_eq_getElem?_getD, List.getElem?_eq_getElem hk, List.length_map]
              rfl
            | some x =>
              rw [o] at dg
              exact iteT ⟨.ref ld, rfl, .int p, rfl, ld, _, rfl, dg, .int (cntP wds L p : Nat), rfl, x, _, rfl, rfl, .ref ld, rfl, .int p, rfl, ld, _, rfl, DPut.k (k := Sum.inl p) hld14 kvb, _, rfl, rfl, rfl⟩
          · rintro σ H15 ⟨y, ey, rfl, rfl⟩
            have hld15 : upd H14 ld (.dK (putK kvs' (Sum.inl p) (.int y))) ld = some (.dK (putK kvs' (Sum.inl p) (.int y))) := upd_same
            have dg := DGet.k (k := Sum.inl p) hld15
            rw [valV_put, if_pos rfl] at dg
            have s015 : Same H (upd H14 ld (.dK (putK kvs' (Sum.inl p) (.int y)))) := same_put s014 nldH
            refine ⟨.ref ld, rfl, .int p, rfl, ld, _, rfl, dg, y, 1, rfl, rfl, _, rfl, ite2 (fun c => ?_) (fun c => ?_)⟩
            · have c : y < 1 := of_decide_eq_true c
              refine qn _ s015 ?_
              have lz := lvF_zip (nodesL (ts.flatMap kidsT) ((Ls.length : Int) + 1)).length (ts.flatMap kidsT) ((Ls.length : Int) + 1) (Nat.le_refl _)
              have pz : (zipL ((Ls ++ [L]) ++ lvF (nodesL (ts.flatMap kidsT) ((Ls.length : Int) + 1)).length (ts.flatMap kidsT)) 0).Perm (nodesD T0 0) := by
                refine List.Perm.trans ?_ pm
                rw [zipL_app, zipL_app, List.append_assoc, Int.zero_add, Int.zero_add, List.length_append, List.length_singleton]
                refine List.Perm.append_left _ ?_
                refine List.Perm.trans ?_ stp.symm
                have e1 : zipL [L] (Ls.length : Int) = ts.map fun t => (t.top, (Ls.length : Int)) := by
                  rw [zipL, zipL, List.append_nil, eL, List.map_map]
                  rfl
                have e2 : (((Ls.length + 1 : Nat)) : Int) = (Ls.length : Int) + 1 := by omega
                rw [e1, e2]
                exact List.Perm.append_left _ lz
              rw [← passB_perm pz]
              exact left_bad (x := y) (p := p) (by rw [leftF_snoc]; exact ey) c
            · have c : ¬ y < 1 := fun z => c (decide_eq_true z)
              refine ⟨fun b o n e => by rw [upd_ne n]; exact k14 b o n e, s015, ⟨_, hld15, ?_, ?_, ?_⟩, _, _, rfl⟩
              · have z := ld13.put p y
                intro q'
                rw [z q', vis]
                dsimp only
                by_cases c1 : q' = p
                · subst c1
                  rw [if_pos rfl, if_pos (List.mem_append_right _ List.mem_cons_self), ey]
                · rw [if_neg c1]
                  by_cases c2 : q' ∈ (kvh.take j).filterMap keyI
                  · rw [if_pos c2, if_pos (List.mem_append_left _ c2)]
                  · rw [if_neg c2, if_neg (fun z => (List.mem_append.mp z).elim c2 fun y => c1 (List.mem_singleton.mp y))]
              · have := putK_le kvs' (Sum.inl p : Key) (.int y)
                omega
              · intro q' hq' x' ex'
                rw [vis] at hq'
                rcases List.mem_append.mp hq' with h | h
                · exact ok13 q' h x' ex'
                · rw [List.mem_singleton.mp h, ey] at ex'
                  cases Option.some.inj ex'
                  omega
        · obtain ⟨k13, s013, ⟨kvs', hld13, ld13, kl13, ok13⟩, z7, z8, rfl⟩ := p
          rw [List.take_length] at ld13 ok13
          have ne13 : ∀ {b : Addr} {o : HO}, H12 b = some o → o ≠ .dK kvs → H13 b = some o := fun {b o} e n => k13 b o (fun z => by rw [z, hld12] at e; exact n (Option.some.inj e).symm) e
          have hlv13 := ne13 hlv12 nofun
          have htv13 := ne13 htv12 nofun
          have hD13 := ne13 hD12 nofun
          have pl13 : Paired (IsInts H13) las Ls := pairedMap (fun _ _ e => ne13 (show _ = some _ from e) nofun) pl12
          have itr13 : IsTrs H13 vs ts := itr12.mono (fun a xs e => ne13 e nofun)
          have lasl := pairedLen pl
          refine ⟨.ref lv, rfl, .inl ⟨rfl, _, .inl (.inl hlv13)⟩, .ref D, rfl, lv, _, _, rfl, rfl, hlv13, by rw [List.length_map]; exact small1000 (by omega), ?_⟩
          have s016 := same_put (o := .lst (las.map V.ref ++ [V.ref D])) s013 nlv
          have hlv16 : upd H13 lv (.lst (las.map V.ref ++ [V.ref D])) lv = some (.lst ((las ++ [D]).map V.ref)) := by rw [upd_same, List.map_append]; rfl
          have htv16 : upd H13 lv (.lst (las.map V.ref ++ [V.ref D])) tv = some (.lst vs) := by rw [upd_ne ntl]; exact htv13
          have pl16 : Paired (IsInts (upd H13 lv (.lst (las.map V.ref ++ [V.ref D])))) (las ++ [D]) (Ls ++ [L]) := pairedSnoc (paired_upd pl13 fun d hd z => nll (by rw [← z]; exact hd)) (by show upd _ _ _ _ = _; rw [upd_ne nDlv]; exact hD13)
          have hld16 : upd H13 lv (.lst (las.map V.ref ++ [V.ref D])) ld = some (.dK kvs') := by rw [upd_ne nldl]; exact hld13
          have itr16 : IsTrs (upd H13 lv (.lst (las.map V.ref ++ [V.ref D]))) vs ts := itr13.mono (tups_upd fun xs z => by rw [hlv13] at z; cases z)
          generalize upd H13 lv (.lst (las.map V.ref ++ [V.ref D])) = H16 at s016 hlv16 htv16 pl16 hld16 itr16
          have stk := (nodesL_step ((Ls.length : Int) + 1) (ts.flatMap kidsT)).length_eq
          rw [List.length_append, List.length_map] at stk
          refine ⟨.ref tv, rfl, tv, rfl, ⟨_, .inl (.inl htv16)⟩, fun D2 nD2 => Cp.lc2_list (K := K) (a := tv) (xs := vs) (fun i2 H17 => Same H16 H17 ∧ ∃ us, H17 D2 = some (.lst us) ∧ IsTrs H17 us ((ts.take i2).flatMap kidsT)) ⟨same_upd nD2, [], upd_same, .nil⟩ (fun i2 H17 _ pp => .inl (.inl (pp.1 _ _ htv16))) (fun i2 x H17 hx pp => ?_) (fun H17 pp => ?_)⟩
          · obtain ⟨s17, us, hus, ius⟩ := pp
            obtain ⟨t, et, it⟩ := itr16.get hx
            cases it with
            | @mk a c n vs1 ts1 h1 h2 h3 =>
            have vl1 := h3.len
            have tot1 : ((ts.take i2).flatMap kidsT).length + ts1.length ≤ (ts.flatMap kidsT).length := by
              have e : ts.take (i2 + 1) ++ ts.drop (i2 + 1) = ts := List.take_append_drop _ _
              have e1 : (ts.flatMap kidsT).length = ((ts.take (i2 + 1) ++ ts.drop (i2 + 1)).flatMap kidsT).length := by rw [e]
              rw [e1, List.flatMap_append, List.length_append, take_snoc et, List.flatMap_append, List.length_append, List.flatMap_cons, List.flatMap_nil, List.append_nil]
              show _ + ts1.length ≤ _ + ts1.length + _
              omega
            refine ⟨a, _, rfl, .inl (.inl (s17 _ _ h1)), rfl, .int n, [.ref c], rfl, .ref c, [], rfl, rfl, rfl, yes_if ?_⟩
            refine ⟨.ref c, rfl, c, rfl, ⟨_, .inl (.inl (s17 _ _ h2))⟩, ?_⟩
            refine lcin_tup (K := K) (a := c) (xs := vs1) (fun j H18 => Same H16 H18 ∧ ∃ us, H18 D2 = some (.lst us) ∧ IsTrs H18 us ((ts.take i2).flatMap kidsT ++ ts1.take j)) ⟨s17, us, hus, by rw [List.take_zero, List.append_nil]; exact ius⟩ (fun j H18 _ pp => .inl (.inl (pp.1 _ _ h2))) (fun j y H18 hy pp => ?_) (fun H18 pp => ?_)
            · obtain ⟨s18, us, hus, ius⟩ := pp
              obtain ⟨t1, et1, it1⟩ := h3.get hy
              have ul := ius.len
              have j1 := (List.getElem?_eq_some_iff.mp et1).1
              rw [List.length_append, List.length_take] at ul
              have tu : Tups H18 (upd H18 D2 (.lst (us ++ [y]))) := tups_upd fun xs z => by rw [hus] at z; cases z
              refine ⟨rfl, yes_if ⟨y, rfl, us, hus, small1000 (by omega), same_put s18 nD2, us ++ [y], upd_same, ?_⟩⟩
              rw [take_snoc et1, ← List.append_assoc]
              exact (ius.mono tu).snoc (it1.mono ((tups_same s18).trans tu))
            · obtain ⟨s18, us, hus, ius⟩ := pp
              rw [vl1, List.take_length] at ius
              refine ⟨s18, us, hus, ?_⟩
              rw [take_snoc et, List.flatMap_append, List.flatMap_cons, List.flatMap_nil, List.append_nil]
              exact ius
          obtain ⟨s17, us, hus, ius⟩ := pp
          rw [vl, List.take_length] at ius
          have e2 : (((Ls ++ [L]).length : Nat) : Int) = (Ls.length : Int) + 1 := by rw [List.length_append, List.length_singleton]; omega
          have zl : (zipL (Ls ++ [L]) 0).length = (zipL Ls 0).length + L.length := by
            rw [zipL_app, List.length_append, zipL, zipL, List.append_nil, List.length_map]
          have nk : ∀ p, p ∉ kvh.filterMap keyI → lstep wds (lnT tb) (leftF wds (lnT tb) Ls p) L p = leftF wds (lnT tb) Ls p := fun p hp => by
            have c0 : cntP wds L p = 0 := by
              by_cases c : cntP wds L p = 0
              · exact c
              · have z := cd.val p
                rw [if_neg c] at z
                obtain ⟨j, hj⟩ := valV_key z
                exact absurd ((List.mem_filterMap (f := keyI)).mpr ⟨_, List.mem_of_getElem? hj, rfl⟩) hp
            cases leftF wds (lnT tb) Ls p with
            | none => unfold lstep; dsimp only; rw [if_pos c0]
            | some x =>
              show some (x - (cntP wds L p : Nat)) = some x
              rw [c0]
              congr 1
              omega
          refine ⟨(nodesL (ts.flatMap kidsT) (((Ls ++ [L]).length : Nat) : Int)).length, by rw [e2]; omega, s016.trans s17, las ++ [D], Ls ++ [L], kvs', D2, us, ts.flatMap kidsT, s17 _ _ hlv16, pairedMap (fun _ _ e => s17 _ _ e) pl16, fun z => (List.mem_append.mp z).elim nll fun z => nDlv (List.mem_singleton.mp z).symm, s17 _ _ hld16, fun p => ?_, by rw [zl]; omega, fun p x ex => ?_, hus, (fun z => by rw [z, hlv16] at nD2; cases nD2), ius, ?_, by rw [zl, List.length_append, List.length_singleton]; omega, rfl, _, _, _, rfl⟩
          · rw [ld13 p]
            dsimp only
            rw [leftF_snoc]
            by_cases c : p ∈ kvh.filterMap keyI
            · rw [if_pos c]
            · rw [if_neg c, nk p c]
          · rw [leftF_snoc] at ex
            by_cases c : p ∈ kvh.filterMap keyI
            · exact ok13 p c x ex
            · rw [nk p c] at ex
              exact ge1 p x ex
          · refine List.Perm.trans ?_ pm
            rw [zipL_app, List.append_assoc, Int.zero_add, e2]
            refine List.Perm.append_left _ ?_
            refine List.Perm.trans ?_ stp.symm
            have e1 : zipL [L] (Ls.length : Int) = ts.map fun t => (t.top, (Ls.length : Int)) := by
              rw [zipL, zipL, List.append_nil, eL, List.map_map]
              rfl
            rw [e1]
end
end Rd

set_option Elab.async false
set_option linter.all false
set_option maxRecDepth 100000
set_option maxHeartbeats 4000000
namespace Rd
open PySem PySem.Spec PyProof.Rows L2 Dt
abbrev sPas : Stmt := topS 15
abbrev nPas : List Str := ["riddle", "table", "tree", "wishes", "levels", "deeper", "level", "place", "times", "number"]
theorem scPas : FnScope nPas ["riddle", "table", "tree"] (defScope sPas) := ⟨rfl, rfl, rfl, by decide +kernel, rfl, by decide +kernel, by decide +kernel⟩
theorem CntD.ent {m : Int} {kvs : List (Key × V)} {c : Int → Nat} (h : CntD m kvs c) {j : Nat} {kk : Key} {x : V} (e : kvs[j]? = some (kk, x)) : ∃ p : Int, kk = Sum.inl p ∧ x = .int (c p : Nat) ∧ 0 < c p ∧ 0 ≤ p ∧ p < m := by
  obtain ⟨p, ep, p0, p1⟩ := h.key _ (List.mem_of_getElem? e)
  have ep : kk = Sum.inl p := ep
  subst ep
  have z := valV_at h.nd e
  rw [h.val p] at z
  by_cases cz : c p = 0
  · rw [if_pos cz] at z
    cases z
  · rw [if_neg cz] at z
    exact ⟨p, rfl, (Option.some.inj z).symm, by omega, p0, p1⟩
theorem CntD.off {m : Int} {kvs : List (Key × V)} {c : Int → Nat} (h : CntD m kvs c) {p : Int} (hp : p ∉ kvs.filterMap keyI) : c p = 0 := by
  by_cases cz : c p = 0
  · exact cz
  · have z := h.val p
    rw [if_neg cz] at z
    obtain ⟨j, hj⟩ := valV_key z
    exact absurd ((List.mem_filterMap (f := keyI)).mpr ⟨_, List.mem_of_getElem? hj, rfl⟩) hp
theorem CntD.first {m : Int} {kvs : List (Key × V)} {c : Int → Nat} (h : CntD m kvs c) {j : Nat} {p : Int} {x : V} (hx : kvs[j]? = some (Sum.inl p, x)) : p ∉ (kvs.take j).filterMap keyI := fun z => by
  obtain ⟨y, hy, ey⟩ := List.mem_filterMap.mp z
  obtain ⟨i0, hi0⟩ := List.getElem?_of_mem hy
  have li := (List.getElem?_eq_some_iff.mp hi0).1
  rw [List.length_take] at li
  rw [List.getElem?_take_of_lt (by omega)] at hi0
  have ey1 : y.1 = Sum.inl p := by
    unfold keyI at ey
    split at ey
    · rename_i q' e'
      rw [e']
      rw [Option.some.inj ey]
    · cases ey
  have nk := h.nd
  have a1 : (kvs.map (·.1))[i0]? = some (Sum.inl p) := by rw [List.getElem?_map, hi0]; exact congrArg some ey1
  have a2 : (kvs.map (·.1))[j]? = some (Sum.inl p) := by rw [List.getElem?_map, hx]; rfl
  obtain ⟨b1, b2⟩ := List.getElem?_eq_some_iff.mp a1
  obtain ⟨c1, c2⟩ := List.getElem?_eq_some_iff.mp a2
  have := (List.getElem_inj nk).mp (b2.trans c2.symm)
  omega
theorem atF_put {dp : List Int} {p q y : Int} (p0 : 0 ≤ p) (p1 : p < (dp.length : Int)) (q0 : 0 ≤ q) : atF (dp.set p.toNat y) q = if q = p then y else atF dp q := by
  unfold atF
  rw [List.getD_eq_getElem?_getD, List.getD_eq_getElem?_getD]
  by_cases e : q = p
  · subst e
    rw [if_pos rfl, List.getElem?_set_self (by omega)]
    rfl
  · rw [if_neg e, List.getElem?_set_ne (by omega)]
theorem paired_keep {H H' : Hp} : ∀ {l : List Addr} {m : List (List Int)}, Paired (IsInts H) l m → (∀ a ∈ l, ∀ r : List Int, H a = some (.lst (r.map V.int)) → H' a = some (.lst (r.map V.int))) → Paired (IsInts H') l m
  | _, _, .nil, _ => .nil
  | _, _, .cons h t, g => .cons (g _ List.mem_cons_self _ h) (paired_keep t fun a ha => g a (List.mem_cons_of_mem _ ha))
def spPas (Ps : List Addr) : Sp := fun vs H Q _ => ∃ (ri ta : Addr) (v : V) (T : WTr) (das : List Addr) (wds : List WD) (tb : List (List Int)) (many hues : Int), vs = [.ref ri, .ref ta, v] ∧ IsRid H ri many hues wds ∧ GoodR many hues wds ∧ (∀ wd ∈ wds, wd.1.Nodup) ∧ H ta = some (.lst (das.map V.ref)) ∧ Paired (IsInts H) das tb ∧ GoodT many hues tb ∧ IsTr H v T ∧ (∀ z ∈ nodesD T 0, 0 ≤ z.1 ∧ z.1 < (wds.length : Int)) ∧ (nodesD T 0).length ≤ 900 ∧ Tabs Ps H ∧
  ∀ H', FrS Ps H H' → Q (.bl (passB wds tb (nodesD T 0))) H'
structure TxtS1 (P : Program) (w : World) (K : PySem.W.Frag) (mg : Str → Option Value) (base : Heap) (Ps : List Addr) : Prop where
  m_len : mg "len" = none
  m_all : mg "all" = none
  m_reversed : mg "reversed" = none
  c_had : Cal P w K mg base 1 "had" ["wishes", "level"] spHad
  c_levels_of : Cal P w K mg base 2 "levels_of" ["wishes", "table", "tree"] spLvo
  c_has_its_draws : Cal P w K mg base 3 "has_its_draws" ["wish", "table", "deeper"] (spHid Ps)
section
variable {P : Program} {w : World} {K : PySem.W.Frag} {mg : Str → Option Value} {base : Heap}
set_option maxHeartbeats 32000000 in
theorem ok_pas {f c Pt : Addr} {Ps : List Addr} {fd : FuncData} {k : Nat} (F : FunC K "passes" "passes" sPas f fd (.ref c)) (TB : GxR.TabB base mg c Pt) (hP : Pt ∈ Ps) (T : TxtS1 P w K mg base Ps) : FnOk P w K mg base CX0 (k + 5) f fd ["riddle", "table", "tree"] (spPas Ps) := by
  refine F.ok scPas (fun vs H Q E h => ?_) (fun A outer s H vs Q E hr h => ?_)
  · obtain ⟨ri, ta, v, T0, das, wds, tb, many, hues, rfl, _⟩ := h
    rfl
  · obtain ⟨ri, ta, v, T0, das, wds, tb, many, hues, rfl, rid, gr, nds, hta, pt, gt, isT, inR, few, hT, q⟩ := h
    refine ⟨_, (pss_cons (ps_set (i := 3) scPas.nd rfl (Or.inr rfl) (pe_ix ix_tup (pv 0) pe_int (fun _ _ => rfl)))
  (pss_cons (ps_set (i := 4) scPas.nd rfl (Or.inl rfl) (pe_cal T.c_levels_of (hr.mono (by omega)) (by rfl) (pa_cons (pv 3) (pa_cons (pv 1) (pa_cons (pv 2) pa_nil)))))
  (pss_cons (ps_if (pt_cmpR op_isN (pv 4) pe_non (nomark _))
  (pss_one (ps_ret pe_bl)) pss_nil)
  (pss_cons (ps_set (i := 5) scPas.nd rfl (Or.inr rfl) (pe_op op_rep (pe_lst (pa_cons pe_int pa_nil)) (pe_callB call_len_seq (by rfl) T.m_len (by decide +kernel) (pa_cons (pv 1) pa_nil))))
  (pss_cons (ps_for PassesOwn.never rfl (pi_reversed (by rfl) T.m_reversed (pa_cons (pv 4) pa_nil)) (pg_name (i := 6) scPas.nd rfl (Or.inl rfl))
  (pss_cons (ps_if (pt_not (pt_val (Gx.pe_allX (own := [("number", 9)]) (te := tCall (spHid Ps) [] E0 (tCons (tOp (rIxT K) (tVar 3) (tVar 9)) (tCons (tVar 1) (tCons (tVar 5) tNil)))) hr (by rfl) T.m_all rfl scPas.nd TB rfl (blkOk_by (own := [("number", 9)]) (N := nPas) (sc := defScope sPas) (by decide +kernel)) ⟨rfl, by decide +kernel, rfl⟩ (pi_list (pv 6))
   (fun _ _ _ _ _ _ hA => (pg_name (i := 9) scPas.nd rfl (Or.inl rfl))) (fun _ _ _ _ _ _ hA => pts_nil) (fun _ _ _ _ _ _ hA => (pe_cal T.c_has_its_draws (hA.mono (by omega)) (by rfl) (pa_cons (pe_ix ix_tup (pv 3) (pv 9) (fun _ _ => rfl)) (pa_cons (pv 1) (pa_cons (pv 5) pa_nil))))))))
  (pss_one (ps_ret pe_bl)) pss_nil)
  (pss_one (ps_for PassesOwn.never rfl (pi_items (pe_frz (pe_cal T.c_had (hr.mono (by omega)) (by rfl) (pa_cons (pv 3) (pa_cons (pv 6) pa_nil))))) (pg_tup rfl (pgs_cons (pg_name (i := 7) scPas.nd rfl (Or.inl rfl)) (pgs_cons (pg_name (i := 8) scPas.nd rfl (Or.inl rfl)) pgs_nil)))
  (pss_one (ps_augS (pv 5) (pv 7) Cp.pget_list (pv 8) ip_add set_list))))))
  (pss_one (ps_ret pe_bl))))))), ?_⟩
    obtain ⟨wt, was, hri, hwt, pw⟩ := id rid
    have tl := gt.len
    have dal := pairedLen pt
    have m6 := gr.m6
    have h4 := gr.h4
    refine ⟨.ref ri, rfl, ri, _, 2, _, rfl, rfl, .inl (.inl hri), atI_nat (j := 2) rfl, ?_⟩
    refine ⟨.ref wt, rfl, .ref ta, rfl, v, rfl, wt, ta, v, T0, was, das, wds, tb, many, hues, rfl, hwt, pw, gr, nds, hta, pt, tl, isT, inR, few, fun H1 s1 pf => ?_, fun H1 lv las Ls s1 nlv hlv pl pm ge1 lb => ?_⟩
    · refine ⟨.non, rfl, rfl, true, congrArg V.bl (decide_eq_true rfl), iteT ?_⟩
      have := q H1 (FrS.of hT s1)
      rw [pf] at this
      exact this
    · refine ⟨.ref lv, rfl, rfl, false, congrArg V.bl (decide_eq_false nofun), iteF ?_⟩
      have f1 := FrS.of hT s1
      refine ⟨(by show 1 ≤ sizeLine; decide), fun za nza => ?_⟩
      have sz := same_upd (o := .lst [.int 0]) nza
      have hza : upd H1 za (.lst [.int 0]) za = some (.lst [.int 0]) := upd_same
      have hlvz := sz _ _ hlv
      have s2 := s1.trans sz
      generalize upd H1 za (.lst [.int 0]) = H2 at sz hza hlvz s2
      refine ⟨.ref ta, rfl, ta, _, rfl, .inl (.inl (.inl (s2 _ _ hta))), za, ((das.map V.ref).length : Nat), _, rfl, rfl, hza, by rw [List.length_map]; omega, by rw [List.length_map]; omega, ?_, fun dk ndk => ?_⟩
      · rw [List.length_map, List.length_singleton, Int.toNat_natCast]
        exact Nat.le_of_lt (small1000 (by omega))
      have erep : (List.replicate ((das.map V.ref).length : Int).toNat [V.int 0]).flatten = (List.replicate das.length (0 : Int)).map V.int := by
        rw [List.length_map, Int.toNat_natCast, List.map_replicate]
        generalize das.length = n
        induction n with
        | zero => rfl
        | succ n ih => rw [List.replicate_succ, List.flatten_cons, ih, List.replicate_succ]; rfl
      rw [erep]
      have s3 := same_upd (o := .lst ((List.replicate das.length (0 : Int)).map V.int)) ndk
      have hdk3 : upd H2 dk (.lst ((List.replicate das.length (0 : Int)).map V.int)) dk = some (.lst ((List.replicate das.length (0 : Int)).map V.int)) := upd_same
      have hlv3 := s3 _ _ hlvz
      have pl3 := pairedMap (fun _ _ e => (sz.trans s3) _ _ e) pl
      have f3 := FrS.of hT (s2.trans s3)
      have dkH : H dk = none := s2.free ndk
      have dkP : dk ∉ Ps := hT.new dkH
      have dklv : dk ≠ lv := fun z => by rw [z, hlvz] at ndk; cases ndk
      have dkla : dk ∉ las := fun z => by
        obtain ⟨i0, hi0⟩ := List.getElem?_of_mem z
        obtain ⟨r0, _, e⟩ := pairedGetL pl hi0
        have e := sz _ _ (show H1 dk = some (.lst (r0.map V.int)) from e)
        rw [ndk] at e
        cases e
      generalize upd H2 dk (.lst ((List.replicate das.length (0 : Int)).map V.int)) = H3 at s3 hdk3 hlv3 pl3 f3
      clear sz hza hlvz s2 s3 ndk erep s1 hlv pl f1 nlv
      have lasl := pairedLen pl3
      refine ⟨.ref lv, rfl, lv, _, rfl, .inl (.inl hlv3), ?_⟩
      refine for_revL (K := K) (a := lv) (xs := las.map V.ref) (fun i σ H9 => FrS Ps H H9 ∧ H9 lv = some (.lst (las.map V.ref)) ∧ Paired (IsInts H9) las Ls ∧ (∃ dp : List Int, H9 dk = some (.lst (dp.map V.int)) ∧ (dp.length : Int) = many ∧ ∀ p, 0 ≤ p → p < many → atF dp p = ((sumP wds (Ls.drop (Ls.length - i)) p : Nat) : Int)) ∧ (∀ A L B, Ls = A ++ L :: B → Ls.length - i ≤ A.length → ∀ n ∈ L, okN wds tb B n = true) ∧ ∃ y6 y7 y8, σ = [some (.ref ri), some (.ref ta), some v, some (.ref wt), some (.ref lv), some (.ref dk), y6, y7, y8, none]) ⟨f3, hlv3, pl3, ⟨_, hdk3, by rw [List.length_replicate, dal]; exact tl, fun p p0 p1 => ?_⟩, fun A L B e h => ?_, none, none, none, rfl⟩ (fun i σ H9 _ p => .inl (.inl p.2.1)) (fun i x σ H9 hi hx p => ?_) (fun σ H9 p => ?_)
      · rw [Nat.sub_zero, List.drop_length]
        unfold atF
        rw [List.getD_eq_getElem?_getD, List.getElem?_replicate]
        split <;> rfl
      · rw [e, List.length_append, List.length_cons] at h
        omega
      · obtain ⟨f9, hlv9, pl9, ⟨dp, hdk9, dpl, dpv⟩, ok9, y6, y7, y8, rfl⟩ := p
        rw [List.length_map] at hi hx
        obtain ⟨la, ela, rfl⟩ := map_get hx
        obtain ⟨L, eL, hla⟩ := pairedGetL pl9 ela
        have hla : H9 la = some (.lst (L.map V.int)) := hla
        have hiL : Ls.length - 1 - i < Ls.length := by omega
        rw [lasl] at eL
        have eLg : Ls[Ls.length - 1 - i] = L := (List.getElem?_eq_some_iff.mp eL).2
        obtain ⟨B, eB⟩ : ∃ B, B = Ls.drop (Ls.length - i) := ⟨_, rfl⟩
        have eA : Ls = Ls.take (Ls.length - 1 - i) ++ L :: B := by
          have e := List.take_append_drop (Ls.length - 1 - i) Ls
          rw [List.drop_eq_getElem_cons hiL, eLg, show Ls.length - 1 - i + 1 = Ls.length - i by omega, ← eB] at e
          exact e.symm
        have edr : Ls.drop (Ls.length - (i + 1)) = L :: B := by
          rw [show Ls.length - (i + 1) = Ls.length - 1 - i by omega, List.drop_eq_getElem_cons hiL, eLg, show Ls.length - 1 - i + 1 = Ls.length - i by omega, eB]
        rw [← eB] at dpv
        have inL : ∀ n ∈ L, 0 ≤ n ∧ n < (wds.length : Int) := fun n hn => by
          have z := zipL_of (Ls.take (Ls.length - 1 - i)) L B 0 hn
          rw [← eA] at z
          exact inR _ (pm.mem_iff.mp z)
        have Lfew : L.length ≤ 900 := by
          have z := pm.length_eq
          rw [eA, zipL_app, zipL, List.length_append, List.length_append, List.length_map] at z
          omega
        have T9 := f9.2
        refine ⟨.ref la, rfl, la, rfl, ⟨_, .inl (.inl hla)⟩, T9 _ hP, fun H10 tbd => ?_⟩
        have f10 := FrS.one T9 hP tbd
        refine Gx.all_list (K := K) (a := la) (xs := L.map V.int) (fun j H11 => FrS Ps H9 H11 ∧ ∀ n ∈ L.take j, okN wds tb B n = true) ⟨f10, fun n hn => by simp at hn⟩ (fun j H11 _ p => .inl (.inl ((p.1.seqs T9).2 _ _ hla))) (fun j x H11 hx p => ?_) (fun H11 p => ?_)
        · obtain ⟨n, en, rfl⟩ := map_get hx
          obtain ⟨f11, ok11⟩ := p
          have mn := List.mem_of_getElem? en
          have nn := inL n mn
          have hwn : n.toNat < wds.length := by omega
          obtain ⟨wa, ewa, isw⟩ := pairedGet pw (List.getElem?_eq_getElem hwn)
          have ewt := wAt_of (wds := wds) (n := n) (List.getElem?_eq_getElem hwn)
          have g := gr.each _ (List.getElem_mem hwn)
          generalize wds[n.toNat] = wd at isw ewt g
          have f011 := f9.trans f11
          have q11 := f011.seqs hT
          have okp : ∀ p ∈ wd.1, sumP wds B p < (tb.getD p.toNat []).length := fun p hp => left_good ge1 eA mn (by rw [ewt]; exact hp)
          have eok : okN wds tb B n = decide (drwA tb dp wd.1 ∈ wd.2) := by
            unfold okN
            rw [ewt]
            have e1 : (wd.1.all fun p => decide (sumP wds B p < (tb.getD p.toNat []).length)) = true := List.all_eq_true.mpr fun p hp => decide_eq_true (okp p hp)
            rw [e1, Bool.true_and]
            have e2 : (wd.1.map fun p => atF (tb.getD p.toNat []) ((sumP wds B p : Nat) : Int)) = drwA tb dp wd.1 := by
              unfold drwA
              refine List.map_congr_left fun p hp => ?_
              have pp := g.pl p hp
              rw [dpv p pp.1 pp.2]
            rw [e2]
          refine ⟨rfl, yes_if ?_⟩
          refine ⟨.ref wt, rfl, .int n, rfl, wt, _, _, .ref wa, rfl, rfl, .inl (.inl (q11.1 _ _ hwt)), atI_of nn.1 ewa, .ref ta, rfl, .ref dk, rfl, wa, ta, dk, wd, das, tb, dp, many, hues, rfl, isw.mono q11.1, g, m6, h4, q11.2 _ _ hta, pairedMap (fun _ _ e => q11.2 _ _ e) pt, (f11.seqs T9).2 _ _ hdk9, gt, dpl, fun p hp => ?_, f11.2, fun H12 f12 => ⟨_, rfl, ?_⟩⟩
          · have pp := g.pl p hp
            rw [dpv p pp.1 pp.2]
            have := okp p hp
            omega
          · have f12' := f11.trans f12
            rw [← eok]
            cases cc : okN wds tb B n with
            | true =>
              rw [if_pos rfl]
              refine ⟨f12', fun n' hn' => ?_⟩
              rw [take_snoc en] at hn'
              rcases List.mem_append.mp hn' with h | h
              · exact ok11 n' h
              · rw [List.mem_singleton.mp h]
                exact cc
            | false =>
              rw [if_neg (by decide)]
              have e5 : passB wds tb (nodesD T0 0) = false := by
                rw [← passB_perm pm]
                cases c2 : passB wds tb (zipL Ls 0) with
                | false => rfl
                | true =>
                  have := (passB_levels wds tb Ls).mp c2 _ L B eA n mn
                  rw [cc] at this
                  cases this
              have z := q H12 (f9.trans f12')
              rw [e5] at z
              exact ⟨false, rfl, iteT z⟩
        obtain ⟨f11, ok11⟩ := p
        rw [List.length_map, List.take_length] at ok11
        refine ⟨true, rfl, iteF ?_⟩
        have f011 := f9.trans f11
        have q11 := f011.seqs hT
        have q9 := f11.seqs T9
        have hla11 := q9.2 _ _ hla
        have hdk11 := q9.2 _ _ hdk9
        have hlv11 := q9.2 _ _ hlv9
        have pl11 : Paired (IsInts H11) las Ls := pairedMap (fun _ _ e => q9.2 _ _ e) pl9
        refine ⟨.ref wt, rfl, .ref la, rfl, wt, la, was, wds, L, many, hues, rfl, q11.1 _ _ hwt, pairedMap (fun _ _ e => IsWish.mono q11.1 e) pw, gr, nds, hla11, inL, Lfew, fun H12 dh kvh s12 ndh hdh cd => ⟨dh, .dK kvh, rfl, hdh, trivial, fun od => ⟨dh, od, kvh, rfl, upd_same, ?_⟩⟩⟩
        have s13 : Same H11 (upd H12 dh (.frz od (.dK kvh))) := same_put s12 ndh
        have hdh13 : upd H12 dh (.frz od (.dK kvh)) dh = some (.frz od (.dK kvh)) := upd_same
        generalize upd H12 dh (.frz od (.dK kvh)) = H13 at s13 hdh13
        have dhdk : dh ≠ dk := fun z => by rw [z, hdk11] at ndh; cases ndh
        have f013 := f011.same s13
        have hdk13 := s13 _ _ hdk11
        have hlv13 := s13 _ _ hlv11
        have pl13 : Paired (IsInts H13) las Ls := pairedMap (fun _ _ e => s13 _ _ e) pl11
        refine for_items (fun j σ H14 => (∀ b o, b ≠ dk → H13 b = some o → H14 b = some o) ∧ FrS Ps H H14 ∧ (∃ dp' : List Int, H14 dk = some (.lst (dp'.map V.int)) ∧ (dp'.length : Int) = many ∧ ∀ p, 0 ≤ p → p < many → atF dp' p = ((sumP wds B p + (if p ∈ (kvh.take j).filterMap keyI then cntP wds L p else 0) : Nat) : Int)) ∧ ∃ z7 z8, σ = [some (.ref ri), some (.ref ta), some v, some (.ref wt), some (.ref lv), some (.ref dk), some (.ref la), z7, z8, none]) ⟨fun _ _ _ e => e, f013, ⟨dp, hdk13, dpl, fun p p0 p1 => by rw [dpv p p0 p1, if_neg (by simp), Nat.add_zero]⟩, y7, y8, rfl⟩ (fun j σ H14 _ p => p.1 _ _ dhdk hdh13) (fun j kk x σ H14 Tt hx p nT => ?_) (fun σ H14 p => ?_)
        · obtain ⟨k14, f14, ⟨dp', hdk14, dpl', dpv'⟩, z7, z8, rfl⟩ := p
          obtain ⟨p, rfl, rfl, cpos, p0, p1⟩ := cd.ent hx
          have nv := cd.first hx
          have vis : (kvh.take (j + 1)).filterMap keyI = (kvh.take j).filterMap keyI ++ [p] := by
            rw [take_snoc hx, List.filterMap_append]
            rfl
          have vT := same_upd (o := .tup [kV (Sum.inl p), .int (cntP wds L p : Nat)]) nT
          have hdk15 := vT _ _ hdk14
          have f15 := f14.same vT
          have k15 : ∀ b o, b ≠ dk → H13 b = some o → upd H14 Tt (.tup [kV (Sum.inl p), .int (cntP wds L p : Nat)]) b = some o := fun b o n e => vT _ _ (k14 b o n e)
          have hT15 : upd H14 Tt (.tup [kV (Sum.inl p), .int (cntP wds L p : Nat)]) Tt = some (.tup [V.int p, .int (cntP wds L p : Nat)]) := upd_same
          generalize upd H14 Tt (.tup [kV (Sum.inl p), .int (cntP wds L p : Nat)]) = H15 at vT hdk15 f15 k15 hT15
          have pin : p < (dp'.length : Int) := by omega
          refine ⟨Tt, _, rfl, .inl (.inl hT15), rfl, .int p, [.int (cntP wds L p : Nat)], rfl, .int (cntP wds L p : Nat), [], rfl, rfl, ?_⟩
          refine ⟨.ref dk, rfl, .int p, rfl, dk, _, p.toNat, .int (atF dp' p), rfl, congrArg V.int (by omega), .inl (.inl hdk15), by rw [List.getElem?_map, atT p0 pin]; rfl, .int (cntP wds L p : Nat), rfl, _, _, rfl, rfl, dk, _, p, p.toNat, rfl, rfl, hdk15, by rw [List.length_map]; exact ixN_of p0 pin, fun b o n e => by rw [upd_ne n]; exact k15 b o n e, f15.put dkH dkP, ⟨dp'.set p.toNat (atF dp' p + (cntP wds L p : Nat)), by rw [upd_same, List.map_set], by rw [List.length_set]; exact dpl', fun q' q0 q1 => ?_⟩, _, _, rfl⟩
          rw [atF_put p0 pin q0, vis]
          by_cases c1 : q' = p
          · subst c1
            rw [if_pos rfl, if_pos (List.mem_append_right _ List.mem_cons_self), dpv' q' q0 q1, if_neg nv]
            omega
          · rw [if_neg c1, dpv' q' q0 q1]
            by_cases c2 : q' ∈ (kvh.take j).filterMap keyI
            · rw [if_pos c2, if_pos (List.mem_append_left _ c2)]
            · rw [if_neg c2, if_neg (fun z => (List.mem_append.mp z).elim c2 fun y => c1 (List.mem_singleton.mp y))]
        · obtain ⟨k14, f14, ⟨dp', hdk14, dpl', dpv'⟩, z7, z8, rfl⟩ := p
          rw [List.take_length] at dpv'
          refine ⟨f14, k14 _ _ (Ne.symm dklv) hlv13, ?_, ⟨dp', hdk14, dpl', fun p p0 p1 => ?_⟩, fun A' L' B' e' h' n' hn' => ?_, _, _, _, rfl⟩
          · refine paired_keep pl13 fun a ha b e => k14 a _ (fun z => dkla (by rw [← z]; exact ha)) e
          · rw [dpv' p p0 p1, edr]
            show _ = ((cntP wds L p + sumP wds B p : Nat) : Int)
            by_cases c : p ∈ kvh.filterMap keyI
            · rw [if_pos c]
              omega
            · rw [if_neg c, cd.off c]
              omega
          · by_cases c : Ls.length - i ≤ A'.length
            · exact ok9 A' L' B' e' c n' hn'
            · have el : A'.length = Ls.length - 1 - i := by omega
              have e2 : L' :: B' = L :: B := by
                rw [← edr, show Ls.length - (i + 1) = A'.length by omega]
                conv => rhs; rw [e']
                rw [List.drop_left]
              cases e2
              exact ok11 n' hn'
      · obtain ⟨f9, hlv9, pl9, ⟨dp, hdk9, dpl, dpv⟩, ok9, y6, y7, y8, rfl⟩ := p
        rw [List.length_map, lasl] at ok9
        have e5 : passB wds tb (nodesD T0 0) = true := by
          rw [← passB_perm pm]
          exact (passB_levels wds tb Ls).mpr fun A L B e => ok9 A L B e (by omega)
        have z := q H9 f9
        rw [e5] at z
        exact z
end
end Rd

set_option Elab.async false
set_option linter.all false
set_option maxRecDepth 100000
set_option maxHeartbeats 4000000
namespace Rd
open PySem PySem.Spec PyProof.Rows L2 Dt
abbrev sLpl : Stmt := topS 33
abbrev nLpl : List Str := ["tree", "one"]
theorem scLpl : FnScope nLpl ["tree"] (defScope sLpl) := ⟨rfl, rfl, rfl, by decide +kernel, rfl, by decide +kernel, by decide +kernel⟩
theorem units66 {A : Around} {k : Nat} (hr : Room k A) : A.units + 66 < cLine := by have := hr.un; omega
theorem IsTrs.fn {H : Hp} {as : List Addr} {ts : List WTr} (h : IsTrs H (as.map V.ref) ts) : ∃ fT : Addr → WTr, ts = as.map fT ∧ ∀ a ∈ as, IsTr H (.ref a) (fT a) := by
  classical
  refine ⟨fun a => if e : ∃ T, IsTr H (.ref a) T then e.choose else .node 0 [], ?_⟩
  induction as generalizing ts with
  | nil =>
    cases h with
    | nil => exact ⟨rfl, fun _ h => nomatch h⟩
  | cons a r ih =>
    cases h with
    | @cons _ T _ us h t =>
      obtain ⟨e1, e2⟩ := ih t
      have ex : ∃ T, IsTr H (.ref a) T := ⟨T, h⟩
      have e3 : (if e : ∃ T, IsTr H (.ref a) T then e.choose else .node 0 []) = T := by
        rw [dif_pos ex]
        exact IsTr.one ex.choose_spec h
      refine ⟨?_, fun b hb => ?_⟩
      · rw [List.map_cons, ← e1, e3]
      · rcases List.mem_cons.mp hb with z | z
        · rw [z]
          dsimp only
          rw [e3]
          exact h
        · exact e2 b z
theorem IsTrs.of {H : Hp} {fT : Addr → WTr} : ∀ {as : List Addr}, (∀ a ∈ as, IsTr H (.ref a) (fT a)) → IsTrs H (as.map V.ref) (as.map fT)
  | [], _ => .nil
  | a :: r, h => .cons (h a List.mem_cons_self) (IsTrs.of fun b hb => h b (List.mem_cons_of_mem _ hb))
def spLpl (n : Nat) : Sp := fun vs H Q _ => ∃ (v : V) (T : WTr), vs = [v] ∧ IsTr H v T ∧ n ≤ 20 ∧ (∀ d, (nodesD T d).length ≤ n) ∧
  ∀ H' v' T', Same H H' → IsTr H' v' T' → T'.top = T.top → (∀ d, (nodesD T' d).Perm (nodesD T d)) → Q v' H'
structure TxtN1 (P : Program) (w : World) (K : PySem.W.Frag) (mg : Str → Option Value) (base : Heap) (n : Nat) : Prop where
  m_sorted : mg "sorted" = none
  m_tuple : mg "tuple" = none
  c__law_plain : Cal P w K mg base (n + 1) "_law_plain" ["tree"] (spLpl n)
section
variable {P : Program} {w : World} {K : PySem.W.Frag} {mg : Str → Option Value} {base : Heap}
set_option maxHeartbeats 16000000 in
theorem ok_lplS {f : Addr} {fd : FuncData} {n : Nat} (F : Fun K "_law_plain" "_law_plain" sLpl f fd) (T : TxtN1 P w K mg base n) : FnOk P w K mg base CX0 (n + 1 + 1) f fd ["tree"] (spLpl (n + 1)) := by
  refine F.ok scLpl (fun vs H Q E h => ?_) (fun cdv A outer s H vs Q E hr h => ?_)
  · obtain ⟨v, T0, rfl, _⟩ := h
    rfl
  · obtain ⟨v, T0, rfl, it, n20, few, q⟩ := h
    refine ⟨_, (pss_one (ps_ret (pe_tup (pa_cons (pe_ix ix_tup (pv 0) pe_int (fun _ _ => rfl)) (pa_cons (pe_callTy call_tuple_of (by rfl) T.m_tuple (by decide +kernel) (pa_cons (pe_callB (cr_sortedD (units66 hr)) (by rfl) T.m_sorted (by decide +kernel) (pa_cons (pe_lc (te := tCall (spLpl n) [] E0 (tCons (tVar 1) tNil)) (own := [("one", 1)]) rfl scLpl.nd  (pi_tup (pe_ix ix_tup (pv 0) pe_int (fun _ _ => rfl))) (blkOk_by (own := [("one", 1)]) (N := nLpl) (sc := defScope sLpl) (by decide +kernel))
   (fun _ _ _ _ _ => (pg_name (i := 1) scLpl.nd rfl (Or.inl rfl))) (fun _ _ _ _ _ => pts_nil) (fun _ _ _ _ _ => (pe_cal T.c__law_plain (hr.mono (by omega)) (by rfl) (pa_cons (pv 1) pa_nil)))) pa_nil)) pa_nil)) pa_nil))))), ?_⟩
    cases it with
    | @mk a c m vs1 ts1 h1 h2 h3 =>
    have vl1 := h3.len
    refine ⟨.ref a, rfl, a, _, 0, .int m, rfl, rfl, .inl (.inl h1), atI_nat (j := 0) rfl, ?_⟩
    refine ⟨.ref a, rfl, a, _, 1, .ref c, rfl, rfl, .inl (.inl h1), atI_nat (j := 1) rfl, c, rfl, ⟨_, .inl (.inl h2)⟩, fun D nD => ?_⟩
    have fewK : ∀ t ∈ ts1, ∀ d, (nodesD t d).length ≤ n := fun t ht d => by
      have z := few (d - 1)
      rw [nodesD, List.length_cons, show d - 1 + 1 = d by omega, nodesL_flat] at z
      obtain ⟨s, u, e⟩ := List.append_of_mem ht
      rw [e, List.flatMap_append, List.flatMap_cons, List.length_append, List.length_append] at z
      omega
    have kl : ts1.length ≤ 20 := by
      have z := few 0
      rw [nodesD, List.length_cons] at z
      have y := (nodesL_step (0 + 1) ts1).length_eq
      rw [List.length_append, List.length_map] at y
      omega
    refine lc_tup (K := K) (a := c) (xs := vs1) (fun j H3 => Same H H3 ∧ ∃ us ps, H3 D = some (.lst us) ∧ IsTrs H3 us ps ∧ ∀ d, Paired (fun t u : WTr => (nodesD t d).Perm (nodesD u d)) ps (ts1.take j)) ⟨same_upd nD, [], [], upd_same, .nil, fun _ => .nil⟩ (fun j H3 _ p => .inl (.inl (p.1 _ _ h2))) (fun j x H3 hx p => ?_) (fun H3 p => ?_)
    · obtain ⟨s3, us, ps, hus, ius, pps⟩ := p
      obtain ⟨t, et, itx⟩ := h3.get hx
      have ul := ius.len
      have pl := pairedLen (pps 0)
      rw [List.length_take] at pl
      refine ⟨rfl, yes_if ⟨x, rfl, x, t, rfl, itx.mono (tups_same s3), by omega, fewK t (List.mem_of_getElem? et), fun H4 v' T' s4 it' _ pm => ?_⟩⟩
      have hus4 := s4 _ _ hus
      have tu : Tups H4 (upd H4 D (.lst (us ++ [v']))) := tups_upd fun xs z => by rw [hus4] at z; cases z
      refine ⟨us, hus4, small1000 (by omega), same_put (s3.trans s4) nD, us ++ [v'], ps ++ [T'], upd_same, ((ius.mono (tups_same s4)).mono tu).snoc (it'.mono tu), fun d => ?_⟩
      rw [take_snoc et]
      exact pairedSnoc (pps d) (pm d)
    · obtain ⟨s3, us, ps, hus, ius, pps⟩ := p
      rw [vl1, List.take_length] at pps
      obtain ⟨as, rfl⟩ := ius.refs
      obtain ⟨fT, rfl, isF⟩ := ius.fn
      have sor := sortable_trees as fT
      have asl := pairedLen (pps 0)
      rw [List.length_map] at asl
      have nod : ∀ d, (nodesL (as.map fT) d).Perm (nodesL ts1 d) := fun d => nodesL_each d (pps d)
      refine ⟨D, as, fun b => treeD (fT b), rfl, .inl (.inl hus), fun b hb => ⟨dpTr (isF b hb), ?_⟩, sor.1, sor.2, fun as' p pm np => ?_⟩
      · have z := depth_tree 0 (fT b)
        obtain ⟨j, hj⟩ := List.getElem?_of_mem hb
        obtain ⟨u, eu, pu⟩ := pairedGetL (pps 0) (show (as.map fT)[j]? = some (fT b) by rw [List.getElem?_map, hj]; rfl)
        have y := fewK u (List.mem_of_getElem? eu) 0
        rw [pu.length_eq] at z
        show (treeD (fT b)).depth ≤ 64
        omega
      have s4 := same_upd (o := .lst (as'.map V.ref)) np
      have hp : upd H3 p (.lst (as'.map V.ref)) p = some (.lst (as'.map V.ref)) := upd_same
      have isF4 : ∀ b ∈ as', IsTr (upd H3 p (.lst (as'.map V.ref))) (.ref b) (fT b) := fun b hb => (isF b (pm.mem_iff.mp hb)).mono (tups_same s4)
      generalize upd H3 p (.lst (as'.map V.ref)) = H4 at s4 hp isF4
      refine ⟨p, _, rfl, .inl ⟨.inl (.inl hp), fun l nl => ?_⟩⟩
      have s5 := same_upd (o := .tup (as'.map V.ref)) nl
      have hl5 : upd H4 l (.tup (as'.map V.ref)) l = some (.tup (as'.map V.ref)) := upd_same
      have isF5 := (IsTrs.of isF4).mono (tups_same s5)
      generalize upd H4 l (.tup (as'.map V.ref)) = H5 at s5 hl5 isF5
      refine ⟨(by show 2 ≤ sizeLine; decide), fun t nt => ?_⟩
      have s6 := same_upd (o := .tup [.int m, .ref l]) nt
      refine q _ _ (.node m (as'.map fT)) ((s3.trans s4).trans (s5.trans s6)) (.mk upd_same (s6 _ _ hl5) (isF5.mono (tups_same s6))) rfl fun d => ?_
      rw [nodesD, nodesD]
      exact List.Perm.cons _ ((nodesL_perm (pm.map fT) (d + 1)).trans (nod (d + 1)))
theorem ok_lpl {f : Addr} {fd : FuncData} (F : Fun K "_law_plain" "_law_plain" sLpl f fd) (m1 : mg "sorted" = none) (m2 : mg "tuple" = none) (g : mg "_law_plain" = some (.ref f)) (kp : PySem.W.keepIn K (.ref f) = true) (b : Binds K fd ["tree"] []) : ∀ n : Nat, FnOk P w K mg base CX0 (n + 1) f fd ["tree"] (spLpl n)
  | 0 => by
    refine ⟨fun vs H Q E h => ?_, fun A outer s H args us vs Q E _ _ _ _ h => ?_⟩
    · obtain ⟨v, T0, rfl, _⟩ := h
      rfl
    · obtain ⟨v, T0, rfl, it, _, few, _⟩ := h
      have z := few 0
      cases T0 with
      | node n ts =>
        rw [nodesD, List.length_cons] at z
        omega
  | n + 1 => ok_lplS F { m_sorted := m1, m_tuple := m2, c__law_plain := ⟨_, _, ok_lpl F m1 m2 g kp b n, g, kp, b⟩ }
end
end Rd

set_option Elab.async false
set_option linter.all false
set_option maxRecDepth 100000
set_option maxHeartbeats 4000000
namespace Rd
open PySem PySem.Spec PyProof.Rows L2 Dt
abbrev sRgt : Stmt := topS 34
abbrev nRgt : List Str := ["riddle", "table", "order", "end", "filling", "log", "taken", "plain", "t", "tree"]
theorem scRgt : FnScope nRgt ["riddle", "table", "order"] (defScope sRgt) := ⟨rfl, rfl, rfl, by decide +kernel, rfl, by decide +kernel, by decide +kernel⟩
def spR42 (Ps : List Addr) : Sp := fun vs H Q _ => ∃ (ri ta oa : Addr) (many hues : Int) (wds : List WD) (tb : List (List Int)) (ord : List Int), vs = [.ref ri, .ref ta, .ref oa] ∧ RunIn H ri ta oa many hues wds tb ord ∧ Tabs Ps H ∧ (∀ ds ∈ tb, (ds.length : Int) ≤ 9) ∧
  ∀ H', FrS Ps H H' → Q (.bl true) H'
structure TxtR42 (P : Program) (w : World) (K : PySem.W.Frag) (mg : Str → Option Value) (base : Heap) (Ps : List Addr) : Prop where
  m_range : mg "range" = none
  m_min : mg "min" = none
  m_len : mg "len" = none
  c_run : Cal P w K mg base 6 "run" ["riddle", "table", "order"] (spRun Ps)
  c_told_back : Cal P w K mg base 4 "told_back" ["riddle", "filling", "log"] (spTol Ps)
  c_why : Cal P w K mg base 4 "why" ["riddle", "log", "t"] (spWhy Ps)
  c_passes : Cal P w K mg base 5 "passes" ["riddle", "table", "tree"] (spPas Ps)
  c__law_plain : Cal P w K mg base 21 "_law_plain" ["tree"] (spLpl 20)
/-- the plain trees of the first steps -/
structure PlT (wds : List WD) (log : Log) (j : Nat) (T : WTr) : Prop where
  top : T.top = numAt log j
  nodes : (nodesD T 0).Perm (depthsL wds (numAt log j) (revN log j))
theorem PlT.few {wds : List WD} {log : Log} {j : Nat} {T : WTr} (h : PlT wds log j T) : (nodesD T 0).length ≤ j + 1 := by
  have a := (depths_len wds (numAt log j) (revN log j)).1
  rw [← h.nodes.length_eq] at a
  have b : (revN log j).length ≤ j := by
    unfold revN
    rw [List.length_reverse, List.length_map, List.length_take, Int.toNat_natCast]
    omega
  omega
theorem rev_split {log : Log} {s t : Nat} (h : s < t) (ht : t ≤ log.length) : ∃ a, revN log (t : Nat) = a ++ numAt log (s : Nat) :: revN log (s : Nat) := by
  have hs : s < log.length := by omega
  refine ⟨(((log.take t).drop (s + 1)).map (·.1)).reverse, ?_⟩
  unfold revN numAt
  rw [Int.toNat_natCast, Int.toNat_natCast]
  have e1 : log.take t = log.take s ++ log.getD s (0, []) :: (log.take t).drop (s + 1) := by
    have z := (List.take_append_drop (s + 1) (log.take t)).symm
    rw [List.take_take, Nat.min_eq_left (by omega), take_snoc (List.getElem?_eq_getElem hs), List.append_assoc] at z
    rw [List.getD_eq_getElem?_getD, List.getElem?_eq_getElem hs]
    exact z
  have e2 := congrArg (fun l : Log => (l.map (·.1)).reverse) e1
  rw [List.map_append, List.map_cons, List.reverse_append, List.reverse_cons, List.append_assoc] at e2
  exact e2
theorem PlT.unlike {many hues : Int} {wds : List WD} {log : Log} (gr : GoodR many hues wds) (lg : ∀ e ∈ log, 0 ≤ e.1 ∧ e.1 < (wds.length : Int)) {s t : Nat} {T U : WTr} (h : PlT wds log s T) (g : PlT wds log t U) (st : s < t) (tl : t < log.length) : T ≠ U := fun e => by
  subst e
  have ek : numAt log t = numAt log s := g.top.symm.trans h.top
  have hs : s < log.length := by omega
  have m := lg _ (List.getElem_mem hs)
  have ns : numAt log s = (log[s]).1 := by
    unfold numAt
    rw [Int.toNat_natCast, List.getD_eq_getElem?_getD, List.getElem?_eq_getElem hs]
    rfl
  obtain ⟨wd, hw, _⟩ := wd_of m.1 m.2
  have gw := gr.each wd (List.mem_of_getElem? hw)
  obtain ⟨p, hp⟩ := List.exists_mem_of_length_pos (show 0 < wd.1.length from gw.one)
  have ew : wAt wds (numAt log s) = wd := by
    rw [ns, wAt, List.getD_eq_getElem?_getD, hw]
    rfl
  obtain ⟨a, ea⟩ := rev_split (log := log) st (Nat.le_of_lt tl)
  have z := g.nodes.symm.trans h.nodes
  rw [ek, ea] at z
  exact rests_unlike (p := p) (by rw [ew]; exact hp) z
theorem IsTrs.take {H : Hp} : ∀ {vs : List V} {ts : List WTr}, IsTrs H vs ts → ∀ n : Nat, IsTrs H (vs.take n) (ts.take n)
  | _, _, .nil, n => by rw [List.take_nil, List.take_nil]; exact .nil
  | _, _, .cons h t, 0 => by rw [List.take_zero, List.take_zero]; exact .nil
  | _, _, .cons h t, n + 1 => by rw [List.take_succ_cons, List.take_succ_cons]; exact .cons h (t.take n)
section
variable {P : Program} {w : World} {K : PySem.W.Frag} {mg : Str → Option Value} {base : Heap}
set_option maxHeartbeats 16000000 in
theorem ok_r42 {f : Addr} {Ps : List Addr} {fd : FuncData} {k : Nat} (F : Fun K "_law_right" "_law_right" sRgt f fd) (T : TxtR42 P w K mg base Ps) : FnOk P w K mg base CX0 (k + 22) f fd ["riddle", "table", "order"] (spR42 Ps) := by
  refine F.ok scRgt (fun vs H Q E h => ?_) (fun cdv A outer s H vs Q E hr h => ?_)
  · obtain ⟨ri, ta, oa, many, hues, wds, tb, ord, rfl, _⟩ := h
    rfl
  · obtain ⟨ri, ta, oa, many, hues, wds, tb, ord, rfl, hin, hT, few, q⟩ := h
    obtain ⟨rid, gr, nd, tab, gt, ho, go⟩ := id hin
    refine ⟨_, (pss_cons (ps_asg (pe_cal T.c_run (hr.mono (by omega)) (by rfl) (pa_cons (pv 0) (pa_cons (pv 1) (pa_cons (pv 2) pa_nil)))) (pg_tup rfl (pgs_cons (pg_name (i := 3) scRgt.nd rfl (Or.inl rfl)) (pgs_cons (pg_name (i := 4) scRgt.nd rfl (Or.inl rfl)) (pgs_cons (pg_name (i := 5) scRgt.nd rfl (Or.inl rfl)) pgs_nil)))))
  (pss_cons (ps_set (i := 6) scRgt.nd rfl (Or.inl rfl) (pe_cal T.c_told_back (hr.mono (by omega)) (by rfl) (pa_cons (pv 0) (pa_cons (pv 4) (pa_cons (pv 5) pa_nil)))))
  (pss_cons (ps_set (i := 7) scRgt.nd rfl (Or.inr rfl) (pe_lst pa_nil))
  (pss_cons (ps_for PassesOwn.never rfl (pi_range1 (by rfl) T.m_range (pa_cons (pe_callB (call_min2 rfl) (by rfl) T.m_min (by decide +kernel) (pa_cons pe_int (pa_cons (pe_callB call_len_seq (by rfl) T.m_len (by decide +kernel) (pa_cons (pv 5) pa_nil)) pa_nil))) pa_nil)) (pg_name (i := 8) scRgt.nd rfl (Or.inl rfl))
  (pss_cons (ps_set (i := 9) scRgt.nd rfl (Or.inl rfl) (pe_cal T.c_why (hr.mono (by omega)) (by rfl) (pa_cons (pv 0) (pa_cons (pv 5) (pa_cons (pv 8) pa_nil)))))
  (pss_cons (ps_if (PW.pt (pw_or (pt_cmpR op_notBl (pe_cal T.c_passes (hr.mono (by omega)) (by rfl) (pa_cons (pv 0) (pa_cons (pv 1) (pa_cons (pv 9) pa_nil)))) pe_bl (nomark _)) (pw_or1 (pt_cmpR op_notBl (pe_cal T.c_passes (hr.mono (by omega)) (by rfl) (pa_cons (pv 0) (pa_cons (pv 6) (pa_cons (pv 9) pa_nil)))) pe_bl (nomark _)))))
  (pss_one (ps_ret pe_bl)) pss_nil)
  (pss_cons (ps_if (PW.pt (pw_and (pt_cmpR op_eq (pv 8) pe_int (nomark _)) (pw_and1 (pt_cmpR (op_neD hr.units) (pv 9) (pe_tup (pa_cons (pe_ix ix_tup (pe_ix ix_list (pv 5) pe_int (fun _ _ => rfl)) pe_int (fun _ _ => rfl)) (pa_cons (pe_tup pa_nil) pa_nil))) (nomark _)))))
  (pss_one (ps_ret pe_bl)) pss_nil)
  (pss_one (ps_expr (pe_bm PySem.F.plainAttrs_list PySem.F.slot_list_append PySem.F.type_list_append mt_append (pv 7) (pa_cons (pe_cal T.c__law_plain (hr.mono (by omega)) (by rfl) (pa_cons (pv 9) pa_nil)) pa_nil))))))))
  (pss_one (ps_ret (pe_cmpR (op_eqE hr.units) (pe_lc (tt := tTest (tOp (rInD K) (tOp (rIxL K) (tVar 7) (tVar 8)) (tSl (rSlL K) (tVar 7) tNoPart (tPart (tVar 8))))) (te := tVar 8) (own := [("t", 8)]) rfl scRgt.nd  (pi_range1 (by rfl) T.m_range (pa_cons (pe_callB call_len_seq (by rfl) T.m_len (by decide +kernel) (pa_cons (pv 7) pa_nil)) pa_nil)) (blkOk_by (own := [("t", 8)]) (N := nRgt) (sc := defScope sRgt) (by decide +kernel))
   (fun _ _ _ _ _ => (pg_name (i := 8) scRgt.nd rfl (Or.inl rfl))) (fun _ _ _ _ _ => pts_one (pt_cmpR (op_inD (units65 hr)) (pe_ix ix_list (pv 7) (pv 8) (fun _ _ => rfl)) (pe_slice sl_list (pv 7) po_none (po_some (pv 8))) (by rfl))) (fun _ _ _ _ _ => (pv 8))) (pe_lst pa_nil) (nomark _)))))))), ?_⟩
    obtain ⟨R, hR, gfR, okR, lR⟩ := runOf_some gr nd gt go
    obtain ⟨tk, en⟩ := runEnd_of gr nd gt go hR
    have m6 := gr.m6
    have m1 := gr.m1
    have e8 := gr.eight
    have gtl := gt.len
    have l54 : R.2.2.length ≤ 54 := by
      have z := run_few gr nd gt go hR (b := 9) fun ds hd => by have := few ds hd; omega
      have : tb.length * 9 ≤ 6 * 9 := Nat.mul_le_mul_right _ (by omega)
      omega
    have gff := firsts_good gt en.gk
    have rows1 := run_rows gr nd gt go hR
    have rows2 := run_rows gr nd gff go (run_firsts gr nd gt go en)
    have lgn : ∀ e ∈ R.2.2, 0 ≤ e.1 ∧ e.1 < (wds.length : Int) := fun e he => ⟨(okR e he).1, (okR e he).2.1⟩
    -- the run
    refine ⟨.ref ri, rfl, .ref ta, rfl, .ref oa, rfl, ri, ta, oa, many, hues, wds, tb, ord, rfl, hin, hT, fun H1 t1 R1 f1 nt1 hR1 res1 => ?_⟩
    have eR : R1 = R := Option.some.inj (hR1.symm.trans hR)
    subst eR
    obtain ⟨fa, la, v1, v2, v3, v4⟩ := id res1
    refine ⟨t1, _, rfl, .inl (.inl v1), rfl, .str (endS R1.1), [.ref fa, .ref la], rfl, .ref fa, [.ref la], rfl, .ref la, [], rfl, rfl, ?_⟩
    have in1 := hin.seqs (f1.seqs hT)
    -- told back
    refine ⟨.ref ri, rfl, .ref fa, rfl, .ref la, rfl, ri, fa, la, many, hues, wds, R1.2.1, R1.2.2, rfl, in1.rid, gr, v2, gfR, v3, okR, lR, f1.2, fun H2 ka das f2 nt => ?_⟩
    rw [en.told] at nt
    have F2 := f1.trans f2
    have sq2 := f2.seqs f1.2
    have log2 := v3.seqs sq2
    have tak2 : IsTab (fun _ => False) H2 ka (firsts tb tk) := nt.tab.none
    -- plain
    refine ⟨(by show 0 ≤ sizeLine; decide), fun pl npl => ?_⟩
    have s3 := same_upd (o := .lst []) npl
    have npl0 : H pl = none := F2.free npl
    have nplP : pl ∉ Ps := hT.new npl0
    have F3 := F2.same s3
    have log3 := log2.seqs (seqs_same s3)
    have tak3 := tak2.seqs (seqs_same s3)
    have hpl3 : upd H2 pl (.lst []) pl = some (.lst []) := upd_same
    have nlp : la ≠ pl := fun z => by
      obtain ⟨es, l1, _⟩ := log2
      rw [z, npl] at l1
      cases l1
    have takP : ka ≠ pl ∧ ∀ d ∈ das, d ≠ pl := by
      refine ⟨fun z => ?_, fun d hd z => ?_⟩
      · have y := nt.ht
        rw [z, npl] at y
        cases y
      · obtain ⟨i, hi⟩ := List.getElem?_of_mem hd
        obtain ⟨l, _, y⟩ := pairedGetL nt.pr hi
        have y : H2 d = some (.lst (l.map V.int)) := y
        rw [z, npl] at y
        cases y
    generalize upd H2 pl (.lst []) = H3 at s3 F3 log3 tak3 hpl3
    obtain ⟨es3, l31, l32⟩ := id log3
    have esl := pairedLen l32
    have mn : ∃ n : Nat, n ≤ 15 ∧ n ≤ R1.2.2.length ∧ (if (R1.2.2.length : Int) < 15 then (R1.2.2.length : Int) else 15) = (n : Int) := by
      split
      · exact ⟨R1.2.2.length, by omega, Nat.le_refl _, rfl⟩
      · exact ⟨15, Nat.le_refl _, by omega, rfl⟩
    obtain ⟨n, n15, nl, en15⟩ := mn
    refine ⟨.ref la, rfl, la, _, rfl, .inl (.inl (.inl l31)), 15, _, rfl, ?_⟩
    rw [List.length_map, esl, en15]
    have tak3' : IsTab (· = pl) H3 ka (firsts tb tk) := by
      obtain ⟨ds3, q1, _, _, q4⟩ := tak3
      have e : ds3 = das := by
        have z := Option.some.inj (q1.symm.trans (s3 _ _ nt.ht))
        injection z with z
        exact (List.map_inj_right (fun a b h => by injection h)).mp z
      subst e
      exact ⟨ds3, q1, takP.1, takP.2, q4⟩
    refine ⟨(n : Int), rfl, by omega, by omega, ?_⟩
    refine for_range (lo := 0) (n := n) (fun i σ H4 => FrS Ps H H4 ∧ IsLog H4 la R1.2.2 ∧ IsTab (· = pl) H4 ka (firsts tb tk) ∧ (∃ (ps : List V) (Ts : List WTr), H4 pl = some (.lst ps) ∧ IsTrs H4 ps Ts ∧ Ts.length = i ∧ ∀ j U, Ts[j]? = some U → PlT wds R1.2.2 j U) ∧ ∃ y8 y9, σ = [some (.ref ri), some (.ref ta), some (.ref oa), some (.str (endS R1.1)), some (.ref fa), some (.ref la), some (.ref ka), some (.ref pl), y8, y9]) ⟨F3, log3, tak3', ⟨[], [], hpl3, .nil, rfl, fun j U h => by simp at h⟩, none, none, rfl⟩ (fun i σ H4 hi p => ?_) (fun σ H4 p => ?_)
    · obtain ⟨F4, log4, tak4, ⟨ps, Ts, hpl4, its, tl, plt⟩, y8, y9, rfl⟩ := p
      have e0 : (0 : Int) + (i : Int) = i := Int.zero_add _
      rw [e0]
      have in4 := hin.seqs (F4.seqs hT)
      have il : i < R1.2.2.length := by omega
      -- why
      refine ⟨.ref ri, rfl, .ref la, rfl, .int i, rfl, ri, la, _, wds, many, hues, R1.2.2, rfl, in4.rid, gr, log4, lgn, by omega, by omega, by omega, F4.2, fun H5 v W f5 itr wt => ?_⟩
      have F5 := F4.trans f5
      have sq5 := f5.seqs F4.2
      have in5 := hin.seqs (F5.seqs hT)
      have tak5 := tak4.seqs sq5
      have log5 := log4.seqs sq5
      have hpl5 := sq5.2 _ _ hpl4
      have its5 := its.mono sq5.1
      have pw : PlT wds R1.2.2 i W := ⟨wt.top, wt.nodes⟩
      have wfew := pw.few
      have ex : R1.2.2[i]? = some R1.2.2[i] := List.getElem?_eq_getElem il
      have en1 : numAt R1.2.2 i = (R1.2.2[i]).1 := by
        unfold numAt
        rw [Int.toNat_natCast, List.getD_eq_getElem?_getD, ex]
        rfl
      have er1 : revN R1.2.2 i = ((R1.2.2.take i).map (·.1)).reverse := by
        unfold revN
        rw [Int.toNat_natCast]
      have nod := pw.nodes
      rw [en1, er1] at nod
      have pas1 : passB wds tb (nodesD W 0) = true := by
        rw [passB_perm nod]
        exact steps_pass rows1 ex
      have pas2 : passB wds (firsts tb tk) (nodesD W 0) = true := by
        rw [passB_perm nod]
        exact steps_pass rows2 ex
      have inr : ∀ z ∈ nodesD W 0, 0 ≤ z.1 ∧ z.1 < (wds.length : Int) := fun z hz => by
        rcases ((depths_len wds _ _).2 z (pw.nodes.mem_iff.mp hz)).2.2 with h | h
        · rw [h, en1]
          exact lgn _ (List.getElem_mem il)
        · unfold revN at h
          obtain ⟨e, he, e2⟩ := List.mem_map.mp (List.mem_reverse.mp h)
          rw [← e2]
          exact lgn e (List.mem_of_mem_take he)
      -- passes
      obtain ⟨tds, u1, _, _, u4⟩ := id in5.tab
      refine ⟨.ref ri, rfl, .ref ta, rfl, v, rfl, ri, ta, v, W, tds, wds, tb, many, hues, rfl, in5.rid, gr, nd, u1, u4, gt, itr, inr, by omega, F5.2, fun H6 f6 => ⟨_, true, rfl, rfl, _, rfl, ?_⟩⟩
      rw [pas1]
      refine iteF ?_
      have F6 := F5.trans f6
      have sq6 := f6.seqs F5.2
      have in6 := in5.seqs sq6
      have tak6 := tak5.seqs sq6
      have itr6 := itr.mono sq6.1
      obtain ⟨kds, k1, _, _, k4⟩ := id tak6
      refine ⟨.ref ri, rfl, .ref ka, rfl, v, rfl, ri, ka, v, W, kds, wds, _, many, hues, rfl, in6.rid, gr, nd, k1, k4, gff, itr6, inr, by omega, F6.2, fun H7 f7 => ⟨_, true, rfl, rfl, _, rfl, ?_⟩⟩
      rw [pas2]
      refine iteF ?_
      have F7 := F6.trans f7
      have sq7 := f7.seqs F6.2
      have in7 := in6.seqs sq7
      have tak7 := tak6.seqs sq7
      have itr7 := itr6.mono sq7.1
      have log7 := (log5.seqs sq6).seqs sq7
      have hpl7 := sq7.2 _ _ (sq6.2 _ _ hpl5)
      have its7 := (its5.mono sq6.1).mono sq7.1
      -- the first
      refine ⟨.int i, rfl, rfl, _, rfl, ?_⟩
      refine ite2 (fun e => ?_) (fun e => ?_)
      · have ci : i = 0 := by
          have z := of_decide_eq_true e
          injection z with z
          omega
        obtain ⟨es, l1, l2⟩ := id log7
        have esl7 := pairedLen l2
        have he0 : 0 < es.length := by omega
        obtain ⟨x, ex0, ⟨r, hx1, hx2⟩⟩ := pairedGetL l2 (List.getElem?_eq_getElem he0)
        have exn : numAt R1.2.2 i = x.1 := by
          rw [ci]
          unfold numAt
          rw [List.getD_eq_getElem?_getD]
          show (R1.2.2[0]?.getD (0, [])).1 = x.1
          rw [ex0]
          rfl
        have eW : W = .node x.1 [] := by
          have z := pw.nodes
          rw [exn] at z
          have y : revN R1.2.2 i = [] := by
            rw [er1, ci]
            rfl
          rw [y] at z
          exact tree_one z
        refine ⟨v, rfl, .ref la, rfl, la, _, 0, _, rfl, rfl, .inl (.inl l1), atI_nat (j := 0) (map_at (List.getElem?_eq_getElem he0)), _, _, 0, _, rfl, rfl, .inl (.inl hx1), atI_nat (j := 0) rfl, (by show 0 ≤ sizeLine; decide), fun t0 nt0 => ?_⟩
        have sa := same_upd (o := .tup []) nt0
        refine ⟨(by show 2 ≤ sizeLine; decide), fun t2 nt2 => ?_⟩
        have sb := same_upd (o := .tup [.int x.1, .ref t0]) nt2
        have s8 := sa.trans sb
        refine ⟨treeD W, .tuple [.int x.1, .tuple []], dpTr (itr7.mono (tups_same s8)), .tup (.inl (.inl upd_same)) (.cons (.int _) (.cons (.tup (.inl (.inl (sb _ _ upd_same))) .nil) .nil)), shaped_tree (by omega), ?_, _, rfl, ?_⟩
        · have z := shaped_tree (T := .node x.1 []) (by rw [nodesD, nodesL]; show 1 ≤ 20; decide)
          rw [treeD, treesD] at z
          exact z
        rw [eW, eqv_one]
        refine iteF ?_
        generalize upd (upd H7 t0 (.tup [])) t2 (.tup [.int x.1, .ref t0]) = H8 at s8
        have F8 := F7.same s8
        have in8 := in7.seqs (seqs_same s8)
        have tak8 := tak7.seqs (seqs_same s8)
        have itr8 := itr7.mono (tups_same s8)
        have log8 := log7.seqs (seqs_same s8)
        have hpl8 := s8 _ _ hpl7
        have its8 := its7.mono (tups_same s8)
        refine ⟨.ref pl, rfl, .inl ⟨rfl, _, .inl (.inl hpl8)⟩, v, rfl, v, W, rfl, itr8, Nat.le_refl _, fun d => by rw [nodesD_len d 0]; omega, fun H9 v' W' s9 itr9 top9 pm9 => ?_⟩
        have hpl9 := s9 _ _ hpl8
        have psl := its.len
        refine ⟨pl, _, v', rfl, rfl, hpl9, small1000 (by omega), ?_⟩
        have tu9 : Tups H9 (upd H9 pl (.lst (ps ++ [v']))) := tups_upd fun xs z => by rw [hpl9] at z; cases z
        have log9 := log8.seqs (seqs_same s9)
        have tak9 := tak8.seqs (seqs_same s9)
        refine ⟨(F8.same s9).put npl0 nplP, log9.keep (fun b xs e => tu9 b xs e) (fun xs e => by rw [upd_ne nlp]; exact e), tak9.mono (fun b xs n e => by rw [upd_ne n]; exact e), ⟨ps ++ [v'], Ts ++ [W'], upd_same, ((its8.mono (tups_same s9)).mono tu9).snoc (itr9.mono tu9), by rw [List.length_append, List.length_singleton, tl], fun j U h => ?_⟩, _, _, rfl⟩
        rcases Nat.lt_or_ge j Ts.length with hj | hj
        · rw [List.getElem?_append_left hj] at h
          exact plt j U h
        · have z := (List.getElem?_eq_some_iff.mp h).1
          rw [List.length_append, List.length_singleton] at z
          have ej : j = Ts.length := by omega
          subst ej
          rw [List.getElem?_append_right (Nat.le_refl _), Nat.sub_self] at h
          have e : W' = U := Option.some.inj h
          subst e
          rw [tl]
          exact ⟨top9.trans pw.top, (pm9 0).trans pw.nodes⟩
      · have s8 : Same H7 H7 := fun _ _ e => e
        refine iteF ?_
        have F8 := F7.same s8
        have in8 := in7.seqs (seqs_same s8)
        have tak8 := tak7.seqs (seqs_same s8)
        have itr8 := itr7.mono (tups_same s8)
        have log8 := log7.seqs (seqs_same s8)
        have hpl8 := s8 _ _ hpl7
        have its8 := its7.mono (tups_same s8)
        refine ⟨.ref pl, rfl, .inl ⟨rfl, _, .inl (.inl hpl8)⟩, v, rfl, v, W, rfl, itr8, Nat.le_refl _, fun d => by rw [nodesD_len d 0]; omega, fun H9 v' W' s9 itr9 top9 pm9 => ?_⟩
        have hpl9 := s9 _ _ hpl8
        have psl := its.len
        refine ⟨pl, _, v', rfl, rfl, hpl9, small1000 (by omega), ?_⟩
        have tu9 : Tups H9 (upd H9 pl (.lst (ps ++ [v']))) := tups_upd fun xs z => by rw [hpl9] at z; cases z
        have log9 := log8.seqs (seqs_same s9)
        have tak9 := tak8.seqs (seqs_same s9)
        refine ⟨(F8.same s9).put npl0 nplP, log9.keep (fun b xs e => tu9 b xs e) (fun xs e => by rw [upd_ne nlp]; exact e), tak9.mono (fun b xs n e => by rw [upd_ne n]; exact e), ⟨ps ++ [v'], Ts ++ [W'], upd_same, ((its8.mono (tups_same s9)).mono tu9).snoc (itr9.mono tu9), by rw [List.length_append, List.length_singleton, tl], fun j U h => ?_⟩, _, _, rfl⟩
        rcases Nat.lt_or_ge j Ts.length with hj | hj
        · rw [List.getElem?_append_left hj] at h
          exact plt j U h
        · have z := (List.getElem?_eq_some_iff.mp h).1
          rw [List.length_append, List.length_singleton] at z
          have ej : j = Ts.length := by omega
          subst ej
          rw [List.getElem?_append_right (Nat.le_refl _), Nat.sub_self] at h
          have e : W' = U := Option.some.inj h
          subst e
          rw [tl]
          exact ⟨top9.trans pw.top, (pm9 0).trans pw.nodes⟩
    · obtain ⟨F4, log4, tak4, ⟨ps, Ts, hpl4, its, tl, plt⟩, y8, y9, rfl⟩ := p
      have psl := its.len
      refine ⟨.ref pl, rfl, pl, _, rfl, .inl (.inl (.inl hpl4)), ?_⟩
      refine ⟨(ps.length : Nat), rfl, by omega, by omega, fun D nD => ?_⟩
      refine lc_range (lo := 0) (n := ps.length) (fun j H9 => Same H4 H9 ∧ H9 D = some (.lst [])) ⟨same_upd nD, upd_same⟩ (fun j H9 hj pp => ?_) (fun H9 pp => ?_)
      · obtain ⟨s9, hD⟩ := pp
        have e0 : (0 : Int) + (j : Int) = j := Int.zero_add _
        rw [e0]
        obtain ⟨U, eU, iU⟩ := its.get (List.getElem?_eq_getElem hj)
        have its9 := its.mono (tups_same s9)
        refine ⟨rfl, .ref pl, rfl, .int j, rfl, pl, _, j, _, rfl, rfl, .inl (.inl (s9 _ _ hpl4)), atI_nat (List.getElem?_eq_getElem hj), .ref pl, rfl, .int j, rfl, _, rfl, pl, _, rfl, .inl (.inl (s9 _ _ hpl4)), fun cl ncl => ?_⟩
        have scl := same_upd (o := .lst (cutV ps none (some (j : Int)))) ncl
        have ecl : cutV ps none (some (j : Int)) = ps.take j := by
          have z := cut_to (fun x : V => x) ps j
          rw [List.map_id', List.map_id'] at z
          exact z
        have itT : IsTrs (upd H9 cl (.lst (cutV ps none (some (j : Int))))) (cutV ps none (some (j : Int))) (Ts.take j) := by
          have z := (its9.mono (tups_same scl)).take j
          rw [← ecl] at z
          exact z
        have fewT : ∀ X ∈ Ts, (nodesD X 0).length ≤ 20 := fun X hX => by
          obtain ⟨m, hm⟩ := List.getElem?_of_mem hX
          have ml := (List.getElem?_eq_some_iff.mp hm).1
          have := (plt m X hm).few
          omega
        refine ⟨treeD U, treesD (Ts.take j), dpTr (iU.mono (tups_same (s9.trans scl))), .lst (.inl (.inl upd_same)) (dpTrs itT), shaped_tree (fewT U (List.mem_of_getElem? eU)), shaped_trees (fun X hX => fewT X (List.mem_of_mem_take hX)), _, rfl, ?_⟩
        have no : ((treesD (Ts.take j)).any fun z => PyData.eqv z (treeD U)) = false := by
          rw [treesD_map]
          refine List.any_eq_false.mpr fun z hz c => ?_
          obtain ⟨X, hX, rfl⟩ := List.mem_map.mp hz
          obtain ⟨m, hm⟩ := List.getElem?_of_mem hX
          have mj : m < j := by
            have y := (List.getElem?_eq_some_iff.mp hm).1
            rw [List.length_take] at y
            omega
          rw [List.getElem?_take_of_lt mj] at hm
          exact PlT.unlike gr lgn (plt m X hm) (plt j U eU) mj (by omega) (eqv_tree X U c)
        rw [no]
        refine iteF ?_
        exact ⟨s9.trans scl, scl _ _ hD⟩
      · obtain ⟨s9, hD⟩ := pp
        refine ⟨(by show 0 ≤ sizeLine; decide), fun e2 ne2 => ?_⟩
        have se := same_upd (o := .lst []) ne2
        refine ⟨D, e2, [], rfl, rfl, .inl (.inl (se _ _ hD)), .inl (.inl upd_same), ?_⟩
        exact q _ (F4.same (s9.trans se))
end
end Rd

set_option Elab.async false
set_option linter.all false
set_option maxRecDepth 100000
set_option maxHeartbeats 4000000
namespace Rd
open PySem PySem.Spec PyProof.Rows L2 Dt
abbrev sLaw : Stmt := topS 35
abbrev nLaw : List Str := ["script", "start", "tape", "riddle", "table", "turn"]
theorem scLaw : FnScope nLaw ["script"] (defScope sLaw) := ⟨rfl, rfl, rfl, by decide +kernel, rfl, by decide +kernel, by decide +kernel⟩
structure TxtL (P : Program) (w : World) (K : PySem.W.Frag) (mg : Str → Option Value) (base : Heap) (Ps : List Addr) : Prop where
  m_range : mg "range" = none
  m_max : mg "max" = none
  m_min : mg "min" = none
  m_len : mg "len" = none
  c__law_tape : Cal P w K mg base 1 "_law_tape" ["script", "start"] (spTap K)
  c__law_digit : Cal P w K mg base 1 "_law_digit" ["tape", "many"] spDig
  c__law_riddle : Cal P w K mg base 3 "_law_riddle" ["tape", "small"] spRid
  c__law_table : Cal P w K mg base 2 "_law_table" ["tape", "riddle", "most"] spTab
  c__law_order : Cal P w K mg base 2 "_law_order" ["tape", "many"] spOrd
  c__law_right : Cal P w K mg base 22 "_law_right" ["riddle", "table", "order"] (spR42 Ps)
section
variable {P : Program} {w : World} {K : PySem.W.Frag} {mg : Str → Option Value} {base : Heap}
set_option maxHeartbeats 32000000 in
theorem body_law {fa a : Addr} {Ps : List Addr} {s : Shared} {H : Hp} {cdv : Value} {ns : List Int} (T : TxtL P w K mg base Ps) (hl : ns.length ≤ 63) (hT : Tabs Ps H) (hS : SqL K H a (ns.map V.int))
    (hr : Room 23 (callerA.deeper (envOfC (Str.ofString "law") (defScope sLaw) s.heap.objs.size fa cdv))) :
    ∃ t, PSs (cxOf CX0 P w K mg base nLaw (Str.ofString "law") (defScope sLaw) fa cdv callerA [] s H (fun _ _ _ => False)).nox (defBody sLaw) t ∧ t { nx := fun _ _ => False, rt := fun v _ => v = .bl true } (start nLaw [.ref a]) H := by
  refine ⟨_, (pss_cons (ps_for PassesOwn.never rfl (pi_range1 (by rfl) T.m_range (pa_cons (pe_callB (call_max2 rfl) (by rfl) T.m_max (by decide +kernel) (pa_cons pe_int (pa_cons (pe_callB (call_min2 rfl) (by rfl) T.m_min (by decide +kernel) (pa_cons pe_int (pa_cons (pe_callB call_len_seq (by rfl) T.m_len (by decide +kernel) (pa_cons (pv 0) pa_nil)) pa_nil))) pa_nil))) pa_nil)) (pg_name (i := 1) scLaw.nd rfl (Or.inl rfl))
  (pss_cons (ps_set (i := 2) scLaw.nd rfl (Or.inl rfl) (pe_cal T.c__law_tape (hr.mono (by omega)) (by rfl) (pa_cons (pv 0) (pa_cons (pv 1) pa_nil))))
  (pss_cons (ps_set (i := 3) scLaw.nd rfl (Or.inl rfl) (pe_cal T.c__law_riddle (hr.mono (by omega)) (by rfl) (pa_cons (pv 2) (pa_cons (pe_cmpR op_eq (pe_cal T.c__law_digit (hr.mono (by omega)) (by rfl) (pa_cons (pv 2) (pa_cons pe_int pa_nil))) pe_int (nomark _)) pa_nil))))
  (pss_cons (ps_set (i := 4) scLaw.nd rfl (Or.inl rfl) (pe_cal T.c__law_table (hr.mono (by omega)) (by rfl) (pa_cons (pv 2) (pa_cons (pv 3) (pa_cons pe_int pa_nil)))))
  (pss_one (ps_for PassesOwn.never rfl (pi_range1 (by rfl) T.m_range (pa_cons pe_int pa_nil)) (pg_name (i := 5) scLaw.nd rfl (Or.inl rfl))
  (pss_one (ps_if (pt_not (pt_val (pe_cal T.c__law_right (hr.mono (by omega)) (by rfl) (pa_cons (pv 3) (pa_cons (pv 4) (pa_cons (pe_cal T.c__law_order (hr.mono (by omega)) (by rfl) (pa_cons (pv 2) (pa_cons (pe_callB call_len_seq (by rfl) T.m_len (by decide +kernel) (pa_cons (pe_ix ix_tup (pv 3) pe_int (fun _ _ => rfl)) pa_nil)) pa_nil))) pa_nil))))))
  (pss_one (ps_ret pe_bl)) pss_nil))))))))
  (pss_one (ps_ret pe_bl))), ?_⟩
  refine ⟨.ref a, rfl, a, _, rfl, .inl hS, 4, _, rfl, 1, _, rfl, ?_⟩
  rw [List.length_map]
  obtain ⟨c1, c5⟩ : 1 ≤ (if (if (ns.length : Int) < 4 then (ns.length : Int) else 4) > 1 then (if (ns.length : Int) < 4 then (ns.length : Int) else 4) else 1) ∧ (if (if (ns.length : Int) < 4 then (ns.length : Int) else 4) > 1 then (if (ns.length : Int) < 4 then (ns.length : Int) else 4) else 1) ≤ 4 := by split <;> split <;> omega
  generalize (if (if (ns.length : Int) < 4 then (ns.length : Int) else 4) > 1 then (if (ns.length : Int) < 4 then (ns.length : Int) else 4) else 1) = cells at c1 c5
  refine ⟨cells, rfl, by omega, by omega, for_range (lo := 0) (n := cells.toNat) (fun i σ H2 => Tabs Ps H2 ∧ SqL K H2 a (ns.map V.int) ∧ ∃ y1 y2 y3 y4 y5, σ = [some (.ref a), y1, y2, y3, y4, y5]) ⟨hT, hS, none, none, none, none, none, rfl⟩ (fun i σ H2 hi p => ?_) (fun σ H2 p => ?_)⟩
  · obtain ⟨hT2, hS2, y1, y2, y3, y4, y5, rfl⟩ := p
    -- tape
    refine ⟨.ref a, rfl, .int (0 + (i : Int)), rfl, a, ns, _, rfl, hS2, hl, by omega, by omega, fun H3 tp s3 ntp tp3 => ?_⟩
    have L3 : LI K a (ns.map V.int) Ps tp H3 := ⟨tp3, hT2.same s3, sq_keep hS2 (s3 a), fun e H' => sq_new hS2 ntp e H'⟩
    -- riddle
    refine ⟨.ref tp, rfl, .ref tp, rfl, tp, 2, rfl, tp3, by decide, by decide, fun H4 d D4 _ _ => ⟨rfl, ?_⟩⟩
    have L4 := L3.taped D4
    refine ⟨tp, _, rfl, L4.tape, fun H5 ri many hues wds D5 rid gr neat sz => ?_⟩
    have L5 := L4.taped D5
    have nd : ∀ wd ∈ wds, wd.1.Nodup := fun wd h => (neat wd h).nd
    obtain ⟨m1, m6, h2, h4, _⟩ := id sz
    dsimp only at m1 m6 h2 h4
    have e8 := gr.eight
    obtain ⟨wt, was, r1, r2, r3⟩ := id rid
    -- table
    refine ⟨.ref tp, rfl, .ref ri, rfl, tp, ri, many, hues, 9, _, rfl, L5.tape, r1, m1, m6, h2, h4, by decide, by decide, fun H8 ta tb D8 tab8 gt few => ?_⟩
    have L8 := L5.taped D8
    have tab8 := tab8.weak (Bv := (· = tp)) L5.tape.old
    have rid8 := rid.mono (D8.tups L5.tape)
    -- turns
    refine ⟨3, rfl, by decide, by decide, for_range (lo := 0) (n := 3) (fun j σ H9 => (LI K a (ns.map V.int) Ps tp H9 ∧ IsRid H9 ri many hues wds ∧ IsTab (· = tp) H9 ta tb) ∧ ∃ y5, σ = [some (.ref a), some (.int (0 + (i : Int))), some (.ref tp), some (.ref ri), some (.ref ta), y5]) ⟨⟨L8, rid8, tab8⟩, _, rfl⟩ (fun j σ H9 hj p => ?_) (fun σ H9 p => ?_)⟩
    · obtain ⟨⟨L9, rid9, tab9⟩, z5, rfl⟩ := p
      obtain ⟨wt9, was9, t1, t2, t3⟩ := id rid9
      have wl9 := pairedLen t3
      refine ⟨.ref ri, rfl, .ref ta, rfl, .ref tp, rfl, .ref ri, rfl, ri, _, 2, _, rfl, rfl, .inl (.inl t1), atI_nat (j := 2) rfl, wt9, _, rfl, .inr (.inl (.inl t2)), tp, _, rfl, L9.tape, by omega, by rw [List.length_map]; omega, fun H10 oa ord D10 ho go pmo => ?_⟩
      rw [List.length_map, wl9, Int.toNat_natCast] at go
      have L10 := L9.taped D10
      have tab10 := tab9.taped D10
      have rid10 := rid9.mono (D10.tups L9.tape)
      have in10 : RunIn H10 ri ta oa many hues wds tb ord := ⟨rid10, gr, nd, tab10.none, gt, ho, go⟩
      refine ⟨ri, ta, oa, many, hues, wds, tb, ord, rfl, in10, L10.tabs, few, fun H11 f11 => ⟨true, rfl, iteF ?_⟩⟩
      have sq11 := f11.seqs L10.tabs
      exact ⟨⟨L10.frs f11, rid10.mono sq11.1, tab10.seqs sq11⟩, _, rfl⟩
    · obtain ⟨⟨L9, rid9, tab9⟩, z5, rfl⟩ := p
      exact ⟨L9.tabs, L9.scr, _, _, _, _, _, rfl⟩
  · obtain ⟨hT2, hS2, y1, y2, y3, y4, y5, rfl⟩ := p
    exact rfl
end
end Rd

set_option Elab.async false
set_option linter.all false
set_option maxRecDepth 100000
set_option maxHeartbeats 4000000
namespace Rd
open PySem PySem.Spec PyProof.Rows L2 Dt
theorem all_mk {l : PySem.W.OpenLaw} {w : World} {K : PySem.W.Frag} {h : Heap} {mg : Str → Option Value} {fa : Addr} {tb : Str → Addr × Addr} (X : K.In h) (G : h.Ns mainGlobals mg) (hfa : mg "law" = some (.ref fa)) (ht : ∀ y ∈ [("hues_at" : Str), ("clash" : Str), ("grown" : Str), ("has_its_draws" : Str), ("passes" : Str), ("standing" : Str), ("have_next" : Str), ("is_log" : Str)], Lg.TabOf mg h y (tb y))
    {f1 f2 f3 f4 f5 f6 f7 f8 f9 f10 f11 f12 f13 f14 f15 f16 f17 f18 f19 f20 f21 f22 f23 f24 f25 f26 f27 : Addr} {od1 an1 od2 an2 od3 an3 od4 an4 od5 an5 od6 an6 od7 an7 od8 an8 od9 an9 od10 an10 od11 an11 od12 an12 od13 an13 od14 an14 od15 an15 od16 an16 od17 an17 od18 an18 od19 an19 od20 an20 od21 an21 od22 an22 od23 an23 od24 an24 od25 an25 od26 an26 od27 an27 : Option Addr} {sl1 sl2 sl3 sl4 sl5 sl6 sl7 sl8 sl9 sl10 sl11 sl12 sl13 sl14 sl15 sl16 sl17 sl18 sl19 sl20 sl21 sl22 sl23 sl24 sl25 sl26 sl27 : Array (Option Value)} {oc1 kV1 dc1 pm1 cd1 ct1 oc2 kV2 dc2 pm2 cd2 ct2 oc3 kV3 dc3 pm3 cd3 ct3 oc4 kV4 dc4 pm4 cd4 ct4 oc5 kV5 dc5 pm5 cd5 ct5 oc6 kV6 dc6 pm6 cd6 ct6 oc7 kV7 dc7 pm7 cd7 ct7 oc8 kV8 dc8 pm8 cd8 ct8 oc9 kV9 dc9 pm9 cd9 ct9 oc10 kV10 dc10 pm10 cd10 ct10 oc11 kV11 dc11 pm11 cd11 ct11 oc12 kV12 dc12 pm12 cd12 ct12 oc13 kV13 dc13 pm13 cd13 ct13 oc14 kV14 dc14 pm14 cd14 ct14 oc15 kV15 dc15 pm15 cd15 ct15 oc16 kV16 dc16 pm16 cd16 ct16 oc17 kV17 dc17 pm17 cd17 ct17 oc18 kV18 dc18 pm18 cd18 ct18 oc19 kV19 dc19 pm19 cd19 ct19 oc20 kV20 dc20 pm20 cd20 ct20 oc21 kV21 dc21 pm21 cd21 ct21 oc22 kV22 dc22 pm22 cd22 ct22 oc23 kV23 dc23 pm23 cd23 ct23 oc24 kV24 dc24 pm24 cd24 ct24 oc25 kV25 dc25 pm25 cd25 ct25 oc26 kV26 dc26 pm26 cd26 ct26 oc27 kV27 dc27 pm27 cd27 ct27 : Value}
    (a1 : PySem.W.nsIn K mainGlobals "hues_at" = some (some (.ref f1))) (l1 : K.lookup f1 = some ⟨oc1, od1, .func (PySem.W.fnOf "hues_at" "hues_at" (defArgs sHue) (defBody sHue) (defScope sHue) .none kV1 dc1 pm1 an1 cd1 ct1), sl1⟩) (c1 : PySem.W.codeIn K cd1 "hues_at" = true) (k1 : PySem.W.keepIn K (.ref f1) = true)
    (a2 : PySem.W.nsIn K mainGlobals "is_broken" = some (some (.ref f2))) (l2 : K.lookup f2 = some ⟨oc2, od2, .func (PySem.W.fnOf "is_broken" "is_broken" (defArgs sIsB) (defBody sIsB) (defScope sIsB) .none kV2 dc2 pm2 an2 cd2 ct2), sl2⟩) (c2 : PySem.W.codeIn K cd2 "is_broken" = true) (k2 : PySem.W.keepIn K (.ref f2) = true)
    (a3 : PySem.W.nsIn K mainGlobals "clash" = some (some (.ref f3))) (l3 : K.lookup f3 = some ⟨oc3, od3, .func (PySem.W.fnOf "clash" "clash" (defArgs sCla) (defBody sCla) (defScope sCla) .none kV3 dc3 pm3 an3 cd3 ct3), sl3⟩) (c3 : PySem.W.codeIn K cd3 "clash" = true) (k3 : PySem.W.keepIn K (.ref f3) = true)
    (a4 : PySem.W.nsIn K mainGlobals "clashing" = some (some (.ref f4))) (l4 : K.lookup f4 = some ⟨oc4, od4, .func (PySem.W.fnOf "clashing" "clashing" (defArgs sCls) (defBody sCls) (defScope sCls) .none kV4 dc4 pm4 an4 cd4 ct4), sl4⟩) (c4 : PySem.W.codeIn K cd4 "clashing" = true) (k4 : PySem.W.keepIn K (.ref f4) = true)
    (a5 : PySem.W.nsIn K mainGlobals "grown" = some (some (.ref f5))) (l5 : K.lookup f5 = some ⟨oc5, od5, .func (PySem.W.fnOf "grown" "grown" (defArgs sGrw) (defBody sGrw) (defScope sGrw) .none kV5 dc5 pm5 an5 cd5 ct5), sl5⟩) (c5 : PySem.W.codeIn K cd5 "grown" = true) (k5 : PySem.W.keepIn K (.ref f5) = true)
    (a6 : PySem.W.nsIn K mainGlobals "why" = some (some (.ref f6))) (l6 : K.lookup f6 = some ⟨oc6, od6, .func (PySem.W.fnOf "why" "why" (defArgs sWhy) (defBody sWhy) (defScope sWhy) .none kV6 dc6 pm6 an6 cd6 ct6), sl6⟩) (c6 : PySem.W.codeIn K cd6 "why" = true) (k6 : PySem.W.keepIn K (.ref f6) = true)
    (a7 : PySem.W.nsIn K mainGlobals "had" = some (some (.ref f7))) (l7 : K.lookup f7 = some ⟨oc7, od7, .func (PySem.W.fnOf "had" "had" (defArgs sHad) (defBody sHad) (defScope sHad) .none kV7 dc7 pm7 an7 cd7 ct7), sl7⟩) (c7 : PySem.W.codeIn K cd7 "had" = true) (k7 : PySem.W.keepIn K (.ref f7) = true)
    (a8 : PySem.W.nsIn K mainGlobals "levels_of" = some (some (.ref f8))) (l8 : K.lookup f8 = some ⟨oc8, od8, .func (PySem.W.fnOf "levels_of" "levels_of" (defArgs sLvo) (defBody sLvo) (defScope sLvo) .none kV8 dc8 pm8 an8 cd8 ct8), sl8⟩) (c8 : PySem.W.codeIn K cd8 "levels_of" = true) (k8 : PySem.W.keepIn K (.ref f8) = true)
    (a9 : PySem.W.nsIn K mainGlobals "has_its_draws" = some (some (.ref f9))) (l9 : K.lookup f9 = some ⟨oc9, od9, .func (PySem.W.fnOf "has_its_draws" "has_its_draws" (defArgs sHid) (defBody sHid) (defScope sHid) .none kV9 dc9 pm9 an9 cd9 ct9), sl9⟩) (c9 : PySem.W.codeIn K cd9 "has_its_draws" = true) (k9 : PySem.W.keepIn K (.ref f9) = true)
    (a10 : PySem.W.nsIn K mainGlobals "passes" = some (some (.ref f10))) (l10 : K.lookup f10 = some ⟨oc10, od10, .func (PySem.W.fnOf "passes" "passes" (defArgs sPas) (defBody sPas) (defScope sPas) .none kV10 dc10 pm10 an10 cd10 ct10), sl10⟩) (c10 : PySem.W.codeIn K cd10 "passes" = true) (k10 : PySem.W.keepIn K (.ref f10) = true)
    (a11 : PySem.W.nsIn K mainGlobals "standing" = some (some (.ref f11))) (l11 : K.lookup f11 = some ⟨oc11, od11, .func (PySem.W.fnOf "standing" "standing" (defArgs sSta) (defBody sSta) (defScope sSta) .none kV11 dc11 pm11 an11 cd11 ct11), sl11⟩) (c11 : PySem.W.codeIn K cd11 "standing" = true) (k11 : PySem.W.keepIn K (.ref f11) = true)
    (a12 : PySem.W.nsIn K mainGlobals "first_broken" = some (some (.ref f12))) (l12 : K.lookup f12 = some ⟨oc12, od12, .func (PySem.W.fnOf "first_broken" "first_broken" (defArgs sFib) (defBody sFib) (defScope sFib) .none kV12 dc12 pm12 an12 cd12 ct12), sl12⟩) (c12 : PySem.W.codeIn K cd12 "first_broken" = true) (k12 : PySem.W.keepIn K (.ref f12) = true)
    (a13 : PySem.W.nsIn K mainGlobals "have_next" = some (some (.ref f13))) (l13 : K.lookup f13 = some ⟨oc13, od13, .func (PySem.W.fnOf "have_next" "have_next" (defArgs sHnx) (defBody sHnx) (defScope sHnx) .none kV13 dc13 pm13 an13 cd13 ct13), sl13⟩) (c13 : PySem.W.codeIn K cd13 "have_next" = true) (k13 : PySem.W.keepIn K (.ref f13) = true)
    (a14 : PySem.W.nsIn K mainGlobals "run" = some (some (.ref f14))) (l14 : K.lookup f14 = some ⟨oc14, od14, .func (PySem.W.fnOf "run" "run" (defArgs sRun) (defBody sRun) (defScope sRun) .none kV14 dc14 pm14 an14 cd14 ct14), sl14⟩) (c14 : PySem.W.codeIn K cd14 "run" = true) (k14 : PySem.W.keepIn K (.ref f14) = true)
    (a15 : PySem.W.nsIn K mainGlobals "is_mending" = some (some (.ref f15))) (l15 : K.lookup f15 = some ⟨oc15, od15, .func (PySem.W.fnOf "is_mending" "is_mending" (defArgs sMnd) (defBody sMnd) (defScope sMnd) .none kV15 dc15 pm15 an15 cd15 ct15), sl15⟩) (c15 : PySem.W.codeIn K cd15 "is_mending" = true) (k15 : PySem.W.keepIn K (.ref f15) = true)
    (a16 : PySem.W.nsIn K mainGlobals "is_log" = some (some (.ref f16))) (l16 : K.lookup f16 = some ⟨oc16, od16, .func (PySem.W.fnOf "is_log" "is_log" (defArgs sIlg) (defBody sIlg) (defScope sIlg) .none kV16 dc16 pm16 an16 cd16 ct16), sl16⟩) (c16 : PySem.W.codeIn K cd16 "is_log" = true) (k16 : PySem.W.keepIn K (.ref f16) = true)
    (a17 : PySem.W.nsIn K mainGlobals "told_back" = some (some (.ref f17))) (l17 : K.lookup f17 = some ⟨oc17, od17, .func (PySem.W.fnOf "told_back" "told_back" (defArgs sTol) (defBody sTol) (defScope sTol) .none kV17 dc17 pm17 an17 cd17 ct17), sl17⟩) (c17 : PySem.W.codeIn K cd17 "told_back" = true) (k17 : PySem.W.keepIn K (.ref f17) = true)
    (a18 : PySem.W.nsIn K mainGlobals "_law_tape" = some (some (.ref f18))) (l18 : K.lookup f18 = some ⟨oc18, od18, .func (PySem.W.fnOf "_law_tape" "_law_tape" (defArgs sTap) (defBody sTap) (defScope sTap) .none kV18 dc18 pm18 an18 cd18 ct18), sl18⟩) (c18 : PySem.W.codeIn K cd18 "_law_tape" = true) (k18 : PySem.W.keepIn K (.ref f18) = true)
    (a19 : PySem.W.nsIn K mainGlobals "_law_digit" = some (some (.ref f19))) (l19 : K.lookup f19 = some ⟨oc19, od19, .func (PySem.W.fnOf "_law_digit" "_law_digit" (defArgs sDig) (defBody sDig) (defScope sDig) .none kV19 dc19 pm19 an19 cd19 ct19), sl19⟩) (c19 : PySem.W.codeIn K cd19 "_law_digit" = true) (k19 : PySem.W.keepIn K (.ref f19) = true)
    (a20 : PySem.W.nsIn K mainGlobals "_law_wish" = some (some (.ref f20))) (l20 : K.lookup f20 = some ⟨oc20, od20, .func (PySem.W.fnOf "_law_wish" "_law_wish" (defArgs sWis) (defBody sWis) (defScope sWis) .none kV20 dc20 pm20 an20 cd20 ct20), sl20⟩) (c20 : PySem.W.codeIn K cd20 "_law_wish" = true) (k20 : PySem.W.keepIn K (.ref f20) = true)
    (a21 : PySem.W.nsIn K mainGlobals "_law_sizes" = some (some (.ref f21))) (l21 : K.lookup f21 = some ⟨oc21, od21, .func (PySem.W.fnOf "_law_sizes" "_law_sizes" (defArgs sSzs) (defBody sSzs) (defScope sSzs) .none kV21 dc21 pm21 an21 cd21 ct21), sl21⟩) (c21 : PySem.W.codeIn K cd21 "_law_sizes" = true) (k21 : PySem.W.keepIn K (.ref f21) = true)
    (a22 : PySem.W.nsIn K mainGlobals "_law_riddle" = some (some (.ref f22))) (l22 : K.lookup f22 = some ⟨oc22, od22, .func (PySem.W.fnOf "_law_riddle" "_law_riddle" (defArgs sRid) (defBody sRid) (defScope sRid) .none kV22 dc22 pm22 an22 cd22 ct22), sl22⟩) (c22 : PySem.W.codeIn K cd22 "_law_riddle" = true) (k22 : PySem.W.keepIn K (.ref f22) = true)
    (a23 : PySem.W.nsIn K mainGlobals "_law_table" = some (some (.ref f23))) (l23 : K.lookup f23 = some ⟨oc23, od23, .func (PySem.W.fnOf "_law_table" "_law_table" (defArgs sTab) (defBody sTab) (defScope sTab) .none kV23 dc23 pm23 an23 cd23 ct23), sl23⟩) (c23 : PySem.W.codeIn K cd23 "_law_table" = true) (k23 : PySem.W.keepIn K (.ref f23) = true)
    (a24 : PySem.W.nsIn K mainGlobals "_law_order" = some (some (.ref f24))) (l24 : K.lookup f24 = some ⟨oc24, od24, .func (PySem.W.fnOf "_law_order" "_law_order" (defArgs sOrd) (defBody sOrd) (defScope sOrd) .none kV24 dc24 pm24 an24 cd24 ct24), sl24⟩) (c24 : PySem.W.codeIn K cd24 "_law_order" = true) (k24 : PySem.W.keepIn K (.ref f24) = true)
    (a25 : PySem.W.nsIn K mainGlobals "_law_plain" = some (some (.ref f25))) (l25 : K.lookup f25 = some ⟨oc25, od25, .func (PySem.W.fnOf "_law_plain" "_law_plain" (defArgs sLpl) (defBody sLpl) (defScope sLpl) .none kV25 dc25 pm25 an25 cd25 ct25), sl25⟩) (c25 : PySem.W.codeIn K cd25 "_law_plain" = true) (k25 : PySem.W.keepIn K (.ref f25) = true)
    (a26 : PySem.W.nsIn K mainGlobals "_law_right" = some (some (.ref f26))) (l26 : K.lookup f26 = some ⟨oc26, od26, .func (PySem.W.fnOf "_law_right" "_law_right" (defArgs sRgt) (defBody sRgt) (defScope sRgt) .none kV26 dc26 pm26 an26 cd26 ct26), sl26⟩) (c26 : PySem.W.codeIn K cd26 "_law_right" = true) (k26 : PySem.W.keepIn K (.ref f26) = true)
    (a27 : PySem.W.nsIn K mainGlobals "law" = some (some (.ref f27))) (l27 : K.lookup f27 = some ⟨oc27, od27, .func (PySem.W.fnOf "law" "law" (defArgs sLaw) (defBody sLaw) (defScope sLaw) .none kV27 dc27 pm27 an27 cd27 ct27), sl27⟩) (c27 : PySem.W.codeIn K cd27 "law" = true) (k27 : PySem.W.keepIn K (.ref f27) = true)
    (z_abs : PySem.W.nsIn K mainGlobals "abs" = some none)
    (z_all : PySem.W.nsIn K mainGlobals "all" = some none)
    (z_any : PySem.W.nsIn K mainGlobals "any" = some none)
    (z_bool : PySem.W.nsIn K mainGlobals "bool" = some none)
    (z_enumerate : PySem.W.nsIn K mainGlobals "enumerate" = some none)
    (z_int : PySem.W.nsIn K mainGlobals "int" = some none)
    (z_isinstance : PySem.W.nsIn K mainGlobals "isinstance" = some none)
    (z_len : PySem.W.nsIn K mainGlobals "len" = some none)
    (z_list : PySem.W.nsIn K mainGlobals "list" = some none)
    (z_max : PySem.W.nsIn K mainGlobals "max" = some none)
    (z_min : PySem.W.nsIn K mainGlobals "min" = some none)
    (z_range : PySem.W.nsIn K mainGlobals "range" = some none)
    (z_reversed : PySem.W.nsIn K mainGlobals "reversed" = some none)
    (z_sorted : PySem.W.nsIn K mainGlobals "sorted" = some none)
    (z_tuple : PySem.W.nsIn K mainGlobals "tuple" = some none)
    (z_zip : PySem.W.nsIn K mainGlobals "zip" = some none) :
    ∃ fd : FuncData, Fun K "law" "law" sLaw fa fd ∧ (∀ (s : Shared) (v : Value), BindsTo s fd ⟨[v], []⟩ [("script", v)]) ∧ ∀ (base : Heap) (H : Hp) (cdv : Value) (a : Addr) (ns : List Int) (s : Shared), K.In base → base.Ns mainGlobals mg → (∀ y ∈ [("hues_at" : Str), ("clash" : Str), ("grown" : Str), ("has_its_draws" : Str), ("passes" : Str), ("standing" : Str), ("have_next" : Str), ("is_log" : Str)], GxR.TabB base mg (tb y).1 (tb y).2) → (∀ y ∈ [("hues_at" : Str), ("clash" : Str), ("grown" : Str), ("has_its_draws" : Str), ("passes" : Str), ("standing" : Str), ("have_next" : Str), ("is_log" : Str)], H (tb y).2 = some (.tbl #[])) → ns.length ≤ 63 → (∀ z ∈ ns, Builtin.Int.intBits z ≤ 1048576) → SqL K H a (ns.map V.int) → Room 23 (callerA.deeper (envOfC "law" (defScope sLaw) s.heap.objs.size fa cdv)) →
        ∃ t, PSs (cxOf CX0 l.prog w K mg base nLaw "law" (defScope sLaw) fa cdv callerA [] s H (fun _ _ _ => False)).nox (defBody sLaw) t ∧ t { nx := fun _ _ => False, rt := fun v _ => v = .bl true } (start nLaw [.ref a]) H := by
  have e := hfa.symm.trans (PySem.W.mg_of X G a27)
  cases e
  have F1 := fun_mk (st := sHue) l1 c1 k1
  have F2 := fun_mk (st := sIsB) l2 c2 k2
  have F3 := fun_mk (st := sCla) l3 c3 k3
  have F4 := fun_mk (st := sCls) l4 c4 k4
  have F5 := fun_mk (st := sGrw) l5 c5 k5
  have F6 := fun_mk (st := sWhy) l6 c6 k6
  have F7 := fun_mk (st := sHad) l7 c7 k7
  have F8 := fun_mk (st := sLvo) l8 c8 k8
  have F9 := fun_mk (st := sHid) l9 c9 k9
  have F10 := fun_mk (st := sPas) l10 c10 k10
  have F11 := fun_mk (st := sSta) l11 c11 k11
  have F12 := fun_mk (st := sFib) l12 c12 k12
  have F13 := fun_mk (st := sHnx) l13 c13 k13
  have F14 := fun_mk (st := sRun) l14 c14 k14
  have F15 := fun_mk (st := sMnd) l15 c15 k15
  have F16 := fun_mk (st := sIlg) l16 c16 k16
  have F17 := fun_mk (st := sTol) l17 c17 k17
  have F18 := fun_mk (st := sTap) l18 c18 k18
  have F19 := fun_mk (st := sDig) l19 c19 k19
  have F20 := fun_mk (st := sWis) l20 c20 k20
  have F21 := fun_mk (st := sSzs) l21 c21 k21
  have F22 := fun_mk (st := sRid) l22 c22 k22
  have F23 := fun_mk (st := sTab) l23 c23 k23
  have F24 := fun_mk (st := sOrd) l24 c24 k24
  have F25 := fun_mk (st := sLpl) l25 c25 k25
  have F26 := fun_mk (st := sRgt) l26 c26 k26
  have F27 := fun_mk (st := sLaw) l27 c27 k27
  have b1 := F1.binds (ps := ["filling", "places"]) fun _ _ _ _ _ _ us hl => match us, hl with | [_, _], _ => rfl
  have b2 := F2.binds (ps := ["wish", "filling"]) fun _ _ _ _ _ _ us hl => match us, hl with | [_, _], _ => rfl
  have b3 := F3.binds (ps := ["one", "other"]) fun _ _ _ _ _ _ us hl => match us, hl with | [_, _], _ => rfl
  have b4 := F4.binds (ps := ["riddle"]) fun _ _ _ _ _ _ us hl => match us, hl with | [_], _ => rfl
  have b5 := F5.binds (ps := ["numbers", "below"]) fun _ _ _ _ _ _ us hl => match us, hl with | [_, _], _ => rfl
  have b6 := F6.binds (ps := ["riddle", "log", "t"]) fun _ _ _ _ _ _ us hl => match us, hl with | [_, _, _], _ => rfl
  have b7 := F7.binds (ps := ["wishes", "level"]) fun _ _ _ _ _ _ us hl => match us, hl with | [_, _], _ => rfl
  have b8 := F8.binds (ps := ["wishes", "table", "tree"]) fun _ _ _ _ _ _ us hl => match us, hl with | [_, _, _], _ => rfl
  have b9 := F9.binds (ps := ["wish", "table", "deeper"]) fun _ _ _ _ _ _ us hl => match us, hl with | [_, _, _], _ => rfl
  have b10 := F10.binds (ps := ["riddle", "table", "tree"]) fun _ _ _ _ _ _ us hl => match us, hl with | [_, _, _], _ => rfl
  have b11 := F11.binds (ps := ["table", "taken"]) fun _ _ _ _ _ _ us hl => match us, hl with | [_, _], _ => rfl
  have b12 := F12.binds (ps := ["wishes", "order", "filling"]) fun _ _ _ _ _ _ us hl => match us, hl with | [_, _, _], _ => rfl
  have b13 := F13.binds (ps := ["table", "taken", "places"]) fun _ _ _ _ _ _ us hl => match us, hl with | [_, _, _], _ => rfl
  have b14 := F14.binds (ps := ["riddle", "table", "order"]) fun _ _ _ _ _ _ us hl => match us, hl with | [_, _, _], _ => rfl
  have b15 := F15.binds (ps := ["wishes", "pair"]) fun _ _ _ _ _ _ us hl => match us, hl with | [_, _], _ => rfl
  have b16 := F16.binds (ps := ["riddle", "log"]) fun _ _ _ _ _ _ us hl => match us, hl with | [_, _], _ => rfl
  have b17 := F17.binds (ps := ["riddle", "filling", "log"]) fun _ _ _ _ _ _ us hl => match us, hl with | [_, _, _], _ => rfl
  have b18 := F18.binds (ps := ["script", "start"]) fun _ _ _ _ _ _ us hl => match us, hl with | [_, _], _ => rfl
  have b19 := F19.binds (ps := ["tape", "many"]) fun _ _ _ _ _ _ us hl => match us, hl with | [_, _], _ => rfl
  have b20 := F20.binds (ps := ["tape", "many", "hues", "most"]) fun _ _ _ _ _ _ us hl => match us, hl with | [_, _, _, _], _ => rfl
  have b21 := F21.binds (ps := ["tape", "small"]) fun _ _ _ _ _ _ us hl => match us, hl with | [_, _], _ => rfl
  have b22 := F22.binds (ps := ["tape", "small"]) fun _ _ _ _ _ _ us hl => match us, hl with | [_, _], _ => rfl
  have b23 := F23.binds (ps := ["tape", "riddle", "most"]) fun _ _ _ _ _ _ us hl => match us, hl with | [_, _, _], _ => rfl
  have b24 := F24.binds (ps := ["tape", "many"]) fun _ _ _ _ _ _ us hl => match us, hl with | [_, _], _ => rfl
  have b25 := F25.binds (ps := ["tree"]) fun _ _ _ _ _ _ us hl => match us, hl with | [_], _ => rfl
  have b26 := F26.binds (ps := ["riddle", "table", "order"]) fun _ _ _ _ _ _ us hl => match us, hl with | [_, _, _], _ => rfl
  have m_abs := PySem.W.mg_none_of X G z_abs
  have m_all := PySem.W.mg_none_of X G z_all
  have m_any := PySem.W.mg_none_of X G z_any
  have m_bool := PySem.W.mg_none_of X G z_bool
  have m_enumerate := PySem.W.mg_none_of X G z_enumerate
  have m_int := PySem.W.mg_none_of X G z_int
  have m_isinstance := PySem.W.mg_none_of X G z_isinstance
  have m_len := PySem.W.mg_none_of X G z_len
  have m_list := PySem.W.mg_none_of X G z_list
  have m_max := PySem.W.mg_none_of X G z_max
  have m_min := PySem.W.mg_none_of X G z_min
  have m_range := PySem.W.mg_none_of X G z_range
  have m_reversed := PySem.W.mg_none_of X G z_reversed
  have m_sorted := PySem.W.mg_none_of X G z_sorted
  have m_tuple := PySem.W.mg_none_of X G z_tuple
  have m_zip := PySem.W.mg_none_of X G z_zip
  have g1 := PySem.W.mg_of X G a1
  have g2 := PySem.W.mg_of X G a2
  have g3 := PySem.W.mg_of X G a3
  have g4 := PySem.W.mg_of X G a4
  have g5 := PySem.W.mg_of X G a5
  have g6 := PySem.W.mg_of X G a6
  have g7 := PySem.W.mg_of X G a7
  have g8 := PySem.W.mg_of X G a8
  have g9 := PySem.W.mg_of X G a9
  have g10 := PySem.W.mg_of X G a10
  have g11 := PySem.W.mg_of X G a11
  have g12 := PySem.W.mg_of X G a12
  have g13 := PySem.W.mg_of X G a13
  have g14 := PySem.W.mg_of X G a14
  have g15 := PySem.W.mg_of X G a15
  have g16 := PySem.W.mg_of X G a16
  have g17 := PySem.W.mg_of X G a17
  have g18 := PySem.W.mg_of X G a18
  have g19 := PySem.W.mg_of X G a19
  have g20 := PySem.W.mg_of X G a20
  have g21 := PySem.W.mg_of X G a21
  have g22 := PySem.W.mg_of X G a22
  have g23 := PySem.W.mg_of X G a23
  have g24 := PySem.W.mg_of X G a24
  have g25 := PySem.W.mg_of X G a25
  have g26 := PySem.W.mg_of X G a26
  have g27 := PySem.W.mg_of X G a27
  have tc1 := (ht "hues_at" (by decide)).code X g1 l1
  cases tc1
  have tc3 := (ht "clash" (by decide)).code X g3 l3
  cases tc3
  have tc5 := (ht "grown" (by decide)).code X g5 l5
  cases tc5
  have tc9 := (ht "has_its_draws" (by decide)).code X g9 l9
  cases tc9
  have tc10 := (ht "passes" (by decide)).code X g10 l10
  cases tc10
  have tc11 := (ht "standing" (by decide)).code X g11 l11
  cases tc11
  have tc13 := (ht "have_next" (by decide)).code X g13 l13
  cases tc13
  have tc16 := (ht "is_log" (by decide)).code X g16 l16
  cases tc16
  refine ⟨_, F27, fun s v => .of_eq rfl, fun base H cdv a ns s kb gb tB tH hl hb hS hrm => ?_⟩
  have TB1 := tB "hues_at" (by decide)
  have TH1 := tH "hues_at" (by decide)
  have TB3 := tB "clash" (by decide)
  have TH3 := tH "clash" (by decide)
  have TB5 := tB "grown" (by decide)
  have TH5 := tH "grown" (by decide)
  have TB9 := tB "has_its_draws" (by decide)
  have TH9 := tH "has_its_draws" (by decide)
  have TB10 := tB "passes" (by decide)
  have TH10 := tH "passes" (by decide)
  have TB11 := tB "standing" (by decide)
  have TH11 := tH "standing" (by decide)
  have TB13 := tB "have_next" (by decide)
  have TH13 := tH "have_next" (by decide)
  have TB16 := tB "is_log" (by decide)
  have TH16 := tH "is_log" (by decide)
  have C3 : Cal l.prog w K mg base 1 "clash" ["one", "other"] (spCla [(tb "hues_at").2, (tb "clash").2, (tb "grown").2, (tb "has_its_draws").2, (tb "passes").2, (tb "standing").2, (tb "have_next").2, (tb "is_log").2]) := ⟨_, _, ok_cla (k := 0) ⟨⟨_, _, _, _, _, _, _, _, rfl, l3, c3⟩⟩ TB3 (by simp) { m_any := m_any }, g3, k3, b3⟩
  have C4 : Cal l.prog w K mg base 2 "clashing" ["riddle"] (spCls [(tb "hues_at").2, (tb "clash").2, (tb "grown").2, (tb "has_its_draws").2, (tb "passes").2, (tb "standing").2, (tb "have_next").2, (tb "is_log").2]) := ⟨_, _, ok_cls (k := 0) F4 { m_enumerate := m_enumerate, c_clash := C3 }, g4, k4, b4⟩
  have C5 : Cal l.prog w K mg base 3 "grown" ["numbers", "below"] (spGrw [(tb "hues_at").2, (tb "clash").2, (tb "grown").2, (tb "has_its_draws").2, (tb "passes").2, (tb "standing").2, (tb "have_next").2, (tb "is_log").2]) := ⟨_, _, ok_grw (k := 0) ⟨⟨_, _, _, _, _, _, _, _, rfl, l5, c5⟩⟩ TB5 (by simp) { m_len := m_len, m_reversed := m_reversed, m_range := m_range, m_tuple := m_tuple }, g5, k5, b5⟩
  have C6 : Cal l.prog w K mg base 4 "why" ["riddle", "log", "t"] (spWhy [(tb "hues_at").2, (tb "clash").2, (tb "grown").2, (tb "has_its_draws").2, (tb "passes").2, (tb "standing").2, (tb "have_next").2, (tb "is_log").2]) := ⟨_, _, ok_why (k := 0) F6 { m_len := m_len, m_reversed := m_reversed, m_max := m_max, c_clashing := C4, c_grown := C5 }, g6, k6, b6⟩
  have C1 : Cal l.prog w K mg base 3 "hues_at" ["filling", "places"] (spHues [(tb "hues_at").2, (tb "clash").2, (tb "grown").2, (tb "has_its_draws").2, (tb "passes").2, (tb "standing").2, (tb "have_next").2, (tb "is_log").2]) := ⟨_, _, ok_hues (k := 0) ⟨⟨_, _, _, _, _, _, _, _, rfl, l1, c1⟩⟩ TB1 (by simp) { m_tuple := m_tuple, m_zip := m_zip, m_all := m_all, m_len := m_len }, g1, k1, b1⟩
  have C2 : Cal l.prog w K mg base 4 "is_broken" ["wish", "filling"] (spIsB [(tb "hues_at").2, (tb "clash").2, (tb "grown").2, (tb "has_its_draws").2, (tb "passes").2, (tb "standing").2, (tb "have_next").2, (tb "is_log").2]) := ⟨_, _, ok_isB (k := 0) F2 { c_hues_at := C1 }, g2, k2, b2⟩
  have C11 : Cal l.prog w K mg base 3 "standing" ["table", "taken"] (spSta [(tb "hues_at").2, (tb "clash").2, (tb "grown").2, (tb "has_its_draws").2, (tb "passes").2, (tb "standing").2, (tb "have_next").2, (tb "is_log").2]) := ⟨_, _, ok_sta (k := 0) ⟨⟨_, _, _, _, _, _, _, _, rfl, l11, c11⟩⟩ TB11 (by simp) { m_tuple := m_tuple, m_zip := m_zip, m_all := m_all, m_len := m_len }, g11, k11, b11⟩
  have C12 : Cal l.prog w K mg base 5 "first_broken" ["wishes", "order", "filling"] (spFib [(tb "hues_at").2, (tb "clash").2, (tb "grown").2, (tb "has_its_draws").2, (tb "passes").2, (tb "standing").2, (tb "have_next").2, (tb "is_log").2]) := ⟨_, _, ok_fib (k := 0) F12 { c_hues_at := C1, c_is_broken := C2 }, g12, k12, b12⟩
  have C13 : Cal l.prog w K mg base 2 "have_next" ["table", "taken", "places"] (spHnx [(tb "hues_at").2, (tb "clash").2, (tb "grown").2, (tb "has_its_draws").2, (tb "passes").2, (tb "standing").2, (tb "have_next").2, (tb "is_log").2]) := ⟨_, _, ok_hnx (k := 0) ⟨⟨_, _, _, _, _, _, _, _, rfl, l13, c13⟩⟩ TB13 (by simp) { m_tuple := m_tuple, m_zip := m_zip, m_all := m_all, m_len := m_len }, g13, k13, b13⟩
  have C14 : Cal l.prog w K mg base 6 "run" ["riddle", "table", "order"] (spRun [(tb "hues_at").2, (tb "clash").2, (tb "grown").2, (tb "has_its_draws").2, (tb "passes").2, (tb "standing").2, (tb "have_next").2, (tb "is_log").2]) := ⟨_, _, ok_run (k := 0) F14 { m_len := m_len, c_hues_at := C1, c_standing := C11, c_first_broken := C12, c_have_next := C13 }, g14, k14, b14⟩
  have C15 : Cal l.prog w K mg base 1 "is_mending" ["wishes", "pair"] spMnd := ⟨_, _, ok_mnd (k := 0) F15 { m_isinstance := m_isinstance, m_int := m_int, m_bool := m_bool, m_tuple := m_tuple, m_len := m_len, m_all := m_all }, g15, k15, b15⟩
  have C16 : Cal l.prog w K mg base 3 "is_log" ["riddle", "log"] (spIlg [(tb "hues_at").2, (tb "clash").2, (tb "grown").2, (tb "has_its_draws").2, (tb "passes").2, (tb "standing").2, (tb "have_next").2, (tb "is_log").2]) := ⟨_, _, ok_ilg (k := 0) ⟨⟨_, _, _, _, _, _, _, _, rfl, l16, c16⟩⟩ TB16 (by simp) { m_all := m_all, c_is_mending := C15 }, g16, k16, b16⟩
  have C17 : Cal l.prog w K mg base 4 "told_back" ["riddle", "filling", "log"] (spTol [(tb "hues_at").2, (tb "clash").2, (tb "grown").2, (tb "has_its_draws").2, (tb "passes").2, (tb "standing").2, (tb "have_next").2, (tb "is_log").2]) := ⟨_, _, ok_tol (k := 0) F17 { m_zip := m_zip, m_enumerate := m_enumerate, c_is_log := C16 }, g17, k17, b17⟩
  have C7 : Cal l.prog w K mg base 1 "had" ["wishes", "level"] spHad := ⟨_, _, ok_had (k := 0) F7, g7, k7, b7⟩
  have C8 : Cal l.prog w K mg base 2 "levels_of" ["wishes", "table", "tree"] spLvo := ⟨_, _, ok_lvo (k := 0) F8 { m_len := m_len, c_had := C7 }, g8, k8, b8⟩
  have C9 : Cal l.prog w K mg base 3 "has_its_draws" ["wish", "table", "deeper"] (spHid [(tb "hues_at").2, (tb "clash").2, (tb "grown").2, (tb "has_its_draws").2, (tb "passes").2, (tb "standing").2, (tb "have_next").2, (tb "is_log").2]) := ⟨_, _, ok_hid (k := 0) ⟨⟨_, _, _, _, _, _, _, _, rfl, l9, c9⟩⟩ TB9 (by simp) { m_tuple := m_tuple }, g9, k9, b9⟩
  have C10 : Cal l.prog w K mg base 5 "passes" ["riddle", "table", "tree"] (spPas [(tb "hues_at").2, (tb "clash").2, (tb "grown").2, (tb "has_its_draws").2, (tb "passes").2, (tb "standing").2, (tb "have_next").2, (tb "is_log").2]) := ⟨_, _, ok_pas (k := 0) ⟨⟨_, _, _, _, _, _, _, _, rfl, l10, c10⟩⟩ TB10 (by simp) { m_len := m_len, m_all := m_all, m_reversed := m_reversed, c_had := C7, c_levels_of := C8, c_has_its_draws := C9 }, g10, k10, b10⟩
  have C18 : Cal l.prog w K mg base 1 "_law_tape" ["script", "start"] (spTap K) := ⟨_, _, ok_tap (k := 0) F18 { m_len := m_len, m_abs := m_abs }, g18, k18, b18⟩
  have C19 : Cal l.prog w K mg base 1 "_law_digit" ["tape", "many"] spDig := ⟨_, _, ok_dig (k := 0) F19, g19, k19, b19⟩
  have C20 : Cal l.prog w K mg base 2 "_law_wish" ["tape", "many", "hues", "most"] spWis := ⟨_, _, ok_wis (k := 0) F20 { m_range := m_range, m_list := m_list, m_min := m_min, m_len := m_len, m_sorted := m_sorted, m_tuple := m_tuple, c__law_digit := C19 }, g20, k20, b20⟩
  have C21 : Cal l.prog w K mg base 2 "_law_sizes" ["tape", "small"] spSzs := ⟨_, _, ok_szs (k := 0) F21 { m_range := m_range, m_list := m_list, m_min := m_min, m_len := m_len, m_sorted := m_sorted, m_tuple := m_tuple, c__law_digit := C19 }, g21, k21, b21⟩
  have C22 : Cal l.prog w K mg base 3 "_law_riddle" ["tape", "small"] spRid := ⟨_, _, ok_rid (k := 0) F22 { m_range := m_range, m_list := m_list, m_min := m_min, m_len := m_len, m_sorted := m_sorted, m_tuple := m_tuple, c__law_digit := C19, c__law_wish := C20, c__law_sizes := C21 }, g22, k22, b22⟩
  have C23 : Cal l.prog w K mg base 2 "_law_table" ["tape", "riddle", "most"] spTab := ⟨_, _, ok_tab (k := 0) F23 { m_range := m_range, m_list := m_list, m_min := m_min, m_len := m_len, m_sorted := m_sorted, m_tuple := m_tuple, c__law_digit := C19 }, g23, k23, b23⟩
  have C24 : Cal l.prog w K mg base 2 "_law_order" ["tape", "many"] spOrd := ⟨_, _, ok_ord (k := 0) F24 { m_range := m_range, m_list := m_list, m_min := m_min, m_len := m_len, m_sorted := m_sorted, m_tuple := m_tuple, c__law_digit := C19 }, g24, k24, b24⟩
  have C25 : Cal l.prog w K mg base 21 "_law_plain" ["tree"] (spLpl 20) := ⟨_, _, ok_lpl F25 m_sorted m_tuple g25 k25 b25 20, g25, k25, b25⟩
  have C26 : Cal l.prog w K mg base 22 "_law_right" ["riddle", "table", "order"] (spR42 [(tb "hues_at").2, (tb "clash").2, (tb "grown").2, (tb "has_its_draws").2, (tb "passes").2, (tb "standing").2, (tb "have_next").2, (tb "is_log").2]) := ⟨_, _, ok_r42 (k := 0) F26 { m_range := m_range, m_min := m_min, m_len := m_len, c_run := C14, c_told_back := C17, c_why := C6, c_passes := C10, c__law_plain := C25 }, g26, k26, b26⟩
  have hTs : Tabs [(tb "hues_at").2, (tb "clash").2, (tb "grown").2, (tb "has_its_draws").2, (tb "passes").2, (tb "standing").2, (tb "have_next").2, (tb "is_log").2] H := fun P hP => by
    simp only [List.mem_cons, List.not_mem_nil, or_false] at hP
    rcases hP with rfl | rfl | rfl | rfl | rfl | rfl | rfl | rfl
    · exact ⟨#[], TH1, trivial⟩
    · exact ⟨#[], TH3, trivial⟩
    · exact ⟨#[], TH5, trivial⟩
    · exact ⟨#[], TH9, trivial⟩
    · exact ⟨#[], TH10, trivial⟩
    · exact ⟨#[], TH11, trivial⟩
    · exact ⟨#[], TH13, trivial⟩
    · exact ⟨#[], TH16, trivial⟩
  exact body_law (Ps := [(tb "hues_at").2, (tb "clash").2, (tb "grown").2, (tb "has_its_draws").2, (tb "passes").2, (tb "standing").2, (tb "have_next").2, (tb "is_log").2])  { m_range := m_range, m_max := m_max, m_min := m_min, m_len := m_len, c__law_tape := C18, c__law_digit := C19, c__law_riddle := C22, c__law_table := C23, c__law_order := C24, c__law_right := C26 } hl hTs hS hrm
end Rd

set_option Elab.async false
set_option linter.all false
set_option maxRecDepth 100000
set_option maxHeartbeats 4000000
open PySem PySem.W PyProof.Rows
set_option maxHeartbeats 0 in
theorem PySem.Challenge.cw_redraw_k42_whole_trees_of_runs_holds : PySem.Challenge.rw_redraw_k42_whole_trees_of_runs.Holds := by
  w_on; o_law; k_head; (case hw => w_witness2)
  k_fill
  refine Lg.walk_of (l := PySem.Challenge.rw_redraw_k42_whole_trees_of_runs) (n := 63) (k := 23) (x := "law") (qual := "law") (par := "script") (st := Rd.sLaw) (N := Rd.nLaw) ["hues_at", "clash", "grown", "has_its_draws", "passes", "standing", "have_next", "is_log"] rfl (by decide) rfl ⟨rfl, by decide, by decide⟩ (by rfl) ?hK (fun w h Y => PySem.W.kIn_of Y) Rd.scLaw ?F
  case hK => intro w; kernel_rfl
  case F =>
    intro w mg fa h tb KX G hmg ht
    refine' Rd.all_mk KX G hmg ht ?a1 ?l1 ?c1 ?k1 ?a2 ?l2 ?c2 ?k2 ?a3 ?l3 ?c3 ?k3 ?a4 ?l4 ?c4 ?k4 ?a5 ?l5 ?c5 ?k5 ?a6 ?l6 ?c6 ?k6 ?a7 ?l7 ?c7 ?k7 ?a8 ?l8 ?c8 ?k8 ?a9 ?l9 ?c9 ?k9 ?a10 ?l10 ?c10 ?k10 ?a11 ?l11 ?c11 ?k11 ?a12 ?l12 ?c12 ?k12 ?a13 ?l13 ?c13 ?k13 ?a14 ?l14 ?c14 ?k14 ?a15 ?l15 ?c15 ?k15 ?a16 ?l16 ?c16 ?k16 ?a17 ?l17 ?c17 ?k17 ?a18 ?l18 ?c18 ?k18 ?a19 ?l19 ?c19 ?k19 ?a20 ?l20 ?c20 ?k20 ?a21 ?l21 ?c21 ?k21 ?a22 ?l22 ?c22 ?k22 ?a23 ?l23 ?c23 ?k23 ?a24 ?l24 ?c24 ?k24 ?a25 ?l25 ?c25 ?k25 ?a26 ?l26 ?c26 ?k26 ?a27 ?l27 ?c27 ?k27 ?z_abs ?z_all ?z_any ?z_bool ?z_enumerate ?z_int ?z_isinstance ?z_len ?z_list ?z_max ?z_min ?z_range ?z_reversed ?z_sorted ?z_tuple ?z_zip
    (case a1 => k_is); (case l1 => k_is); (case c1 => k_is); (case k1 => k_is); (case a2 => k_is); (case l2 => k_is); (case c2 => k_is); (case k2 => k_is); (case a3 => k_is); (case l3 => k_is); (case c3 => k_is); (case k3 => k_is); (case a4 => k_is); (case l4 => k_is); (case c4 => k_is); (case k4 => k_is); (case a5 => k_is); (case l5 => k_is); (case c5 => k_is); (case k5 => k_is); (case a6 => k_is); (case l6 => k_is); (case c6 => k_is); (case k6 => k_is); (case a7 => k_is); (case l7 => k_is); (case c7 => k_is); (case k7 => k_is); (case a8 => k_is); (case l8 => k_is); (case c8 => k_is); (case k8 => k_is); (case a9 => k_is); (case l9 => k_is); (case c9 => k_is); (case k9 => k_is); (case a10 => k_is); (case l10 => k_is); (case c10 => k_is); (case k10 => k_is); (case a11 => k_is); (case l11 => k_is); (case c11 => k_is); (case k11 => k_is); (case a12 => k_is); (case l12 => k_is); (case c12 => k_is); (case k12 => k_is); (case a13 => k_is); (case l13 => k_is); (case c13 => k_is); (case k13 => k_is); (case a14 => k_is); (case l14 => k_is); (case c14 => k_is); (case k14 => k_is); (case a15 => k_is); (case l15 => k_is); (case c15 => k_is); (case k15 => k_is); (case a16 => k_is); (case l16 => k_is); (case c16 => k_is); (case k16 => k_is); (case a17 => k_is); (case l17 => k_is); (case c17 => k_is); (case k17 => k_is); (case a18 => k_is); (case l18 => k_is); (case c18 => k_is); (case k18 => k_is); (case a19 => k_is); (case l19 => k_is); (case c19 => k_is); (case k19 => k_is); (case a20 => k_is); (case l20 => k_is); (case c20 => k_is); (case k20 => k_is); (case a21 => k_is); (case l21 => k_is); (case c21 => k_is); (case k21 => k_is); (case a22 => k_is); (case l22 => k_is); (case c22 => k_is); (case k22 => k_is); (case a23 => k_is); (case l23 => k_is); (case c23 => k_is); (case k23 => k_is); (case a24 => k_is); (case l24 => k_is); (case c24 => k_is); (case k24 => k_is); (case a25 => k_is); (case l25 => k_is); (case c25 => k_is); (case k25 => k_is); (case a26 => k_is); (case l26 => k_is); (case c26 => k_is); (case k26 => k_is); (case a27 => k_is); (case l27 => k_is); (case c27 => k_is); (case k27 => k_is); (case z_abs => k_is); (case z_all => k_is); (case z_any => k_is); (case z_bool => k_is); (case z_enumerate => k_is); (case z_int => k_is); (case z_isinstance => k_is); (case z_len => k_is); (case z_list => k_is); (case z_max => k_is); (case z_min => k_is); (case z_range => k_is); (case z_reversed => k_is); (case z_sorted => k_is); (case z_tuple => k_is); (case z_zip => k_is)
