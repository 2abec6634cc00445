import PyProof.Rows.All
import Wide.All
import OpenK.AllK
import Wide.FinOn
import HandS.ForMost
import HandS.AnyAll
import PyProof.TupleOfGen
import PyProof.WalksMore
import HandS.Zip
import KE.GoesEnum
import HandS.Deep
import PyProof.Rows.RegFStrParts
import HandS.SortInts
import HandS.TupSets
import HandS.EndBits
import KE.KNest
import KE.DatumIndex
import HandS.GenList
import HandS.Wide
import HandS.Codes
import HandS.Conv
import HandS.TupAny
import KE.KIndexOf
import HandS.IsInst
import HandS.Style
import HandS.TupMul
import HandS.RaiseMore
import PySem.Challenge.RW_redraw_k34_weights_and_bounds_told
set_option Elab.async false
set_option linter.all false
set_option maxRecDepth 100000
set_option maxHeartbeats 4000000
/-! generator expressions over a list or a tuple whose element keeps the heap: tuple(..), all(..), any(..) -/
namespace Gv
open PySem PySem.Spec PyProof.Rows L2
/-- a list or a tuple of these -/
def Sq (K : PySem.W.Frag) (H : Hp) (a : Addr) (xs : List V) : Prop := SqL K H a xs ∨ SqT K H a xs
section
variable {X : Cx} {pins : List (Addr × Obj)} {σ : L2.St} {H : Hp} {s : Shared}
/-- iter(a): its items, and a walk over them that writes its own new cell alone -/
theorem iter_sq {a : Addr} {xs : List V} (I : Inv X pins σ H s) (h : Sq X.K H a xs) :
    ∃ its : List Value, Vals xs its ∧ xs.length ≤ sizeLine ∧ a < s.heap.objs.size ∧ ∀ (Q : Value → Shared → Prop) (E : Value → Shared → Prop),
      (∀ (o : Obj) (St : Nat → Heap → Prop), (∀ A' : Around, A'.handled = none → Walks X.prog X.w A' s.heap.objs.size [s.heap.objs.size, a] [s.heap.objs.size] its.length (fun i v => its[i]? = some v) St) → St 0 (s.heap.push o) →
        Q (.ref s.heap.objs.size) { s with heap := s.heap.push o }) → wpAny (model X.prog X.w) X.A (pyIter (.ref a)) Q E s := by
  rcases h with h | h
  · obtain ⟨its, rv, pl, hz⟩ := I.list h
    have hL := pl.isList
    have hlt : a < s.heap.objs.size := let ⟨_, e, _⟩ := hL; Heap.lt_size e
    refine ⟨its, rv, hz, hlt, fun Q E k => wpAny_pyIter_list hL (k _ (fun i h => h.IsListIter s.heap.objs.size a i ∧ h.IsList a its.toArray) (fun A' hA => ?_) ⟨⟨_, Heap.get?_push_size _ rfl, rfl, rfl⟩, ?_⟩)⟩
    · have W := Walks.list (prog := X.prog) (w := X.w) hA s.heap.objs.size a (Nat.ne_of_lt hlt) its.toArray
      simpa using W
    · obtain ⟨o, e, r⟩ := hL
      exact ⟨o, Heap.get?_push_of_some _ e, r⟩
  · obtain ⟨its, rv, pl, hz⟩ := I.tuple h
    have hlt : a < s.heap.objs.size := pl.lt
    refine ⟨its, rv, hz, hlt, fun Q E k => wpAny_pyIter_tuple (show s.heap.IsTuple a its.toArray from pl) (k _ (fun i h => h.IsTupleIter s.heap.objs.size a i ∧ h.IsTuple a its.toArray) (fun A' hA => ?_) ⟨⟨_, Heap.get?_push_size _ rfl, rfl, rfl⟩, ?_⟩)⟩
    · have W := Walks.tuple (prog := X.prog) (w := X.w) hA s.heap.objs.size a (Nat.ne_of_lt hlt) its.toArray
      simpa using W
    · exact pl.push _
/-- the element, of the item x0 the value y0, with all that stood kept -/
def EltV (X : Cx) (pins : List (Addr × Obj)) (σ : L2.St) (scope : Scope) (x : Str) (elt : Expr) (P : Addr) (H1 : Hp) (xs ys : List V) : Prop :=
  ∀ (s1 t : Shared) (C : Addr) (code : Value) (bi : Addr) (A' : Around) (E' : Value → Shared → Prop) (i : Nat) (x0 : V) (u : Value) (m : Str → Option Value),
    Inv X pins σ H1 s1 → A'.handled = none → A'.units ≤ X.A.units + 8 → xs[i]? = some x0 → RelV x0 u → t.heap.Ns C m → m x = some u → (∀ b o, b ≠ P → s1.heap.get? b = some o → t.heap.get? b = some o) →
    wpAny (model X.prog X.w) A' (eval elt (genEnv scope (cloFrom X.env.cells scope.names []) C code bi X.env)) (fun y t' => (∃ y0, ys[i]? = some y0 ∧ RelV y0 y) ∧ Keeps t t') E' t
/-- the generator at g, about to give out the values ys -/
def Ready (X : Cx) (pins : List (Addr × Obj)) (σ : L2.St) (H1 : Hp) (P : Addr) (ys : List V) (g : Addr) (s5 : Shared) : Prop :=
  ∃ (fp wr : List Addr) (G : Array GenState → Array GenState → Prop) (F : Nat → Value → Prop) (St : Nat → Shared → Prop),
    WalksS X.prog X.w X.A.in4 g fp wr G ys.length F St ∧ St 0 s5 ∧ (∀ b ∈ fp, b < s5.heap.objs.size) ∧ g ∈ fp ∧ (∀ i s9, St i s9 → s9.TypeIs (.ref g) "generator") ∧
    (∀ j v, F j v → ∃ y, ys[j]? = some y ∧ RelV y v) ∧ ∀ s', Moved wr G s5 s' → ∃ H2, GxR.Tabbed P H1 H2 ∧ Inv X pins σ H2 s'
theorem gen_sq {c P : Addr} {elt iter : Expr} {x : Str} {px gpos : Pos} {scope : Scope} {te : TE} {k : Nat} {Q' : Value → Shared → Prop} {R : List V → Hp → Prop}
    (hr : Room k X.A) (TB : GxR.TabB X.base X.mg c P) (hcode : X.env.code = .ref c) (S : GxR.GenS X.env scope x) (hi : PE X iter te) (hs : ∀ v, genFold iter X.env v = pure v) (I : Inv X pins σ H s)
    (h : te σ H fun v H1 => ∃ (a : Addr) (xs ys : List V), v = .ref a ∧ Sq X.K H1 a xs ∧ ys.length = xs.length ∧ (∀ pins, EltV X pins σ scope x elt P H1 xs ys) ∧ GxR.TabG H1 P ∧ R ys H1)
    (hQ : ∀ ys H1 g s5, ys.length ≤ sizeLine → R ys H1 → Ready X pins σ H1 P ys g s5 → Q' (.ref g) s5) :
    wpAny (model X.prog X.w) X.A (eval (.GeneratorExp elt [⟨.Name x px, iter, [], 0⟩] scope gpos) X.env) Q' X.xe s := by
  refine wpAny_GeneratorExp_walksQD hr.hd S.co (closure_ok S.free) S.cell S.dot S.loc S.kind (by have := hr.dp; omega) (thn (hi.run pins s σ H _ I h) fun xv s1 ⟨v, H1, I1, r1, q1⟩ => ?_) hs
  obtain ⟨a, xs, ys, rfl, hsq, hyl, hel, ⟨ps, hP, ht⟩, q1⟩ := q1
  cases (show xv = Value.ref a from r1)
  obtain ⟨its, rv, hz, hlt, go⟩ := iter_sq I1 hsq
  refine go _ _ fun o St W st0 => ⟨I1.nolimit.push o, ?_⟩
  have tabS : s1.heap.get? P = some { cls := .none, data := .fields ps } := I1.hok P _ hP
  have ltP : P < s1.heap.objs.size := Heap.lt_size tabS
  have tab2 : (s1.heap.push o).get? P = some { cls := .none, data := .fields ps } := Heap.get?_push_of_some _ tabS
  have hd : PySem.W.CodeHd (s1.heap.push o) c P := TB.code.keeps fun b u e => Heap.get?_push_of_some _ (I1.bk b u e)
  have neI : s1.heap.objs.size ≠ P := fun z => Nat.lt_irrefl _ (z ▸ ltP)
  -- the code object of the expression, its table perhaps longer behind it
  have key : ∀ (REST : Value → Shared → Prop), (∀ (cv : Value) (h3 : Heap) (tk : Nat) (more : Array Value), Heap.ExtBut P (s1.heap.push o) h3 → (s1.heap.push o).objs.size ≤ h3.objs.size → h3.get? P = some { cls := .none, data := .fields (ps ++ more) } → TriplesOk (ps ++ more).toList → REST cv { s1 with heap := h3, toks := tk }) →
      wpAny (model X.prog X.w) X.A (genexprCode X.env gpos (X.env.qual ++ "<genexpr>") scope) REST X.xe { s1 with heap := s1.heap.push o } := fun REST fin => by
    cases hf : codeAmong gpos ps.toList with
    | some cv =>
      have e : ps = ps ++ #[] := by simp
      exact wpAny_genexprCode_hit hcode (hd.code tab2 ht) hf (fin cv _ s1.toks #[] (Heap.ExtBut.refl _ _) (Nat.le_refl _) (e ▸ tab2) (e ▸ ht))
    | none =>
      refine wpAny_genexprCodeX hcode (hd.code tab2 ht) (hd.tab tab2) hf fun c' h3 tk ex ge lt ic _ ta _ => ?_
      obtain ⟨_, _, _, _, _, _, _, _, _, _, _, _, _, _, _, _, _, _, _, tr, _⟩ := ic
      exact fin _ h3 tk _ ex (Nat.le_trans ge (Nat.le_of_lt lt)) ta.2 tr
  refine key _ fun cv h3 tk more ex ge tab3 tr3 => ?_
  obtain ⟨bm, ob, b1, b2, b3, b4, b5, b6, b7, b8⟩ := TB.bm
  have up : ∀ b u, b ≠ P → s1.heap.get? b = some u → h3.get? b = some u := fun b u n e => ex b u n (Heap.get?_push_of_some _ e)
  have sz : s1.heap.objs.size + 1 ≤ h3.objs.size := by rw [← Heap.size_push s1.heap o]; exact ge
  have nlS : cStatics ≠ P ∧ cStatics < s1.heap.objs.size := by
    obtain ⟨_, ns, _⟩ := I1.nolimit
    refine ⟨fun z => ?_, ns.lt⟩
    obtain ⟨o', es, ep, ho, hdd, _⟩ := ns
    rw [z, tabS] at ho
    cases ho
    cases hdd
  refine wpAny_builtinsFor (m := X.mg) (by rw [I1.ok.glob]; exact ((I1.mod.glob.keeps I1.bk).push o).extBut ex TB.gP) b1 b2 (up _ _ b4 (I1.bk _ _ b5)) b6 b7 b8 ?_
  refine ⟨s1.heap.objs.size, [s1.heap.objs.size, a], [s1.heap.objs.size], its.length, (fun i v => its[i]? = some v), St, (fun _ => true), (fun i y => ∃ y0, ys[i]? = some y0 ∧ RelV y0 y), rfl, W, ?_, ?_, (I1.nolimit.push o).extBut ex nlS.1, ?_, ?_, ?_⟩
  · refine (W X.A hr.hd).frame _ _ _ st0 fun b hb u e => ex b u (fun z => ?_) e
    rcases List.mem_cons.mp hb with q | q
    · exact neI (q.symm.trans z)
    · have q2 : b = a := by simpa using q
      exact absurd (q2.symm.trans z) (by
        intro az
        rcases hsq with hh | hh
        · obtain ⟨its', _, pl, _⟩ := I1.list hh
          obtain ⟨oo, _, e1, _, _, d1⟩ := pl
          rw [az, tabS] at e1
          cases e1
          cases d1
        · obtain ⟨its', _, pl, _⟩ := I1.tuple hh
          obtain ⟨oo, e1, _, _, d1⟩ := pl
          rw [az, tabS] at e1
          cases e1
          cases d1)
  · intro b hb
    show b < h3.objs.size
    rcases List.mem_cons.mp hb with q | q
    · rw [q]; exact Nat.lt_of_succ_le sz
    · have q2 : b = a := by simpa using q
      rw [q2]; exact Nat.lt_of_lt_of_le hlt (Nat.le_of_succ_le sz)
  · intro z
    have z2 : cStatics = s1.heap.objs.size := by simpa using z
    exact Nat.ne_of_lt nlS.2 z2
  · intro href hk
    refine ⟨fun A' E' i v t m hA _ _ hv hn hm hkp => ?_, fun A' E' i v t m hA _ hU hv _ hn hm hkp => ?_⟩
    · simp only [List.forIn_nil]
      exact wpAny_pure ⟨rfl, GxR.keeps_refl _⟩
    · have li : i < xs.length := by rw [rv.length]; exact (List.getElem?_eq_some_iff.mp hv).1
      obtain ⟨u, hu, ru⟩ := rv.get (List.getElem?_eq_getElem li)
      rw [hv] at hu
      cases hu
      refine wpAny_mono (hel pins s1 t _ cv _ A' E' i _ v m I1 hA hU (List.getElem?_eq_getElem li) ru hn hm fun b u n e => ?_) (fun y t' r => r) fun _ _ e => e
      have e3 := up b u n e
      refine hkp b (List.mem_range.mpr (Heap.lt_size e3)) (fun z => ?_) u (hk b u e3)
      have z2 : b = s1.heap.objs.size := by simpa using z
      exact Nat.lt_irrefl _ (z2 ▸ Heap.lt_size e)
  · intro g h5 tk5 gs hgb hag hsz5 hk5 W5 hat
    have el : its.length = ys.length := by rw [hyl, ← rv.length]
    simp only [GxR.passing_true, List.length_range, el] at W5 hat
    refine hQ ys H1 g _ (by rw [hyl]; exact hz) q1 ⟨_, _, _, _, _, W5, hat, ?_, List.mem_cons_self, fun i s9 st => st.1.typeIs, ?_, fun s' mv => ?_⟩
    · intro b hb
      show b < h5.objs.size
      rw [hsz5]
      rcases List.mem_cons.mp hb with q | q
      · rw [q]; exact Nat.lt_succ_self _
      · rcases List.mem_cons.mp q with q | q
        · rw [q]; exact Nat.lt_succ_of_lt hag
        · exact Nat.lt_succ_of_lt (Nat.lt_trans (List.mem_range.mp q) hag)
    · intro j v hv
      obtain ⟨i, hij, y0, hy, r⟩ := hv
      obtain ⟨hj, ej⟩ := List.getElem?_eq_some_iff.mp hij
      rw [List.getElem_range] at ej
      subst ej
      exact ⟨y0, hy, r⟩
    · have out : ∀ b u, s1.heap.get? b = some u → b ∉ h3.objs.size :: [s1.heap.objs.size] := fun b u e hb => by
        have l := Heap.lt_size e
        rcases List.mem_cons.mp hb with q | q
        · rw [q] at l
          exact absurd l (Nat.not_lt.mpr (Nat.le_of_succ_le sz))
        · have q2 : b = s1.heap.objs.size := by simpa using q
          exact Nat.lt_irrefl _ (q2 ▸ l)
      have J := GxR.inv_tab (more := more) (h' := s'.heap) (g' := s'.gens) (d' := s'.drawn) (t' := s'.toks) I1 hP (fun b u n e => mv.heap b u (out b u e) (hk5 b u (up b u n e))) (mv.heap P _ (out P _ tabS) (hk5 P _ tab3)) (AllBare.movedS (I1.bare.push hgb) mv)
      rw [GxR.sh_eta s1 s' mv.os] at J
      exact ⟨_, ⟨⟨ps ++ more, upd_same, tr3⟩, fun b hb => upd_ne hb⟩, J⟩
/-- tuple(elt for x in e) -/
def tTupG (X : Cx) (scope : Scope) (x : Str) (elt : Expr) (P : Addr) (te : TE) : TE := fun σ H Q => te σ H fun v H1 => ∃ (a : Addr) (xs ys : List V), v = .ref a ∧ Sq X.K H1 a xs ∧ ys.length = xs.length ∧ (∀ pins, EltV X pins σ scope x elt P H1 xs ys) ∧ GxR.TabG H1 P ∧
  ∀ H2, GxR.Tabbed P H1 H2 → ∀ p, H2 p = none → Q (.ref p) (upd H2 p (.tup ys))
theorem items_vals {ys : List V} {F : Nat → Value → Prop} {acc : Array Value} {n : Nat} (hn : ys.length = n) (hF : ∀ j v, F j v → ∃ y, ys[j]? = some y ∧ RelV y v) (h : ItemsOf F acc n) : Vals ys acc.toList := by
  have gen : ∀ (l : List Value) (zs : List V), zs.length = l.length → (∀ (j : Nat) (v : Value), l[j]? = some v → ∃ y, zs[j]? = some y ∧ RelV y v) → Vals zs l := by
    intro l
    induction l with
    | nil => intro zs e _; cases zs with
      | nil => exact .nil
      | cons z r => cases e
    | cons v r ih => intro zs e k; cases zs with
      | nil => cases e
      | cons z q =>
        obtain ⟨y, hy, ry⟩ := k 0 v rfl
        cases hy
        exact .cons ry (ih q (by simpa using e) fun j v hv => k (j + 1) v hv)
  refine gen acc.toList ys (by rw [hn, ← h.1]; simp) fun j v hv => hF j v (h.2 j v (by simpa using hv))
theorem pe_tupG {c P : Addr} {elt iter : Expr} {x : Str} {px p pos gpos : Pos} {scope : Scope} {te : TE} {k : Nat}
    (hr : Room k X.A) (hg : Gl X "tuple") (hm : X.mg "tuple" = none) (TB : GxR.TabB X.base X.mg c P) (hcode : X.env.code = .ref c) (S : GxR.GenS X.env scope x) (hi : PE X iter te) (hs : ∀ v, genFold iter X.env v = pure v)
    (he : starEach [.GeneratorExp elt [⟨.Name x px, iter, [], 0⟩] scope gpos] X.env = (false, eval (.GeneratorExp elt [⟨.Name x px, iter, [], 0⟩] scope gpos) X.env) :: starEach [] X.env := by rfl) :
    PE X (.Call (.Name "tuple" p) [.GeneratorExp elt [⟨.Name x px, iter, [], 0⟩] scope gpos] [] pos) (tTupG X scope x elt P te) := by
  refine ⟨fun pins s σ H Q I h => ?_⟩
  refine wpAny_Call_Name_kw (ld_blt I hg hm boot_tuple (PyProof.Rows.callWith_type1 ?_ he (by rfl)))
  rw [he]
  show wpAny _ _ (spliced ((false, _) :: backTo pos (starEach [] X.env))) _ _ s
  unfold tTupG at h
  refine Calls.spliced_cons (gen_sq (te := te) (R := fun ys H1 => ∀ H2, GxR.Tabbed P H1 H2 → ∀ p, H2 p = none → Q (.ref p) (upd H2 p (.tup ys))) hr TB hcode S hi hs I (H := H) h fun ys H1 g s5 hz hR hG => ?_)
  · obtain ⟨fp, wr, G, F, St, W, st, hfp, hgf, hty, hF, hI⟩ := hG
    refine Calls.spliced_nil (call_tuple_gen W.in4_3 hty st hfp hgf (fun s' acc mv ia => ?_) hz)
    obtain ⟨H2, hT, J⟩ := hI s' mv
    have rv := items_vals rfl hF ia
    refine ⟨.ref s'.heap.objs.size, _, J.laid (t' := s'.toks) (o := .tup ys) (fun b u e => Heap.get?_push_of_some _ e) (Nat.le_refl _) ⟨hz, acc.toList, rv, ?_⟩, rfl, hR H2 hT _ (J.hok.fresh (Nat.le_refl _))⟩
    have z := IsTup.new s'.heap acc
    simpa using z
/-- all(elt for x in e), any(elt for x in e), the element True or False -/
def tAllG (X : Cx) (scope : Scope) (x : Str) (elt : Expr) (P : Addr) (te : TE) : TE := fun σ H Q => te σ H fun v H1 => ∃ (a : Addr) (xs ys : List V), v = .ref a ∧ Sq X.K H1 a xs ∧ ys.length = xs.length ∧ (∀ pins, EltV X pins σ scope x elt P H1 xs ys) ∧ GxR.TabG H1 P ∧
  ∃ bs : List Bool, ys = bs.map V.bl ∧ ∀ H2, GxR.Tabbed P H1 H2 → Q (.bl (bs.all id)) H2
def tAnyG (X : Cx) (scope : Scope) (x : Str) (elt : Expr) (P : Addr) (te : TE) : TE := fun σ H Q => te σ H fun v H1 => ∃ (a : Addr) (xs ys : List V), v = .ref a ∧ Sq X.K H1 a xs ∧ ys.length = xs.length ∧ (∀ pins, EltV X pins σ scope x elt P H1 xs ys) ∧ GxR.TabG H1 P ∧
  ∃ bs : List Bool, ys = bs.map V.bl ∧ ∀ H2, GxR.Tabbed P H1 H2 → Q (.bl (bs.any id)) H2
theorem truth_bls {A : Around} {bs : List Bool} {F : Nat → Value → Prop} (hF : ∀ j v, F j v → ∃ y, (bs.map V.bl)[j]? = some y ∧ RelV y v) : TruthOf X.prog X.w A F (fun j => bs.getD j false) := by
  intro j v t Q E hv hq
  obtain ⟨y, hy, r⟩ := hF j v hv
  rw [List.getElem?_map] at hy
  cases e : bs[j]? with
  | none => rw [e] at hy; cases hy
  | some b =>
    rw [e] at hy
    cases hy
    cases (show v = Value.bool b from r)
    have e2 : bs.getD j false = b := by rw [List.getD_eq_getElem?_getD, e]; rfl
    exact wpAny_truthy_bool (by rw [← e2]; exact hq)
theorem all_range (bs : List Bool) : (List.range bs.length).all (fun j => bs.getD j false) = bs.all id := by
  rw [Bool.eq_iff_iff, List.all_eq_true, List.all_eq_true]
  constructor
  · intro h b hb
    obtain ⟨j, hj, e⟩ := List.getElem_of_mem hb
    have q := h j (List.mem_range.mpr hj)
    rw [List.getD_eq_getElem?_getD, List.getElem?_eq_getElem hj, e] at q
    exact q
  · intro h j hj
    have hj' := List.mem_range.mp hj
    rw [List.getD_eq_getElem?_getD, List.getElem?_eq_getElem hj']
    exact h _ (List.getElem_mem hj')
theorem any_range (bs : List Bool) : (List.range bs.length).any (fun j => bs.getD j false) = bs.any id := by
  rw [Bool.eq_iff_iff, List.any_eq_true, List.any_eq_true]
  constructor
  · intro ⟨j, hj, q⟩
    have hj' := List.mem_range.mp hj
    rw [List.getD_eq_getElem?_getD, List.getElem?_eq_getElem hj'] at q
    exact ⟨_, List.getElem_mem hj', q⟩
  · intro ⟨b, hb, q⟩
    obtain ⟨j, hj, e⟩ := List.getElem_of_mem hb
    refine ⟨j, List.mem_range.mpr hj, ?_⟩
    rw [List.getD_eq_getElem?_getD, List.getElem?_eq_getElem hj, e]
    exact q
theorem pe_allG {c P : Addr} {elt iter : Expr} {x : Str} {px p pos gpos : Pos} {scope : Scope} {te : TE} {k : Nat}
    (hr : Room k X.A) (hg : Gl X "all") (hm : X.mg "all" = none) (TB : GxR.TabB X.base X.mg c P) (hcode : X.env.code = .ref c) (S : GxR.GenS X.env scope x) (hi : PE X iter te) (hs : ∀ v, genFold iter X.env v = pure v)
    (he : starEach [.GeneratorExp elt [⟨.Name x px, iter, [], 0⟩] scope gpos] X.env = (false, eval (.GeneratorExp elt [⟨.Name x px, iter, [], 0⟩] scope gpos) X.env) :: starEach [] X.env := by rfl) :
    PE X (.Call (.Name "all" p) [.GeneratorExp elt [⟨.Name x px, iter, [], 0⟩] scope gpos] [] pos) (tAllG X scope x elt P te) := by
  refine ⟨fun pins s σ H Q I h => ?_⟩
  refine wpAny_Call_Name_kw (ld_blt I hg hm boot_all (PyProof.Rows.callWith_builtin1 ?_ he (by rfl)))
  rw [he]
  show wpAny _ _ (spliced ((false, _) :: backTo pos (starEach [] X.env))) _ _ s
  unfold tAllG at h
  refine Calls.spliced_cons (gen_sq (te := te) (R := fun ys H1 => ∃ bs : List Bool, ys = bs.map V.bl ∧ ∀ H2, GxR.Tabbed P H1 H2 → Q (.bl (bs.all id)) H2) hr TB hcode S hi hs I (H := H) h fun ys H1 g s5 hz hR hG => ?_)
  obtain ⟨bs, rfl, hR⟩ := hR
  obtain ⟨fp, wr, G, F, St, W, st, hfp, hgf, hty, hF, hI⟩ := hG
  refine Calls.spliced_nil (call_all_walkS (W.in4_1.self 0 _ _ _ st ⟨g, fp, wr, G, _, F, St, _, rfl, W.in4_1, st, truth_bls hF, fun s' mv => ?_⟩))
  obtain ⟨H2, hT, J⟩ := hI s' mv
  refine ⟨.bl _, H2, J, rfl, ?_⟩
  rw [List.length_map, all_range]
  exact hR H2 hT
theorem pe_anyG {c P : Addr} {elt iter : Expr} {x : Str} {px p pos gpos : Pos} {scope : Scope} {te : TE} {k : Nat}
    (hr : Room k X.A) (hg : Gl X "any") (hm : X.mg "any" = none) (TB : GxR.TabB X.base X.mg c P) (hcode : X.env.code = .ref c) (S : GxR.GenS X.env scope x) (hi : PE X iter te) (hs : ∀ v, genFold iter X.env v = pure v)
    (he : starEach [.GeneratorExp elt [⟨.Name x px, iter, [], 0⟩] scope gpos] X.env = (false, eval (.GeneratorExp elt [⟨.Name x px, iter, [], 0⟩] scope gpos) X.env) :: starEach [] X.env := by rfl) :
    PE X (.Call (.Name "any" p) [.GeneratorExp elt [⟨.Name x px, iter, [], 0⟩] scope gpos] [] pos) (tAnyG X scope x elt P te) := by
  refine ⟨fun pins s σ H Q I h => ?_⟩
  refine wpAny_Call_Name_kw (ld_blt I hg hm boot_any (PyProof.Rows.callWith_builtin1 ?_ he (by rfl)))
  rw [he]
  show wpAny _ _ (spliced ((false, _) :: backTo pos (starEach [] X.env))) _ _ s
  unfold tAnyG at h
  refine Calls.spliced_cons (gen_sq (te := te) (R := fun ys H1 => ∃ bs : List Bool, ys = bs.map V.bl ∧ ∀ H2, GxR.Tabbed P H1 H2 → Q (.bl (bs.any id)) H2) hr TB hcode S hi hs I (H := H) h fun ys H1 g s5 hz hR hG => ?_)
  obtain ⟨bs, rfl, hR⟩ := hR
  obtain ⟨fp, wr, G, F, St, W, st, hfp, hgf, hty, hF, hI⟩ := hG
  refine Calls.spliced_nil (call_any_walkS (W.in4_1.self 0 _ _ _ st ⟨g, fp, wr, G, _, F, St, _, rfl, W.in4_1, st, truth_bls hF, fun s' mv => ?_⟩))
  obtain ⟨H2, hT, J⟩ := hI s' mv
  refine ⟨.bl _, H2, J, rfl, ?_⟩
  rw [List.length_map, any_range]
  exact hR H2 hT
/-- an element f[x]: f a captured name of a tuple, x the walk's own -/
theorem elt_item {f x : Str} {scope : Scope} {P fa : Addr} {H1 : Hp} {xs ys zs : List V} {j : Nat} {p1 p2 p3 : Pos} (hk : scope.kind = .function) (hx : scope.names.lookup x = some .local) (hf : scope.names.lookup f = some .free)
    (hcl : (cloFrom X.env.cells scope.names []).lookup f = some ((X.env.cells.lookup f).getD 0)) (hj : X.N[j]? = some f) (hkf : X.env.kindOf f = some .cell) (hσ : σ[j]? = some (some (.ref fa))) (hq : SqT X.K H1 fa zs) (hT : GxR.TabG H1 P)
    (hv : ∀ (i : Nat) x0, xs[i]? = some x0 → ∃ (n : Int) (y : V), x0 = .int n ∧ atI zs n = some y ∧ ys[i]? = some y) (hdf : (f == ("__debug__" : Str)) = false := by decide) (hdx : (x == ("__debug__" : Str)) = false := by decide) (hcf : (f == ("__classdict__" : Str)) = false := by decide) :
    EltV X pins σ scope x (.Subscript (.Name f p1) (.Name x p2) p3) P H1 xs ys := by
  intro s1 t C code bi A' E' i x0 u m I hA hU hx0 ru hn hm hkp
  obtain ⟨n, y, rfl, hat, hy⟩ := hv i x0 hx0
  obtain ⟨tk, rfl⟩ := (show ∃ t, u = Value.int n t from ru)
  obtain ⟨ps, hP, _⟩ := hT
  have tabS : s1.heap.get? P = some { cls := .none, data := .fields ps } := I.hok P _ hP
  obtain ⟨m1, _, hl⟩ := I.loc
  obtain ⟨uf, rf, lk⟩ := hl j f _ hj hσ (.inr (.inl hkf))
  cases (show uf = Value.ref fa from rf)
  obtain ⟨c, hc, ic⟩ : ∃ c, X.env.cells.lookup f = some c ∧ s1.heap.IsCell c (some (.ref fa)) := by
    rcases lk with ⟨z, _⟩ | ⟨_, c, hc, ic⟩
    · rw [hkf] at z; cases z
    · exact ⟨c, hc, ic⟩
  have ic2 : t.heap.IsCell c (some (.ref fa)) := by
    obtain ⟨o, ho, hd⟩ := ic
    refine ⟨o, hkp c o (fun z => ?_) ho, hd⟩
    rw [z, tabS] at ho
    cases ho
    cases hd
  obtain ⟨its, rv, pl, hz⟩ := I.tuple hq
  have pl2 : IsTup t.heap fa its.toArray := by
    obtain ⟨o, ho, hcl', nn, hd⟩ := pl
    refine ⟨o, hkp fa o (fun z => ?_) ho, hcl', nn, hd⟩
    rw [z, tabS] at ho
    cases ho
    cases hd
  obtain ⟨jj, h1, h2, h3, h4, h5⟩ := atI_get hat
  obtain ⟨wv, ew, rw'⟩ := rv.get h2
  have hlen := rv.length
  have hn63 := line63
  have clf : (genEnv scope (cloFrom X.env.cells scope.names []) C code bi X.env).cells.lookup f = some c := by
    show (cloFrom X.env.cells scope.names []).lookup f = some c
    rw [hcl, hc]
    rfl
  refine Subscript_ (wpAny_Name (wpAny_loadName_free hk hf clf ic2 (wpAny_Name (wpAny_loadName_local hk hx hn hm ?_) hdx) hcf) hdf)
  exact subscriptTail_builtinR (x := wv) pl2.typeIs slot_tuple_getitem.lookup
    (getItem_tuple (j := jj) (Q := fun r s' => r = wv ∧ ((∃ y0, ys[i]? = some y0 ∧ RelV y0 r) ∧ Keeps t s')) pl2 (by omega) (by omega) (by rw [List.size_toArray, ← hlen]; exact h1) (by simpa using ew) ⟨rfl, ⟨y, hy, rw'⟩, GxR.keeps_refl _⟩) (by rfl)
end
end Gv

set_option Elab.async false
set_option linter.all false
set_option maxRecDepth 100000
set_option maxHeartbeats 4000000
/-! enumerate(t), t a tuple -/
namespace Et
open PySem PySem.Spec PyProof.Rows L2
theorem meets_one {v : Value} {o : Obj} {B : Heap → Prop} (hB : Begins v o B) :
    Meets (Builtin.«enumerate.__new__» ⟨[.type "enumerate", v], []⟩) (fun _ R s => B s.heap ∧
      R (.ok (.ret (.ref (s.heap.push o).objs.size))) { s with heap := (s.heap.push o).push { cls := .type "enumerate", data := .fields #[.none, .bool false, .ref s.heap.objs.size, rawInt 0, .none, .none] } }) :=
  .of_wp fun prog w A R s h => by
    obtain ⟨hp, g, d, tk, os⟩ := s
    obtain ⟨hb, h⟩ := h
    have hsub := sub_enumerate
    have begin1 : ∀ {A1 : Around} {E1 : Value → Shared → Prop} {Q1 : Value → Shared → Prop}, Q1 (.ref hp.objs.size) ⟨hp.push o, g, d, tk, os⟩ → wpAny (model prog w) A1 (pyIter v) Q1 E1 ⟨hp, g, d, tk, os⟩ := fun q => hB.iter prog w _ _ ⟨hp, g, d, tk, os⟩ _ hb q
    wp_walk using begin1
    refine wpAny_stack_any fun stk => wpAny_pure ?_
    split
    next c _ _ _ _ _ =>
      cases (c == Value.type "enumerate") <;> (wp_walk using begin1; exact ⟨_, rfl, h⟩)
    next => wp_walk using begin1; exact ⟨_, rfl, h⟩
theorem make {prog : Program} {w : World} {A : Around} {E : Value → Shared → Prop} {s : Shared} {v : Value} {o : Obj} {B : Heap → Prop} {Q : Value → Shared → Prop} (hB : Begins v o B) (hb : B s.heap)
    (k : ∀ h', IsEnum h' (s.heap.objs.size + 1) s.heap.objs.size 0 .none → h'.get? s.heap.objs.size = some o → (∀ b o, s.heap.get? b = some o → h'.get? b = some o) → Q (.ref (s.heap.objs.size + 1)) { s with heap := h' }) :
    wpAny (model prog w) A (call (.type "enumerate") [v]) Q E s := by
  refine callType_new F.called_enumerate (by decide) (F.typeCall_enumerate_1 _) (F.newCall_enumerate_1 _) (fun obj => F.args_object_init_2 obj _) F.entry_enumerate_new (meets_one hB) ⟨hb, ?_⟩
  have z : (s.heap.push o).objs.size = s.heap.objs.size + 1 := Heap.size_push ..
  generalize hn : ({ cls := .type "enumerate", data := .fields #[.none, .bool false, .ref s.heap.objs.size, rawInt 0, .none, .none] } : Obj) = en
  have e : ((s.heap.push o).push en).get? (s.heap.objs.size + 1) = some en := by
    have q := Heap.get?_push_size (s.heap.push o) (o := en) (by rw [← hn]; rfl)
    rw [z] at q
    exact q
  have ie : IsEnum ((s.heap.push o).push en) (s.heap.objs.size + 1) s.heap.objs.size 0 .none := by
    subst hn
    exact e
  show _ ∧ _
  rw [z]
  exact ⟨⟨_, e, by rw [← hn]⟩, k _ ie (Heap.get?_push_of_some _ (Heap.get?_push_size _ hB.free)) fun b u x => Heap.get?_push_of_some _ (Heap.get?_push_of_some _ x)⟩
/-- the tuple at a walked with its places -/
def ItE (K : PySem.W.Frag) (a : Addr) : It :=
  ⟨fun i H => ∃ (xs : List V) (x : V), SqT K H a xs ∧ xs[i]? = some x, fun i H v H' => ∃ T x, v = .ref T ∧ H T = none ∧ H' = upd H T (.tup [.int (i : Nat), x]) ∧ ∀ xs, SqT K H a xs → xs[i]? = some x,
    fun i H => ∃ xs : List V, SqT K H a xs ∧ xs.length = i⟩
theorem turn {P : Program} {w : World} {K : PySem.W.Frag} {elts : List Expr} {kk : Nat} {tpos : Pos} (a e it : Addr) (hei : e ≠ it) :
    Turn P w K (.Tuple elts kk tpos) (ItE K a) [e, it] e (fun i h => (∃ old, IsEnum h e it ((i : Nat) : Int) old) ∧ h.IsTupleIter it a i) where
  mem := List.mem_cons_self
  obj := fun i h st b hb => by
    obtain ⟨⟨old, he⟩, o, ho, _, hd⟩ := st
    rcases List.mem_cons.mp hb with z | z
    · rw [z]; exact ⟨_, he, fun v q => nomatch q⟩
    · rw [List.mem_singleton.mp z]; exact ⟨o, ho, fun v q => by rw [hd] at q; cases q⟩
  keep := fun i h h' st k => ⟨let ⟨old, he⟩ := st.1; ⟨old, k e (by simp) _ he⟩, st.2.at fun o q => k it (by simp) o q⟩
  item := by
    intro X hP hw hK hc i pins s σ H E I hf st hg
    subst hP hw hK
    obtain ⟨⟨old, he⟩, hit⟩ := st
    obtain ⟨xs, x, hq, hx⟩ := hg
    obtain ⟨its, rv, pl, hz⟩ := I.tuple hq
    obtain ⟨u, hu, ru⟩ := rv.get hx
    have le : e < s.heap.objs.size := Heap.lt_size he
    have li : it < s.heap.objs.size := by obtain ⟨_, q, _⟩ := hit; exact Heap.lt_size q
    have nai : a ≠ it := fun z => by
      obtain ⟨o, q, hcl, _⟩ := hit
      obtain ⟨o2, q2, hcl2, _⟩ := pl
      rw [z, q] at q2
      cases q2
      rw [hcl] at hcl2
      exact absurd (Value.type.inj hcl2) (by decide)
    have nea : e ≠ a := fun z => by
      obtain ⟨o2, q2, hcl2, _⟩ := pl
      rw [← z] at q2
      have q3 := Option.some.inj (he.symm.trans q2)
      rw [← q3] at hcl2
      exact absurd (Value.type.inj hcl2) (by decide)
    have D := Draws.tuple (prog := X.prog) (w := X.w) (A := X.A.in1) (I.ok.hd hc) it a nai its.toArray
    have hlt : i < its.toArray.size := by simpa using (List.getElem?_eq_some_iff.mp hu).1
    refine wpAny_pyNext_enum_itemD D he ⟨hit, pl⟩ hlt hei (by simp [hei, nea]) fun y h' tk hy ho st' hT hsz hk => ?_
    obtain rfl : y = u := by
      have q : its[i]? = some y := by simpa using hy
      exact Option.some.inj (q.symm.trans hu)
    refine ⟨_, rfl, wpAny_letOwnedTupleGo_enum (s := { s with heap := h', toks := tk + 1 }) ho fun h'' he' sb => ?_⟩
    have tT : h''.get? s.heap.objs.size = some { cls := .type "tuple", data := .seq #[.int i tk, y] } := (sb.2 _ (Nat.ne_of_gt le)).trans hT
    have J : Inv X pins σ (upd H s.heap.objs.size (.tup [.int (i : Nat), x])) { s with heap := h'', toks := tk + 1 } :=
      I.turnedNew (ch := [e, it]) (fun b ob nb q => (sb.2 b (fun z => nb (by simp [z]))).trans (hk b ob (fun z => nb (by simp [z])) (fun z => nb (by simp [z])) q)) hf (Nat.le_refl _)
        ⟨by show 2 ≤ sizeLine; decide, [.int i tk, y], .cons ⟨_, rfl⟩ (.cons ru .nil), ⟨_, tT, rfl, _, rfl⟩⟩
    refine ⟨.ref s.heap.objs.size, _, J, rfl, ⟨_, x, rfl, I.hok.fresh (Nat.le_refl _), rfl, fun ys hy => by rw [I.tuple_inj hy hq]; exact hx⟩, ⟨⟨y, ?_⟩, st'.1.at fun o q => (sb.2 it (Ne.symm hei)).trans q⟩, fun b hb => ?_⟩
    · have c1 : ((i + 1 : Nat) : Int) = (i : Int) + 1 := by omega
      rw [c1]; exact he'
    · have lb : b < s.heap.objs.size := by
        rcases List.mem_cons.mp hb with z | z
        · rw [z]; exact le
        · rw [List.mem_singleton.mp z]; exact li
      rw [upd_ne (Nat.ne_of_lt lb)]
      exact (hf b hb).1
  done := by
    intro X hP hw hK hc i pins s σ H E I hf st hg
    subst hP hw hK
    obtain ⟨⟨old, he⟩, hit⟩ := st
    obtain ⟨xs, hq, hx⟩ := hg
    obtain ⟨its, rv, pl, hz⟩ := I.tuple hq
    obtain ⟨f0, f1, f2, f3, f4, f5⟩ := hf it (by simp)
    have hl := rv.length
    have nai : a ≠ it := fun z => by
      obtain ⟨o, q, hcl, _⟩ := hit
      obtain ⟨o2, q2, hcl2, _⟩ := pl
      rw [z, q] at q2
      cases q2
      rw [hcl] at hcl2
      exact absurd (Value.type.inj hcl2) (by decide)
    have D := Draws.tuple (prog := X.prog) (w := X.w) (A := X.A.in1) (I.ok.hd hc) it a nai its.toArray
    have en : i = its.toArray.size := by rw [List.size_toArray, ← hl, hx]
    exact wpAny_pyNext_enum_endD D he (by rw [← en]; exact ⟨hit, pl⟩) fun h' eb => ⟨rfl, I.turned (t' := s.toks) (fun b o hb q => eb b o hb q) f0 f1 f3 f4 f5⟩
  self := fun A i s Q E st h => let ⟨⟨_, he⟩, _⟩ := st; wpAny_pyIter_enum he h
def iEnumT (K : PySem.W.Frag) (ta : TA) : TI := fun σ H R => ta σ H fun vs H1 => ∃ a xs, vs = [.ref a] ∧ SqT K H1 a xs ∧ R (ItE K a) H1
theorem pi_enumT {X : Cx} {e : Expr} {ta : TA} {p pos tpos : Pos} {elts : List Expr} {kk : Nat} (hg : Gl X "enumerate") (hm : X.mg "enumerate" = none) (ha : PA X [e] ta) (hs : starEach [e] X.env = [(false, eval e X.env)] := by rfl) :
    PI X (.Tuple elts kk tpos) (.Call (.Name "enumerate" p) [e] [] pos) (iEnumT X.K ta) := by
  refine ⟨fun pins s σ H R I h => ?_⟩
  refine Call_ (ld_blt I hg hm boot_enumerate (PyProof.Rows.callWith_type1 (thn (ha.run pos pins s σ H _ I h) fun us s1 ⟨vs, H1, I1, r1, q1⟩ => ?_) hs rfl))
  obtain ⟨a, xs, rfl, hq, q⟩ := q1
  obtain ⟨u, rfl, ru⟩ := vals1 r1
  cases (show u = Value.ref a from ru)
  obtain ⟨its, rv, pl, hz⟩ := I1.tuple hq
  refine make (begins_tuple a its.toArray) pl fun h' ie io kp => wpAny_pyIter_enum ie ?_
  refine ⟨s1.heap.objs.size + 1, [s1.heap.objs.size + 1, s1.heap.objs.size], _, _, H1, rfl, I1.kept (t' := s1.toks) kp, turn a (s1.heap.objs.size + 1) s1.heap.objs.size (Nat.succ_ne_self _), ⟨⟨.none, ie⟩, _, io, rfl, rfl⟩, fun b hb => ?_, q⟩
  have lb : s1.heap.objs.size ≤ b := by
    rcases List.mem_cons.mp hb with z | z
    · rw [z]; exact Nat.le_succ _
    · rw [List.mem_singleton.mp z]; exact Nat.le_refl _
  exact I1.fpOk lb (I1.hok.fresh lb)
/-- for (i, x) in enumerate(t): an invariant over the turns -/
theorem for_enumT {K : PySem.W.Frag} {a : Addr} {xs : List V} {g : TG} {tb : TS} {D : Ends} {σ : L2.St} {H : Hp} (Pv : Nat → L2.St → Hp → Prop) (h0 : Pv 0 σ H) (hl : ∀ i σ H, i ≤ xs.length → Pv i σ H → SqT K H a xs)
    (hs : ∀ i x σ H T, xs[i]? = some x → Pv i σ H → H T = none → g (.ref T) σ (upd H T (.tup [.int (i : Nat), x])) fun σ2 H2 => tb { D with nx := Pv (i + 1), ct := Pv (i + 1), bk := D.nx } σ2 H2) (hd : ∀ σ H, Pv xs.length σ H → D.nx σ H) :
    ∃ W : Nat → Nat → L2.St → Hp → Prop, (∃ m, W 0 m σ H) ∧ ∀ i m σ H, W i m σ H →
      ((ItE K a).stop i H ∧ D.nx σ H) ∨ ((ItE K a).go i H ∧ ∃ N : L2.St → Hp → Prop, (∀ σ' H', N σ' H' → ∃ m', m' < m ∧ W (i + 1) m' σ' H') ∧ ∀ x H', (ItE K a).yld i H x H' → g x σ H' fun σ2 H2 => tb { D with nx := N, ct := N, bk := D.nx } σ2 H2) := by
  refine ⟨fun i m σ H => i + m = xs.length ∧ Pv i σ H, ⟨xs.length, by omega, h0⟩, ?_⟩
  rintro i m σ H ⟨e, p⟩
  have q := hl i σ H (by omega) p
  by_cases c : i < xs.length
  · refine .inr ⟨⟨xs, xs[i], q, List.getElem?_eq_getElem c⟩, Pv (i + 1), fun σ' H' p' => ⟨m - 1, by omega, by omega, p'⟩, fun v H' hy => ?_⟩
    obtain ⟨T, x, rfl, nT, rfl, fx⟩ := hy
    exact hs i x σ H T (fx xs q) p nT
  · have e2 : i = xs.length := by omega
    subst e2
    exact .inl ⟨⟨xs, q, rfl⟩, hd σ H p⟩
theorem lc_enumT {K : PySem.W.Frag} {a : Addr} {xs : List V} {g : TG} {tt : TT} {te : TE} {vs : List Nat} {σ : L2.St} {H1 : Hp} {D : Addr} {Qd : Hp → Prop} (Pv : Nat → Hp → Prop) (h0 : Pv 0 (upd H1 D (.lst []))) (hl : ∀ i H, i ≤ xs.length → Pv i H → SqT K H a xs)
    (hs : ∀ i x H T, xs[i]? = some x → Pv i H → H T = none → g (.ref T) (wipe σ vs) (upd H T (.tup [.int (i : Nat), x])) fun σ2 H2 => wipe σ2 vs = wipe σ vs ∧ tt σ2 H2 fun b H3 =>
      if b = true then te σ2 H3 fun y H4 => ∃ acc, H4 D = some (.lst acc) ∧ acc.length < sizeLine ∧ Pv (i + 1) (upd H4 D (.lst (acc ++ [y]))) else Pv (i + 1) H3) (hd : ∀ H, Pv xs.length H → Qd H) :
    ∃ W : Nat → Nat → Hp → Prop, (∃ m, W 0 m (upd H1 D (.lst []))) ∧ ∀ i m H, W i m H →
      ((ItE K a).stop i H ∧ Qd H) ∨ ((ItE K a).go i H ∧ ∃ Nx : Hp → Prop, (∀ H', Nx H' → ∃ m', m' < m ∧ W (i + 1) m' H') ∧ ∀ x H', (ItE K a).yld i H x H' → g x (wipe σ vs) H' fun σ2 H2 => wipe σ2 vs = wipe σ vs ∧ tt σ2 H2 fun b H3 =>
        if b = true then te σ2 H3 fun y H4 => ∃ acc, H4 D = some (.lst acc) ∧ acc.length < sizeLine ∧ Nx (upd H4 D (.lst (acc ++ [y]))) else Nx H3) := by
  refine ⟨fun i m H => i + m = xs.length ∧ Pv i H, ⟨xs.length, by omega, h0⟩, ?_⟩
  rintro i m H ⟨e, p⟩
  have q := hl i H (by omega) p
  by_cases c : i < xs.length
  · refine .inr ⟨⟨xs, xs[i], q, List.getElem?_eq_getElem c⟩, Pv (i + 1), fun H' p' => ⟨m - 1, by omega, by omega, p'⟩, fun v H' hy => ?_⟩
    obtain ⟨T, x, rfl, nT, rfl, fx⟩ := hy
    exact hs i x H T (fx xs q) p nT
  · have e2 : i = xs.length := by omega
    subst e2
    exact .inl ⟨⟨xs, q, rfl⟩, hd H p⟩
end Et

set_option Elab.async false
set_option linter.all false
set_option maxRecDepth 100000
set_option maxHeartbeats 4000000
/-! riddles as they lie in the heap, their data, and what a filling breaks -/
namespace Dt
open PySem PySem.Spec PyProof.Rows L2
/-! ### in, of a tuple of data -/
def rInT (K : PySem.W.Frag) : R2 := fun x y H Q => ∃ d ds, Dp K H x d ∧ Dp K H y (.tuple ds) ∧ SeqAt.shaped d = true ∧ SeqAt.shaped (.tuple ds) = true ∧ Q (.bl (ds.any fun z => PyData.eqv z d)) H
theorem op_inT {X : Cx} (hu : X.A.units + 65 < cLine) : OpR X (compareOp .In) (rInT X.K) := by
  intro pins s σ H x y v u Q I rx ry h
  obtain ⟨d, ds, hd, he, sd, se, q⟩ := h
  obtain ⟨as, r1⟩ := Dp.reads I d x v hd rx
  obtain ⟨bs, r2⟩ := Dp.reads I (.tuple ds) y u he ry
  exact SeqAt.in_tuple_reads r2 r1 (SeqAt.canLay_of_shaped se) (SeqAt.canLay_of_shaped sd) (room_in_shaped sd hu) ⟨.bl _, H, I, rfl, q⟩
/-! ### wishes and riddles -/
abbrev Row := List Int
abbrev WD := List Int × List Row
def IsRow (H : Hp) (r : Addr) (row : Row) : Prop := H r = some (.tup (row.map V.int))
def IsWish (H : Hp) (wa : Addr) (wd : WD) : Prop := ∃ (pa ra : Addr) (rs : List Addr), H wa = some (.tup [.ref pa, .ref ra]) ∧ H pa = some (.tup (wd.1.map V.int)) ∧ H ra = some (.tup (rs.map V.ref)) ∧ Paired (IsRow H) rs wd.2
def IsRid (H : Hp) (ri : Addr) (many hues : Int) (wds : List WD) : Prop := ∃ (wt : Addr) (was : List Addr), H ri = some (.tup [.int many, .int hues, .ref wt]) ∧ H wt = some (.tup (was.map V.ref)) ∧ Paired (IsWish H) was wds
/-- tuples stay -/
def Tups (H H' : Hp) : Prop := ∀ b xs, H b = some (.tup xs) → H' b = some (.tup xs)
theorem Tups.refl (H : Hp) : Tups H H := fun _ _ e => e
theorem Tups.trans {H H1 H2 : Hp} (a : Tups H H1) (b : Tups H1 H2) : Tups H H2 := fun c xs e => b c xs (a c xs e)
theorem tups_same {H H' : Hp} (s : Same H H') : Tups H H' := fun b xs e => s b _ e
theorem tups_upd {H : Hp} {p : Addr} {o : HO} (h : ∀ xs, H p ≠ some (.tup xs)) : Tups H (upd H p o) := fun b xs e => by
  rw [upd_ne (fun z => h xs (by rw [← z]; exact e))]
  exact e
theorem pairedMap {α β : Type} {F G : α → β → Prop} : ∀ {l : List α} {m : List β}, (∀ a b, F a b → G a b) → Paired F l m → Paired G l m
  | _, _, _, .nil => .nil
  | _, _, k, .cons h t => .cons (k _ _ h) (pairedMap k t)
theorem pairedLen {α β : Type} {F : α → β → Prop} : ∀ {l : List α} {m : List β}, Paired F l m → l.length = m.length
  | _, _, .nil => rfl
  | _, _, .cons _ t => by rw [List.length_cons, List.length_cons, pairedLen t]
theorem pairedGet {α β : Type} {F : α → β → Prop} : ∀ {l : List α} {m : List β} {i : Nat} {b : β}, Paired F l m → m[i]? = some b → ∃ a, l[i]? = some a ∧ F a b
  | _, _, _, _, .nil, h => by simp at h
  | _, _, 0, _, .cons h _, e => by cases e; exact ⟨_, rfl, h⟩
  | _, _, i + 1, b, .cons _ t, e => pairedGet (i := i) (b := b) t e
theorem pairedGetL {α β : Type} {F : α → β → Prop} : ∀ {l : List α} {m : List β} {i : Nat} {a : α}, Paired F l m → l[i]? = some a → ∃ b, m[i]? = some b ∧ F a b
  | _, _, _, _, .nil, h => by simp at h
  | _, _, 0, _, .cons h _, e => by cases e; exact ⟨_, rfl, h⟩
  | _, _, i + 1, a, .cons _ t, e => pairedGetL (i := i) (a := a) t e
theorem IsWish.mono {H H' : Hp} {wa : Addr} {wd : WD} (t : Tups H H') (h : IsWish H wa wd) : IsWish H' wa wd := by
  obtain ⟨pa, ra, rs, h1, h2, h3, h4⟩ := h
  exact ⟨pa, ra, rs, t _ _ h1, t _ _ h2, t _ _ h3, pairedMap (fun a b e => t _ _ e) h4⟩
theorem IsRid.mono {H H' : Hp} {ri : Addr} {m h : Int} {wds : List WD} (t : Tups H H') (x : IsRid H ri m h wds) : IsRid H' ri m h wds := by
  obtain ⟨wt, was, h1, h2, h3⟩ := x
  exact ⟨wt, was, t _ _ h1, t _ _ h2, pairedMap (fun _ _ e => IsWish.mono t e) h3⟩
/-- what may come of the law's drawing -/
structure Good (many hues : Int) (wd : WD) : Prop where
  one : 1 ≤ wd.1.length
  three : wd.1.length ≤ 3
  pl : ∀ p ∈ wd.1, 0 ≤ p ∧ p < many
  some_ : 1 ≤ wd.2.length
  few : wd.2.length ≤ 64
  row : ∀ r ∈ wd.2, r.length = wd.1.length ∧ ∀ h ∈ r, 0 ≤ h ∧ h < hues
structure GoodR (many hues : Int) (wds : List WD) : Prop where
  m1 : 1 ≤ many
  m6 : many ≤ 6
  h2 : 2 ≤ hues
  h4 : hues ≤ 4
  eight : wds.length ≤ 8
  each : ∀ wd ∈ wds, Good many hues wd
structure GoodF (many hues : Int) (fs : List Int) : Prop where
  len : (fs.length : Int) = many
  hue : ∀ h ∈ fs, 0 ≤ h ∧ h < hues
/-! ### the data -/
def rowD (r : Row) : PyData := .tuple (r.map .int)
def wishD (wd : WD) : PyData := .tuple [rowD wd.1, .tuple (wd.2.map rowD)]
def ridD (many hues : Int) (wds : List WD) : PyData := .tuple [.int many, .int hues, .tuple (wds.map wishD)]
section
variable {K : PySem.W.Frag} {H : Hp}
theorem dpInts : ∀ ns : List Int, DpAll K H (ns.map V.int) (ns.map PyData.int)
  | [] => .nil
  | n :: r => .cons (.int n) (dpInts r)
theorem dpRow {r : Addr} {row : Row} (h : IsRow H r row) : Dp K H (.ref r) (rowD row) := .tup (.inl (.inl h)) (dpInts row)
theorem dpRows : ∀ {rs : List Addr} {rows : List Row}, Paired (IsRow H) rs rows → DpAll K H (rs.map V.ref) (rows.map rowD)
  | _, _, .nil => .nil
  | _, _, .cons h t => .cons (dpRow h) (dpRows t)
theorem dpWish {wa : Addr} {wd : WD} (h : IsWish H wa wd) : Dp K H (.ref wa) (wishD wd) := by
  obtain ⟨pa, ra, rs, h1, h2, h3, h4⟩ := h
  exact .tup (.inl (.inl h1)) (.cons (dpRow h2) (.cons (.tup (.inl (.inl h3)) (dpRows h4)) .nil))
theorem dpWishes : ∀ {was : List Addr} {wds : List WD}, Paired (IsWish H) was wds → DpAll K H (was.map V.ref) (wds.map wishD)
  | _, _, .nil => .nil
  | _, _, .cons h t => .cons (dpWish h) (dpWishes t)
theorem dpRid {ri : Addr} {m h : Int} {wds : List WD} (x : IsRid H ri m h wds) : Dp K H (.ref ri) (ridD m h wds) := by
  obtain ⟨wt, was, h1, h2, h3⟩ := x
  exact .tup (.inl (.inl h1)) (.cons (.int m) (.cons (.int h) (.cons (.tup (.inl (.inl h2)) (dpWishes h3)) .nil)))
end
/-! ### data of this kind is laid, shallow, light and shown -/
/-- a measure of data: laid, at most so deep, at most so heavy, ints short, no dict -/
structure Fine (d : PyData) (n w : Nat) : Prop where
  lay : d.canLay0 = true
  dep : d.depth ≤ n
  wei : d.weight ≤ w
  sho : d.showable = true
  noD : d.hasDict = false
  sh13 : d.intsShort 13 = true
structure FineAll (ds : List PyData) (n w : Nat) : Prop where
  lay : PyData.canLayAll0 ds = true
  dep : PyData.depthAll ds ≤ n
  wei : PyData.weightAll ds ≤ w
  sho : PyData.showableAll ds = true
  noD : PyData.hasDictAll ds = false
  sh13 : PyData.intsShortAll 13 ds = true
theorem FineAll.nil (n : Nat) : FineAll [] n 0 := ⟨rfl, Nat.zero_le _, Nat.le_refl _, rfl, rfl, rfl⟩
theorem FineAll.cons {d : PyData} {ds : List PyData} {n w u : Nat} (h : Fine d n w) (t : FineAll ds n u) : FineAll (d :: ds) n (w + 1 + u) := by
  refine ⟨?_, ?_, ?_, ?_, ?_, ?_⟩
  · simp only [PyData.canLayAll0, h.lay, t.lay, Bool.and_self]
  · have a := h.dep
    have b := t.dep
    simp only [PyData.depthAll]
    omega
  · have a := h.wei
    have b := t.wei
    simp only [PyData.weightAll]
    omega
  · simp only [PyData.showableAll, h.sho, t.sho, Bool.and_self]
  · simp only [PyData.hasDictAll, h.noD, t.noD, Bool.or_self]
  · simp only [PyData.intsShortAll, h.sh13, t.sh13, Bool.and_self]
theorem Fine.tuple {ds : List PyData} {n w : Nat} (t : FineAll ds n w) : Fine (.tuple ds) (n + 1) w := by
  refine ⟨by simp only [PyData.canLay0]; exact t.lay, ?_, by simp only [PyData.weight]; exact t.wei, by simp only [PyData.showable]; exact t.sho, by simp only [PyData.hasDict]; exact t.noD, by simp only [PyData.intsShort]; exact t.sh13⟩
  have a := t.dep
  simp only [PyData.depth]
  omega
theorem Fine.list {ds : List PyData} {n w : Nat} (t : FineAll ds n w) : Fine (.list ds) (n + 1) w := by
  refine ⟨by simp only [PyData.canLay0]; exact t.lay, ?_, by simp only [PyData.weight]; exact t.wei, by simp only [PyData.showable]; exact t.sho, by simp only [PyData.hasDict]; exact t.noD, by simp only [PyData.intsShort]; exact t.sh13⟩
  have a := t.dep
  simp only [PyData.depth]
  omega
theorem Fine.mono {d : PyData} {n w n' w' : Nat} (h : Fine d n w) (a : n ≤ n') (b : w ≤ w') : Fine d n' w' := ⟨h.lay, Nat.le_trans h.dep a, Nat.le_trans h.wei b, h.sho, h.noD, h.sh13⟩
theorem FineAll.mono {d : List PyData} {n w n' w' : Nat} (h : FineAll d n w) (a : n ≤ n') (b : w ≤ w') : FineAll d n' w' := ⟨h.lay, Nat.le_trans h.dep a, Nat.le_trans h.wei b, h.sho, h.noD, h.sh13⟩
theorem fineAll_map {α : Type} {f : α → PyData} {n w : Nat} : ∀ (l : List α), (∀ x ∈ l, Fine (f x) n w) → FineAll (l.map f) n (l.length * (w + 1))
  | [], _ => FineAll.nil n |>.mono (Nat.le_refl _) (Nat.zero_le _)
  | x :: r, h => by
    have t := fineAll_map r fun y hy => h y (List.mem_cons_of_mem _ hy)
    refine (FineAll.cons (h x List.mem_cons_self) t).mono (Nat.le_refl _) ?_
    rw [List.length_cons, Nat.succ_mul]
    omega
theorem fine_int {i : Int} (h0 : 0 ≤ i) (h1 : i < 64) : Fine (.int i) 1 7 := by
  obtain ⟨n, rfl⟩ : ∃ n : Nat, i = n := ⟨i.toNat, by omega⟩
  have hn : n < 64 := by omega
  have hl : n.log2 ≤ 5 := by
    by_cases e : n = 0
    · subst e; decide
    · have := (Nat.log2_lt e).mpr (show n < 2 ^ 6 by omega)
      omega
  refine ⟨rfl, by simp [PyData.depth], ?_, ?_, rfl, ?_⟩
  · simp only [PyData.weight]
    split
    · omega
    · have e : ((n : Int)).natAbs = n := by omega
      rw [e]
      omega
  · simp only [PyData.showable]
    have e : ((n : Int)).natAbs = n := by omega
    rw [e]
    exact decide_eq_true (by omega)
  · have all : ∀ m : Nat, m < 64 → PyData.intsShort 13 (.int (m : Int)) = true := by decide +kernel
    exact all n hn
theorem Fine.shaped {d : PyData} {n w : Nat} (h : Fine d n w) (hn : n ≤ 64) : SeqAt.shaped d = true := by
  show (d.canLay0 && decide (d.depth ≤ 64)) = true
  rw [h.lay, decide_eq_true (Nat.le_trans h.dep hn)]
  rfl
theorem Fine.shows {d : PyData} {n w : Nat} (h : Fine d n w) (hn : n ≤ 64) (hw : w ≤ 1048576) : d.shown.length ≤ sizeLine := by
  have l : d.layable0 = true := by
    show (d.canLay0 && decide (d.depth ≤ 64) && decide (d.weight ≤ 2 ^ 20)) = true
    rw [h.lay, decide_eq_true (Nat.le_trans h.dep hn), decide_eq_true (show d.weight ≤ 2 ^ 20 from Nat.le_trans h.wei (Nat.le_trans hw (by decide)))]
    rfl
  exact Nat.le_trans (shown_le13 l h.sh13) (by decide)
/-! ### equality of rows -/
theorem eqvAll_ints : ∀ a b : List Int, PyData.eqvAll (a.map .int) (b.map .int) = decide (a = b)
  | [], [] => by simp [PyData.eqvAll]
  | [], _ :: _ => by simp [PyData.eqvAll]
  | _ :: _, [] => by simp [PyData.eqvAll]
  | x :: r, y :: q => by
    simp only [List.map_cons, PyData.eqvAll, PyData.eqv, eqvAll_ints r q]
    by_cases h : x = y
    · subst h; simp
    · simp [h]
theorem eqv_row (a b : Row) : PyData.eqv (rowD a) (rowD b) = decide (a = b) := by
  unfold rowD
  rw [PyData.eqv]
  exact eqvAll_ints a b
theorem anyRows (r : Row) : ∀ rows : List Row, ((rows.map rowD).any fun z => PyData.eqv z (rowD r)) = decide (r ∈ rows)
  | [] => by simp
  | x :: q => by
    rw [List.map_cons, List.any_cons, anyRows r q, eqv_row]
    by_cases h : x = r
    · subst h; simp
    · have h2 : ¬ r = x := fun e => h e.symm
      simp [h, h2]
/-! ### what is broken -/
def atF (fs : List Int) (p : Int) : Int := fs.getD p.toNat 0
def huesA (fs ps : List Int) : List Int := ps.map (atF fs)
def brk (fs : List Int) (wd : WD) : Bool := decide (huesA fs wd.1 ∈ wd.2)
def brkAt (fs : List Int) (wds : List WD) (k : Nat) : Bool := match wds[k]? with
  | some wd => brk fs wd
  | none => false
def broL (fs : List Int) (wds : List WD) (i : Nat) : List Int := ((List.range i).filter (brkAt fs wds)).map fun (k : Nat) => (k : Int)
theorem brkAt_of {fs : List Int} {wds : List WD} {k : Nat} {wd : WD} (h : wds[k]? = some wd) : brkAt fs wds k = brk fs wd := by
  unfold brkAt
  rw [h]
theorem broL_yes {fs : List Int} {wds : List WD} {i : Nat} (h : brkAt fs wds i = true) : broL fs wds (i + 1) = broL fs wds i ++ [(i : Int)] := by
  unfold broL
  rw [List.range_succ, List.filter_append, List.map_append]
  simp [h]
theorem broL_no {fs : List Int} {wds : List WD} {i : Nat} (h : brkAt fs wds i = false) : broL fs wds (i + 1) = broL fs wds i := by
  unfold broL
  rw [List.range_succ, List.filter_append, List.map_append]
  simp [h]
theorem broL_len (fs : List Int) (wds : List WD) (i : Nat) : (broL fs wds i).length ≤ i := by
  unfold broL
  rw [List.length_map]
  have q := List.length_filter_le (brkAt fs wds) (List.range i)
  rw [List.length_range] at q
  exact q
theorem broL_mem {fs : List Int} {wds : List WD} {i : Nat} {z : Int} (h : z ∈ broL fs wds i) : 0 ≤ z ∧ z < i := by
  unfold broL at h
  obtain ⟨k, hk, rfl⟩ := List.mem_map.mp h
  have := List.mem_range.mp (List.mem_filter.mp hk).1
  omega
theorem at_some {fs : List Int} {many hues : Int} {p : Int} (h : GoodF many hues fs) (h0 : 0 ≤ p) (h1 : p < many) : fs[p.toNat]? = some (atF fs p) := by
  have hl := h.len
  have hp : p.toNat < fs.length := by omega
  unfold atF
  rw [List.getD_eq_getElem?_getD, List.getElem?_eq_getElem hp]
  rfl
theorem atI_fs {fs : List Int} {many hues : Int} {p : Int} (h : GoodF many hues fs) (h0 : 0 ≤ p) (h1 : p < many) : atI (fs.map V.int) p = some (.int (atF fs p)) := by
  have e : p = ((p.toNat : Nat) : Int) := by omega
  have g : (fs.map V.int)[p.toNat]? = some (.int (atF fs p)) := by rw [List.getElem?_map, at_some h h0 h1]; rfl
  rw [e]
  rw [← e]
  have q := atI_nat g
  rw [← e] at q
  exact q
/-! ### riddles are fine data -/
theorem fine_row {r : Row} (h : ∀ z ∈ r, 0 ≤ z ∧ z < 64) (hl : r.length ≤ 8) : Fine (rowD r) 2 64 :=
  (Fine.tuple (fineAll_map r fun z hz => fine_int (h z hz).1 (h z hz).2)).mono (by omega) (by omega)
theorem fine_wish {many hues : Int} {wd : WD} (g : Good many hues wd) (hm : many ≤ 6) (hh : hues ≤ 4) : Fine (wishD wd) 4 5000 := by
  have a : Fine (rowD wd.1) 2 64 := fine_row (fun z hz => ⟨(g.pl z hz).1, by have := (g.pl z hz).2; omega⟩) (by have := g.three; omega)
  have b : Fine (.tuple (wd.2.map rowD)) 3 4200 := by
    refine (Fine.tuple (fineAll_map wd.2 fun r hr => fine_row (fun z hz => ⟨((g.row r hr).2 z hz).1, by have := ((g.row r hr).2 z hz).2; omega⟩) (by have := (g.row r hr).1; have := g.three; omega))).mono (Nat.le_refl _) ?_
    have := g.few
    omega
  exact (Fine.tuple (FineAll.cons (a.mono (by omega) (Nat.le_refl _)) (FineAll.cons b (FineAll.nil _)))).mono (Nat.le_refl _) (by omega)
theorem fine_rid {many hues : Int} {wds : List WD} (g : GoodR many hues wds) : Fine (ridD many hues wds) 6 50000 := by
  have c : Fine (.tuple (wds.map wishD)) 5 40100 := by
    refine (Fine.tuple (fineAll_map wds fun wd hw => fine_wish (g.each wd hw) g.m6 g.h4)).mono (Nat.le_refl _) ?_
    have := g.eight
    omega
  have m := fine_int (i := many) (by have := g.m1; omega) (by have := g.m6; omega)
  have h := fine_int (i := hues) (by have := g.h2; omega) (by have := g.h4; omega)
  exact (Fine.tuple (FineAll.cons (m.mono (by omega) (Nat.le_refl _)) (FineAll.cons (h.mono (by omega) (Nat.le_refl _)) (FineAll.cons c (FineAll.nil _))))).mono (Nat.le_refl _) (by omega)
theorem fine_fill {many hues : Int} {fs : List Int} (g : GoodF many hues fs) (hm : many ≤ 6) (hh : hues ≤ 4) : Fine (rowD fs) 2 64 :=
  fine_row (fun z hz => ⟨(g.hue z hz).1, by have := (g.hue z hz).2; omega⟩) (by have := g.len; omega)
theorem fine_bro (fs : List Int) (wds : List WD) {i : Nat} (h : i ≤ 8) : Fine (.list ((broL fs wds i).map .int)) 2 64 := by
  refine (Fine.list (fineAll_map (broL fs wds i) fun z hz => fine_int (broL_mem hz).1 (by have := (broL_mem hz).2; omega))).mono (by omega) ?_
  have := broL_len fs wds i
  omega
end Dt

set_option Elab.async false
set_option linter.all false
set_option maxRecDepth 100000
set_option maxHeartbeats 4000000
/-! sorted(xs) of tuples of small ints, any number of them -/
namespace Tt
open PySem PySem.Spec PyProof.Rows L2
def rk (h : Heap) (B : Int) (v : Value) : Int := TS.code B (TS.intsOf h v)
theorem swo_rk (f : Value → Int) : SrtO.Swo fun v u => decide (f v < f u) := by
  refine ⟨fun x y h => ?_, fun x y z h1 h2 => ?_⟩
  · have a := of_decide_eq_true h
    exact decide_eq_false (by omega)
  · have a := of_decide_eq_false h1
    have b := of_decide_eq_false h2
    exact decide_eq_false (by omega)
section
variable {prog : Program} {w : World} {A : Around} {E : Value → Shared → Prop} {s : Shared}
theorem cmp_tups {d : Nat} {B : Int} {vs : List Value} (x : TS.TupsOk s.heap d B vs) (r : Value → Int) (hr : ∀ v, v ∈ vs → ∀ ns, TS.TupInts s.heap v ns → r v = TS.code B ns) :
    SrtO.Cmp prog w A s (tuples' true) (fun p => p.1 ∈ vs) (SrtO.lt2 fun v u => decide (r v < r u)) := by
  intro p q hp hq
  obtain ⟨ns, tp, lp, bp⟩ := x _ hp
  obtain ⟨ms, tq, lq, bq⟩ := x _ hq
  show wpAny (model prog w) A (keyLt' (tuples' true) p.1 q.1) (fun b s' => s' = s ∧ b = decide (r p.1 < r q.1)) (fun _ _ => False) s
  rw [hr _ hp _ tp, hr _ hq _ tq]
  obtain ⟨a, xs, e1, ⟨o, ho, hc, n, hdt⟩, i⟩ := tp
  obtain ⟨a', ys, e2, ⟨o', ho', hc', n', hdt'⟩, i'⟩ := tq
  rw [e1, e2]
  refine PySem.W.kat_lt ho hdt ho' hdt' ?_
  have l1 := i.length
  have l2 := i'.length
  rw [Array.length_toList] at l1 l2
  rw [show decide (xs.size < ys.size) = false from decide_eq_false (by omega)]
  exact TS.lex_ints 0 i i' (by omega) bp bq ⟨rfl, rfl⟩
theorem sortable {a : Addr} {d : Nat} {B : Int} {vs : List Value} (hd : 1 ≤ d) (h2 : 2 ≤ vs.length) (x : TS.TupsOk s.heap d B vs) (ha : ∀ o, s.heap.get? a = some o → o.cls ≠ .type "tuple") (r : Value → Int) (hr : ∀ v, v ∈ vs → ∀ ns, TS.TupInts s.heap v ns → r v = TS.code B ns) :
    SrtO.SortableO prog w A s a vs fun v u => decide (r v < r u) := by
  intro h' keep
  have k2 : ∀ b o, s.heap.get? b = some o → o.cls = .type "tuple" → h'.get? b = some o := fun b o e c => keep b o (fun z => by subst z; exact ha o e c) e
  have x' := x.keeps k2
  obtain ⟨fs, kt, hl, hi⟩ := TS.firsts_of hd vs x'
  refine ⟨tuples' true, fun Q E hq => ?_, cmp_tups (s := { s with heap := h' }) x' r fun v hv ns t => ?_⟩
  · refine PySem.W.kat_kind (T := .type "int") kt (by omega) (fun f hm => ?_) (by rfl) ?_
    · obtain ⟨n, t, rfl⟩ := hi f hm
      exact PySem.W.Looks.of_pure rfl
    · rw [show (Value.type "int" != Value.type "tuple") = true by decide +kernel]
      exact hq
  · obtain ⟨n0, t0, _⟩ := x v hv
    rw [show ns = n0 from t.ints.symm.trans (t0.keeps k2).ints]
    exact hr v hv n0 t0
end
/-- sorted(xs): ts the tuples' places, k what stands at each -/
def rSortedT (K : PySem.W.Frag) : List V → Hp → VK → Prop := fun vs H Q => ∃ (a : Addr) (ts : List Addr) (k : Addr → List Int) (d : Nat) (B : Int), vs = [.ref a] ∧ SqL K H a (ts.map V.ref) ∧ 1 ≤ d ∧ (∀ t ∈ ts, H t = some (.tup ((k t).map V.int)) ∧ (k t).length = d ∧ TS.Bd B (k t)) ∧
  ∀ (ts' : List Addr) (p : Addr), ts'.Perm ts → ts'.Pairwise (fun u v => TS.code B (k u) ≤ TS.code B (k v)) → H p = none → Q (.ref p) (upd H p (.lst (ts'.map V.ref)))
theorem vals_refs : ∀ {ts : List Addr} {us : List Value}, Vals (ts.map V.ref) us → us = ts.map Value.ref
  | [], _, .nil => rfl
  | t :: r, _, .cons h q => by
    cases h
    rw [vals_refs q]
    rfl
theorem refs_vals : ∀ ts : List Addr, Vals (ts.map V.ref) (ts.map Value.ref)
  | [] => .nil
  | t :: r => .cons rfl (refs_vals r)
theorem cr_sortedT {X : Cx} : CallR X (.builtin "sorted") (rSortedT X.K) := by
  intro pins s σ H vs us Q I r h
  obtain ⟨a, ts, k, d, B, rfl, hs, hd, ht, q⟩ := h
  obtain ⟨its, rv, hl, hz⟩ := I.list hs
  obtain ⟨u, rfl, ru⟩ := vals1 r
  cases (show u = Value.ref a from ru)
  obtain rfl := vals_refs rv
  have tup : ∀ t ∈ ts, TS.TupInts s.heap (.ref t) (k t) := fun t hm => by
    obtain ⟨_, its, rr, hT⟩ := I.hok t _ (ht t hm).1
    exact ⟨t, its.toArray, rfl, hT, by simpa using rr.ints⟩
  have ok : TS.TupsOk s.heap d B (ts.map Value.ref) := fun v hv => by
    obtain ⟨t, hm, rfl⟩ := List.mem_map.mp hv
    exact ⟨k t, tup t hm, (ht t hm).2.1, (ht t hm).2.2⟩
  have rk_at : ∀ v ∈ ts.map Value.ref, ∀ ns, TS.TupInts s.heap v ns → rk s.heap B v = TS.code B ns := fun v _ ns t => by
    unfold rk
    rw [t.ints]
  refine SrtO.sorted_ord (swo_rk (rk s.heap B)) hl.isList (by rw [← rv.length]; exact hz) (fun h2 h₁ a' ha' kk => ?_) fun out so sb => ?_
  · have keep : ∀ b o, s.heap.get? b = some o → o.cls = .type "tuple" → h₁.get? b = some o := fun b o e _ => (kk b o e).2
    refine sortable (s := { s with heap := h₁ }) hd h2 (ok.keeps keep) (fun o e c => ?_) (rk s.heap B) fun v hv ns t => ?_
    · have e' := Option.some.inj (e.symm.trans ha')
      rw [e'] at c
      exact absurd (Value.type.inj c) (by decide)
    · obtain ⟨n0, t0, _⟩ := ok v hv
      rw [show ns = n0 from t.ints.symm.trans (t0.keeps keep).ints]
      exact rk_at v hv n0 t0
  · obtain ⟨ep, he⟩ := PyProof.Rows.sortedAll_at s.heap (ts.map Value.ref) out.toArray
    have pm := sb.perm
    obtain ⟨ts', rfl, pt⟩ : ∃ ts' : List Addr, out = ts'.map Value.ref ∧ ts'.Perm ts := by
      have back : ∀ v ∈ out, ∃ t, v = Value.ref t := fun v hv => by
        obtain ⟨t, _, e⟩ := List.mem_map.mp (pm.mem_iff.mp hv)
        exact ⟨t, e.symm⟩
      have g : ∀ l : List Value, (∀ v ∈ l, ∃ t, v = Value.ref t) → ∃ m : List Addr, l = m.map Value.ref := by
        intro l
        induction l with
        | nil => intro _; exact ⟨[], rfl⟩
        | cons v r ih =>
          intro hv
          obtain ⟨t, rfl⟩ := hv v List.mem_cons_self
          obtain ⟨m, rfl⟩ := ih fun z hz => hv z (List.mem_cons_of_mem _ hz)
          exact ⟨t :: m, rfl⟩
      obtain ⟨m, rfl⟩ := g out back
      let f : Value → Addr := fun v => match v with | .ref t => t | _ => 0
      have q2 := pm.map f
      rw [List.map_map, List.map_map] at q2
      have e1 : (f ∘ Value.ref) = id := by funext z; rfl
      rw [e1, List.map_id, List.map_id] at q2
      exact ⟨m, rfl, q2⟩
    refine ⟨.ref (s.heap.objs.size + 1), _, I.laid (t' := s.toks) (o := .lst (ts'.map V.ref)) (fun _ _ => PyProof.Rows.sortedAll_old) (Nat.le_succ _) ⟨?_, ts'.map Value.ref, ep, refs_vals ts', he⟩, rfl, q ts' _ pt ?_ (I.hok.fresh (Nat.le_succ _))⟩
    · rw [List.length_map, pt.length_eq]
      rw [List.length_map] at hz
      exact hz
    · have so2 := List.pairwise_map.mp so
      refine List.Pairwise.imp_of_mem (fun {x y} hx hy h => ?_) so2
      have h2 := of_decide_eq_false h
      unfold rk at h2
      rw [(tup x (pt.mem_iff.mp hx)).ints, (tup y (pt.mem_iff.mp hy)).ints] at h2
      omega
end Tt

set_option Elab.async false
set_option linter.all false
set_option maxRecDepth 100000
set_option maxHeartbeats 4000000
/-! the law's own call: tables of code objects tracked, and no repr under way around it -/
namespace Lg
open PySem PySem.Spec PyProof.Rows L2
/-- the def's body, run where A stands -/
theorem run_at {P : Program} {w : World} {K : PySem.W.Frag} {mg : Str → Option Value} {base : Heap} {k : Nat} {f : Addr} {x qual : Str} {st : Stmt} {fd : FuncData} {N ps : List Str} {A : Around} {outer : List Env} {s : Shared} {H : Hp} {args : Args} {us : List Value} {vs : List V} {Q : VK} {E : XK}
    (F : Fun K x qual st f fd) (S : FnScope N ps (defScope st)) (hr : Room (k + 1) A) (e0 : Env0 P w K mg base A outer s H) (hb : BindsTo s fd args (ps.zip us)) (r : Vals vs us) (hl : vs.length = ps.length)
    (body : ∀ cdv : Value, Room k (A.deeper (envOfC qual (defScope st) s.heap.objs.size f cdv)) → ∃ t, PSs (cxOf CX0 P w K mg base N qual (defScope st) f cdv A outer s H E).nox (defBody st) t ∧ t { nx := fun _ H' => Q .non H', rt := Q } (start N vs) H) :
    codeAny (model P w) A (.call (.ref f) args) (CR CX0 outer P w H s Q E) s := by
  obtain ⟨oc, od, kV, doc, pm, an, cdv, ct, osl, rfl, lk, hcd⟩ := F.ex
  have old : ∀ b o, base.get? b = some o → s.heap.get? b = some o := fun b o e => (e0.bs b o e).1
  have KX := e0.mod.kin.keeps old
  have lim := e0.mod.nolimit.keeps old
  obtain ⟨t, pt, ht⟩ := body cdv (hr.deeper _)
  refine codeAny_call_function hr.depth (KX _ _ lk) rfl S.co S.gen rfl (PySem.W.codeRec_of KX hcd) (hb _ _ _ _ (wpAny_newFunctionEnv_cells S.kind (fun y hy => ?_) fun env he s1 ic => ?_))
  · rcases S.par y.1 (List.of_mem_zip (show (y.1, y.2) ∈ ps.zip us from hy)).1 with z | z
    · exact .inl z
    · exact .inr ⟨z, PySem.W.cellsFrom_some _ _ _ (.inl z)⟩
  · subst he
    refine ⟨lim.keeps ic.toInCall.keep, codeAny_func (wpAny_mono (pt.nox.run [] s1 (start N vs) H _ (inv_start S hr.hd e0 hl r ic) ht) (fun fl s' q => ?_) fun _ _ q => q)⟩
    cases fl with
    | ret u => obtain ⟨v, σ', H', J, rv, q⟩ := q; exact ⟨v, H', J.os, J.bare, J.base, J.hok, rv, q⟩
    | next => obtain ⟨σ', H', J, q⟩ := q; exact ⟨.non, H', J.os, J.bare, J.base, J.hok, rfl, q⟩
    | brk => obtain ⟨_, _, _, q⟩ := q; exact q.elim
    | cont => obtain ⟨_, _, _, q⟩ := q; exact q.elim
/-- the abstract heap at the law's call: the tables, and the script where the top didn't write it -/
def H0 (K : PySem.W.Frag) (T : List Addr) (a : Addr) (o : Obj) (xs : List V) : Hp := fun b => if b ∈ T then some (.tbl #[]) else if b = a ∧ K.lookup a = none then some (.frz o (.lst xs)) else none
theorem H0_three (K : PySem.W.Frag) (T : List Addr) (a : Addr) (o : Obj) (xs : List V) (b : Addr) : (b ∈ T ∧ H0 K T a o xs b = some (.tbl #[])) ∨ (b = a ∧ K.lookup a = none ∧ H0 K T a o xs b = some (.frz o (.lst xs))) ∨ (H0 K T a o xs b = none ∧ b ∉ T) := by
  unfold H0
  by_cases h : b ∈ T
  · exact .inl ⟨h, if_pos h⟩
  · by_cases h2 : b = a ∧ K.lookup a = none
    · exact .inr (.inl ⟨h2.1, h2.2, by rw [if_neg h, if_pos h2]⟩)
    · exact .inr (.inr ⟨by rw [if_neg h, if_neg h2], h⟩)
theorem law_at {P : Program} {w : World} {K : PySem.W.Frag} {mg mb : Str → Option Value} {k : Nat} {fa a : Addr} {cs : List (Addr × Addr)} {x qual : Str} {st : Stmt} {fd : FuncData} {N : List Str} {par : Str} {s : Shared} {vs : List Value} {ns : List Int}
    (KX : K.In s.heap) (hns : s.heap.Ns mainGlobals mg) (hbl : s.heap.Ns builtinsNs mb) (hbb : ∀ x : Str, x ≠ "__name__" → mb x = bootBuiltins x) (hlim : s.heap.NoLimit) (hg : s.gens = #[])
    (hT : ∀ p ∈ cs, s.heap.get? p.2 = some { cls := .none, data := .fields #[] }) (nT : ∀ p ∈ cs, K.lookup p.2 = none) (hC : ∀ p ∈ cs, PySem.W.CodeHd s.heap p.1 p.2)
    (hbm : ∃ (bm : Addr) (ob : Obj), mg "__builtins__" = some (.ref bm) ∧ bm ≠ builtinsNs ∧ s.heap.get? bm = some ob ∧ ob.cls = .type "module" ∧ ob.dict = some builtinsNs ∧ ob.data = .plain)
    (ha : s.heap.get? a = some { cls := .type "list", data := .seq vs.toArray }) (hi : IntsAre vs ns) (hlen : ns.length ≤ sizeLine) (hr : Room (k + 1) callerA)
    (F : Fun K x qual st fa fd) (S : FnScope N [par] (defScope st)) (hb : ∀ (s : Shared) (u : Value), BindsTo s fd ⟨[u], []⟩ [(par, u)])
    (body : ∀ (base : Heap) (H : Hp) (cdv : Value), K.In base → base.Ns mainGlobals mg → (∀ p ∈ cs, GxR.TabB base mg p.1 p.2) → (∀ p ∈ cs, H p.2 = some (.tbl #[])) → SqL K H a (ns.map V.int) → Room k (callerA.deeper (envOfC qual (defScope st) s.heap.objs.size fa cdv)) →
      ∃ t, PSs (cxOf CX0 P w K mg base N qual (defScope st) fa cdv callerA [] s H (fun _ _ _ => False)).nox (defBody st) t ∧ t { nx := fun _ _ => False, rt := fun v _ => v = .bl true } (start N [.ref a]) H) :
    codeAny (model P w) callerA (.call (.ref fa) ⟨[.ref a], []⟩) (fun r s' => r = .ok (.ret (.bool true)) ∧ OldK s.heap s'.heap ∧ s'.os = s.os ∧ AllBare s'.gens) s := by
  have rv := vals_ints hi
  have lv := hi.length
  generalize hso : ({ cls := .type "list", data := .seq vs.toArray } : Obj) = so at ha
  have inT : ∀ b, b ∈ cs.map (·.2) → s.heap.get? b = some { cls := .none, data := .fields #[] } ∧ K.lookup b = none := fun b h => by
    obtain ⟨p, hp, rfl⟩ := List.mem_map.mp h
    exact ⟨hT p hp, nT p hp⟩
  generalize hH : H0 K (cs.map (·.2)) a so (ns.map V.int) = H
  have three := H0_three K (cs.map (·.2)) a so (ns.map V.int)
  rw [hH] at three
  -- an object of another kind isn't tracked
  have clean : ∀ b o, s.heap.get? b = some o → o.data ≠ .fields #[] → (∀ v n, o.data ≠ .seq v n) → H b = none := fun b o e h1 h2 => by
    rcases three b with ⟨z, _⟩ | ⟨z, _, _⟩ | ⟨z, _⟩
    · rw [(inT b z).1] at e; cases e; exact absurd rfl h1
    · rw [z, ha, ← hso] at e; cases e; exact absurd rfl (h2 _ _)
    · exact z
  have low : ∀ b o, s.heap.get? b = some o → o.data ≠ .fields #[] → (∀ v n, o.data ≠ .seq v n) → (hidT s.heap H).get? b = some o := fun b o e h1 h2 => hidT_get e (clean b o e h1 h2)
  have lowNs : ∀ b m, s.heap.Ns b m → (hidT s.heap H).Ns b m := fun b m ⟨o, es, ep, e, d, q⟩ => ⟨o, es, ep, low b o e (by rw [d]; exact fun z => nomatch z) (by rw [d]; exact fun _ _ z => nomatch z), d, q⟩
  have kb : K.In (hidT s.heap H) := fun b o e => hidT_get (KX b o e) (by
    rcases three b with ⟨z, _⟩ | ⟨z, q, _⟩ | ⟨z, _⟩
    · rw [(inT b z).2] at e; cases e
    · rw [z, q] at e; cases e
    · exact z)
  have hok : HOk P w H s.heap := fun b u e => by
    rcases three b with ⟨z, q⟩ | ⟨z, _, q⟩ | ⟨q, _⟩
    · rw [e] at q; cases q; exact (inT b z).1
    · rw [e] at q; cases q; rw [z]; exact ⟨ha, by rw [List.length_map]; exact hlen, vs, 0, rv, by rw [ha, ← hso]⟩
    · rw [e] at q; cases q
  have tb : ∀ p ∈ cs, GxR.TabB (hidT s.heap H) mg p.1 p.2 := fun p hp => by
    refine ⟨?_, ?_, fun z => ?_⟩
    · obtain ⟨o, us, fl, t1, fg, t2, b1, tx, t3, e1, e2, e3, e4, rest⟩ := hC p hp
      exact ⟨o, us, fl, t1, fg, t2, b1, tx, t3, low _ _ e1 (by rw [e3]; intro z; cases z; simp at e4) (by rw [e3]; exact fun _ _ z => nomatch z), e2, e3, e4, rest⟩
    · obtain ⟨bm, ob, m1, m2, m3, m4, m5, m6⟩ := hbm
      refine ⟨bm, ob, m1, m2, fun z => ?_, fun z => ?_, low _ _ m3 (by rw [m6]; exact fun z => nomatch z) (by rw [m6]; exact fun _ _ z => nomatch z), m4, m5, m6⟩
      · obtain ⟨o, es, ep, e, d, _⟩ := hns
        rw [z, e] at m3; cases m3; rw [d] at m6; cases m6
      · rw [z, hT p hp] at m3; cases m3; cases m6
    · obtain ⟨o, es, ep, e, d, _⟩ := hns
      rw [z, hT p hp] at e; cases e; cases d
  have tabH : ∀ p ∈ cs, H p.2 = some (.tbl #[]) := fun p hp => by
    have hm : p.2 ∈ cs.map (·.2) := List.mem_map.mpr ⟨p, hp, rfl⟩
    rcases three p.2 with ⟨_, q⟩ | ⟨z, _, _⟩ | ⟨_, q⟩
    · exact q
    · have e := (inT _ hm).1
      rw [z, ha, ← hso] at e; cases e
    · exact absurd hm q
  have hS : SqL K H a (ns.map V.int) := by
    rcases three a with ⟨z, _⟩ | ⟨_, _, q⟩ | ⟨q, nt⟩
    · have e := (inT a z).1
      rw [ha, ← hso] at e; cases e
    · exact .inl (.inr ⟨so, q⟩)
    · cases e : K.lookup a with
      | none => rw [← hH] at q; unfold H0 at q; rw [if_neg nt, if_pos ⟨rfl, e⟩] at q; cases q
      | some o =>
        have e2 := KX a o e
        rw [ha, ← hso] at e2; cases e2
        exact .inr ⟨_, vs.toArray, _, e, rfl, rfl, rfl, by rw [List.size_toArray, lv]; exact hlen, by simpa using rv⟩
  have e0 : Env0 P w K mg (hidT s.heap H) callerA [] s H := ⟨rfl, ⟨kb, lowNs _ _ hns, ⟨mb, lowNs _ _ hbl, hbb⟩, let ⟨mc, q1, q2⟩ := hlim; ⟨mc, lowNs _ _ q1, q2⟩⟩, fun b o e => of_hidT e, Nat.le_of_eq (hidT_size _ _), trivial, (fun b z => nomatch z), hok, .of_eq hg⟩
  refine codeAny_mono (run_at (vs := [.ref a]) (us := [.ref a]) (Q := fun v _ => v = .bl true) (E := fun _ _ _ => False) F S hr e0 (hb s (.ref a)) (.cons rfl .nil) rfl fun cdv hrm => ?_) fun r s' h => ?_
  · obtain ⟨t, p1, p2⟩ := body _ H cdv kb (lowNs _ _ hns) tb tabH hS hrm
    refine ⟨t, p1, ?_⟩
    have e : (fun (_ : L2.St) (H' : Hp) => (fun (v : V) (_ : Hp) => v = V.bl true) V.non H') = fun _ _ => False := by
      funext _ _
      exact propext ⟨(fun z => nomatch z), fun z => z.elim⟩
    rw [e]
    exact p2
  · match r, h with
    | .ok (.ret u), h =>
      obtain ⟨v, H', os, bare, un, hok', r', q⟩ := h
      obtain rfl : v = .bl true := q
      obtain rfl : u = Value.bool true := r'
      have grown : ∀ p ∈ cs, ∃ more : Array Value, s'.heap.get? p.2 = some { cls := .none, data := .fields more } := fun p hp => by
        obtain ⟨more, z⟩ := un.tbls p.2 #[] (tabH p hp)
        exact ⟨_, hok' p.2 _ z⟩
      have kept : ∀ b o, b ∉ cs.map (·.2) → s.heap.get? b = some o → s'.heap.get? b = some o := fun b o nb e => by
        rcases three b with ⟨z, _⟩ | ⟨z, _, q⟩ | ⟨q, _⟩
        · exact absurd z nb
        · have z2 := hok' b _ (un.frzs b so _ q)
          rw [z, ha] at e
          cases e
          exact z2.1
        · exact un.keep b o e q (by intro z; cases z) (by intro z; cases z)
      refine ⟨rfl, ⟨fun b o e => ?_, fun b o e => ?_⟩, os, bare⟩
      · by_cases hm : b ∈ cs.map (·.2)
        · obtain ⟨p, hp, rfl⟩ := List.mem_map.mp hm
          obtain ⟨more, z⟩ := grown p hp
          rw [hT p hp] at e
          cases e
          exact .inr (.inl ⟨((hC p hp).tab (hT p hp)).isCodeTable, rfl, #[], more, rfl, by rw [Array.empty_append]; exact z⟩)
        · exact .inl (kept b o hm e)
      · by_cases hm : b ∈ cs.map (·.2)
        · obtain ⟨p, hp, rfl⟩ := List.mem_map.mp hm
          obtain ⟨more, z⟩ := grown p hp
          exact ⟨_, z⟩
        · exact ⟨o, kept b o hm e⟩
/-! ### repr of data -/
/-- repr(x), x data -/
theorem call_repr {X : Cx} (hg : X.A.guards = some []) (hu : X.A.units + 64 < cLine) : CallR X (.builtin "repr") (fun xs H Q => ∃ (a : Addr) (d : PyData), xs = [.ref a] ∧ Dp X.K H (.ref a) d ∧ d.showable = true ∧ d.hasDict = false ∧ d.depth < 63 ∧ d.shown.length ≤ sizeLine ∧ Q (.str d.shown) H) := by
  intro pins s σ H xs us Q I r h
  obtain ⟨a, d, rfl, hd, h1, h2, h3, h4, q⟩ := h
  obtain ⟨u, rfl, ru⟩ := vals1 r
  obtain ⟨as, rd⟩ := Dp.reads I d _ u hd ru
  cases (show u = Value.ref a from ru)
  refine repr_of_reads' rd h1 (fun e => by rw [h2] at e; cases e) hg (by omega) (fun _ _ e => e) (fun h' u tk hk => ?_) h4
  exact ⟨.str d.shown, H, I.kept (t' := _) hk, ⟨_, rfl⟩, q⟩
end Lg

set_option Elab.async false
set_option linter.all false
set_option maxRecDepth 100000
set_option maxHeartbeats 4000000
namespace Lg
open PySem PySem.Spec PyProof.Rows L2
/-- the code object and the table of the def named x -/
def TabOf (mg : Str → Option Value) (h : Heap) (x : Str) (p : Addr × Addr) : Prop :=
  ∃ (a : Addr) (o : Obj) (fd : FuncData), mg x = some (.ref a) ∧ h.get? a = some o ∧ o.data = .func fd ∧ fd.code = .ref p.1 ∧ PySem.W.CodeHd h p.1 p.2 ∧ h.get? p.2 = some { cls := .none, data := .fields #[] }
theorem TabOf.code {K : PySem.W.Frag} {mg : Str → Option Value} {h : Heap} {x : Str} {p : Addr × Addr} {f : Addr} {cl : Value} {dd : Option Addr} {fd : FuncData} {sl : Array (Option Value)} (T : TabOf mg h x p) (X : K.In h) (hf : mg x = some (.ref f)) (l : K.lookup f = some ⟨cl, dd, .func fd, sl⟩) : fd.code = .ref p.1 := by
  obtain ⟨a, o, fd', h1, h2, h3, h4, _⟩ := T
  rw [hf] at h1
  cases h1
  rw [X _ _ l] at h2
  cases h2
  cases h3
  exact h4
theorem no_tab {K : PySem.W.Frag} {h : Heap} {P : Addr} (X : K.In h) (hK : PySem.W.noTabs K = true) (e : h.get? P = some { cls := .none, data := .fields #[] }) : K.lookup P = none := by
  cases z : K.lookup P with
  | none => rfl
  | some o =>
    have z2 := X _ _ z
    rw [e] at z2
    cases z2
    exact absurd (show false = true from List.all_eq_true.mp hK (P, _) (PySem.W.mem_of_lookupK z)) Bool.false_ne_true
theorem walk_of {l : PySem.W.OpenLaw} {n k : Nat} {q : Program} {loose : List Str} {XP : (Str → Option Value) → Heap → Prop} {YP : World → Heap → Prop} {d : DefRec} {K : Params → PySem.W.Frag} {x qual par : Str} {st : Stmt} {N : List Str} (names : List Str)
    (hn : l.most = some n) (hn2 : n ≤ sizeLine) (hdf : d.params.defaults = []) (hr : Room (k + 1) callerA) (hrec : (names.all fun y => (recsOf q).any fun e => e.name == y) = true) (hK : ∀ w : World, PySem.W.noTabs (K w.params) = true) (hY : ∀ (w : World) (h : Heap), YP w h → (K w.params).In h) (S : FnScope N [par] (defScope st))
    (F : ∀ (w : World) (mg : Str → Option Value) (fa : Addr) (h : Heap) (tb : Str → Addr × Addr), (K w.params).In h → h.Ns mainGlobals mg → mg d.name = some (.ref fa) → (∀ y ∈ names, TabOf mg h y (tb y)) →
      ∃ fd : FuncData, Fun (K w.params) x qual st fa fd ∧ (∀ (s : Shared) (u : Value), BindsTo s fd ⟨[u], []⟩ [(par, u)]) ∧ ∀ (base : Heap) (H : Hp) (cdv : Value) (a : Addr) (ns : List Int) (s : Shared), (K w.params).In base → base.Ns mainGlobals mg → (∀ y ∈ names, GxR.TabB base mg (tb y).1 (tb y).2) → (∀ y ∈ names, H (tb y).2 = some (.tbl #[])) → ns.length ≤ n → (∀ z ∈ ns, Builtin.Int.intBits z ≤ 1048576) → SqL (K w.params) H a (ns.map V.int) → Room k (callerA.deeper (envOfC qual (defScope st) s.heap.objs.size fa cdv)) →
        ∃ t, PSs (cxOf CX0 l.prog w (K w.params) mg base N qual (defScope st) fa cdv callerA [] s H (fun _ _ _ => False)).nox (defBody st) t ∧ t { nx := fun _ _ => False, rt := fun v _ => v = .bl true } (start N [.ref a]) H) :
    PySem.W.WalkO q loose XP YP l.row.toRowW d [] (fun f vs => PySem.call f vs) := by
  refine Att.attach_callB hn hdf fun w s₀ s₁ mg mb fa o pm cd doc a vs ns G Y ho hd hcd hmg hobj hints hlen hbits hg => ?_
  have KX := hY w _ Y
  have ex : ∀ y : Str, ∃ p : Addr × Addr, y ∈ names → TabOf mg s₁.heap y p := fun y => by
    by_cases hy : y ∈ names
    · obtain ⟨dL, hm, hn1⟩ := List.any_eq_true.mp (List.all_eq_true.mp hrec y hy)
      have hn2 : dL.name = y := beq_iff_eq.mp hn1
      obtain ⟨a', o', fd', c', P', h1, h2, h3, h4, h5, h6⟩ := G.T.tab dL hm
      rw [hn2] at h1
      exact ⟨(c', P'), fun _ => ⟨a', o', fd', h1, h2, h3, h4, PySem.W.CodeHd.of h5 h6, h6.2⟩⟩
    · exact ⟨(0, 0), fun z => absurd z hy⟩
  have tbx : ∃ tb : Str → Addr × Addr, ∀ y ∈ names, TabOf mg s₁.heap y (tb y) := ⟨fun y => Classical.choose (ex y), fun y => Classical.choose_spec (ex y)⟩
  obtain ⟨tb, ht⟩ := tbx
  obtain ⟨fd, hF, hb, body⟩ := F w mg fa _ tb KX G.T.g hmg ht
  have cm : ∀ p ∈ names.map tb, ∃ y ∈ names, tb y = p := fun p hp => List.mem_map.mp hp
  refine law_at (cs := names.map tb) KX G.T.g G.T.b G.T.builtins G.T.nolimit hg (fun p hp => ?_) (fun p hp => ?_) (fun p hp => ?_) G.T.bmain hobj hints (Nat.le_trans hlen hn2) hr hF S hb fun base H cdv kb gn tB tH hS hrm => body base H cdv a ns s₁ kb gn (fun y hy => tB _ (List.mem_map_of_mem hy)) (fun y hy => tH _ (List.mem_map_of_mem hy)) hlen hbits hS hrm
  · obtain ⟨y, hy, rfl⟩ := cm p hp
    obtain ⟨_, _, _, _, _, _, _, _, z⟩ := ht y hy
    exact z
  · obtain ⟨y, hy, rfl⟩ := cm p hp
    obtain ⟨_, _, _, _, _, _, _, _, z⟩ := ht y hy
    exact no_tab KX (hK w) z
  · obtain ⟨y, hy, rfl⟩ := cm p hp
    obtain ⟨_, _, _, _, _, _, _, z, _⟩ := ht y hy
    exact z
end Lg

set_option Elab.async false
set_option linter.all false
set_option maxRecDepth 100000
set_option maxHeartbeats 4000000
/-! fillings, counts, clashes: the data -/
namespace Dt
open PySem PySem.Spec PyProof.Rows L2
def longer (hues : Nat) (f : List Int) : List (List Int) := (List.range hues).map fun (h : Nat) => f ++ [(h : Int)]
def fillL (hues : Nat) : Nat → List (List Int)
  | 0 => [[]]
  | n + 1 => (fillL hues n).flatMap (longer hues)
theorem fill_good {hues : Nat} : ∀ {n : Nat} {f : List Int}, f ∈ fillL hues n → f.length = n ∧ ∀ h ∈ f, 0 ≤ h ∧ h < (hues : Int)
  | 0, f, h => by
    cases List.mem_singleton.mp h
    exact ⟨rfl, fun _ z => nomatch z⟩
  | n + 1, f, h => by
    obtain ⟨g, hg, hf⟩ := List.mem_flatMap.mp h
    obtain ⟨k, hk, rfl⟩ := List.mem_map.mp hf
    obtain ⟨l, a⟩ := fill_good hg
    have hk := List.mem_range.mp hk
    refine ⟨by simp [l], fun z hz => ?_⟩
    rcases List.mem_append.mp hz with q | q
    · exact a z q
    · cases List.mem_singleton.mp q
      omega
theorem longer_len (hues : Nat) (f : List Int) : (longer hues f).length = hues := by simp [longer]
theorem flat_len {hues : Nat} : ∀ l : List (List Int), (l.flatMap (longer hues)).length = l.length * hues
  | [] => by simp
  | f :: r => by rw [List.flatMap_cons, List.length_append, longer_len, flat_len r, List.length_cons, Nat.succ_mul, Nat.add_comm]
theorem fill_len (hues : Nat) : ∀ n : Nat, (fillL hues n).length = hues ^ n
  | 0 => by simp [fillL]
  | n + 1 => by rw [fillL, flat_len, fill_len hues n, Nat.pow_succ]
theorem fill_goodF {many hues : Int} (m0 : 0 ≤ many) (h0 : 0 ≤ hues) {f : List Int} (h : f ∈ fillL hues.toNat many.toNat) : GoodF many hues f := by
  obtain ⟨a, b⟩ := fill_good h
  exact ⟨by omega, fun z hz => by have := b z hz; omega⟩
theorem pow_le_4096 {h n : Nat} (hh : h ≤ 4) (hn : n ≤ 6) : h ^ n ≤ 4096 := by
  have a : h ^ n ≤ 4 ^ n := Nat.pow_le_pow_left hh n
  have b : 4 ^ n ≤ 4 ^ 6 := Nat.pow_le_pow_right (by decide) hn
  have c : (4 : Nat) ^ 6 = 4096 := by decide
  omega
/-! ### counts -/
def bump (ns : List Int) (i : Nat) : List Int := ns.set i (ns.getD i 0 + 1)
def cnt0 (wds : List WD) : List Int := List.replicate (wds.length + 1) 0
def cntL (wds : List WD) (fss : List (List Int)) : List Int := fss.foldl (fun ns f => bump ns (broL f wds wds.length).length) (cnt0 wds)
theorem cnt_snoc (wds : List WD) (fss : List (List Int)) (f : List Int) : cntL wds (fss ++ [f]) = bump (cntL wds fss) (broL f wds wds.length).length := by
  unfold cntL
  rw [List.foldl_append]
  rfl
theorem bump_len (ns : List Int) (i : Nat) : (bump ns i).length = ns.length := by simp [bump]
theorem foldl_len (wds : List WD) : ∀ (fss : List (List Int)) (ns : List Int), (fss.foldl (fun ns f => bump ns (broL f wds wds.length).length) ns).length = ns.length
  | [], _ => rfl
  | f :: r, ns => by rw [List.foldl_cons, foldl_len wds r, bump_len]
theorem cnt_len (wds : List WD) (fss : List (List Int)) : (cntL wds fss).length = wds.length + 1 := by
  unfold cntL
  rw [foldl_len]
  simp [cnt0]
theorem bump_mem {ns : List Int} {i : Nat} {b : Int} (h : ∀ z ∈ ns, 0 ≤ z ∧ z ≤ b) (hb : 0 ≤ b) : ∀ z ∈ bump ns i, 0 ≤ z ∧ z ≤ b + 1 := fun z hz => by
  unfold bump at hz
  rcases List.mem_or_eq_of_mem_set hz with q | q
  · have := h z q; omega
  · subst q
    rw [List.getD_eq_getElem?_getD]
    cases e : ns[i]? with
    | none => simp; omega
    | some x => have := h x (List.mem_of_getElem? e); simp; omega
theorem foldl_mem (wds : List WD) : ∀ (fss : List (List Int)) (ns : List Int) (b : Int), 0 ≤ b → (∀ z ∈ ns, 0 ≤ z ∧ z ≤ b) → ∀ z ∈ fss.foldl (fun ns f => bump ns (broL f wds wds.length).length) ns, 0 ≤ z ∧ z ≤ b + fss.length
  | [], _, b, _, h => fun z hz => by have := h z hz; simp; omega
  | f :: r, ns, b, hb, h => fun z hz => by
    have := foldl_mem wds r (bump ns (broL f wds wds.length).length) (b + 1) (by omega) (bump_mem h hb) z hz
    rw [List.length_cons]
    omega
theorem cnt_mem (wds : List WD) (fss : List (List Int)) : ∀ z ∈ cntL wds fss, 0 ≤ z ∧ z ≤ fss.length := fun z hz => by
  have := foldl_mem wds fss (cnt0 wds) 0 (by omega) (fun z hz => by
    have := List.eq_of_mem_replicate hz
    omega) z hz
  omega
theorem bump_eq {ns : List Int} {i : Nat} {x : Int} (h : ns[i]? = some x) : bump ns i = ns.set i (x + 1) := by
  unfold bump
  rw [List.getD_eq_getElem?_getD, h]
  rfl
/-! ### clashes -/
def clB (a b : WD) : Bool := a.1.any fun p => decide (p ∈ b.1)
theorem clB_comm (a b : WD) : clB a b = clB b a := by
  rw [Bool.eq_iff_iff]
  unfold clB
  simp only [List.any_eq_true, decide_eq_true_eq]
  exact ⟨fun ⟨x, h1, h2⟩ => ⟨x, h2, h1⟩, fun ⟨x, h1, h2⟩ => ⟨x, h2, h1⟩⟩
def clAt (wds : List WD) (a : WD) (k : Nat) : Bool := match wds[k]? with
  | some wd => clB a wd
  | none => false
def clsL (wds : List WD) (a : WD) (i : Nat) : List Int := ((List.range i).filter (clAt wds a)).map fun (k : Nat) => (k : Int)
theorem clAt_of {wds : List WD} {a wd : WD} {k : Nat} (h : wds[k]? = some wd) : clAt wds a k = clB a wd := by
  unfold clAt
  rw [h]
theorem clsL_yes {wds : List WD} {a : WD} {i : Nat} (h : clAt wds a i = true) : clsL wds a (i + 1) = clsL wds a i ++ [(i : Int)] := by
  unfold clsL
  rw [List.range_succ, List.filter_append, List.map_append]
  simp [h]
theorem clsL_no {wds : List WD} {a : WD} {i : Nat} (h : clAt wds a i = false) : clsL wds a (i + 1) = clsL wds a i := by
  unfold clsL
  rw [List.range_succ, List.filter_append, List.map_append]
  simp [h]
theorem clsL_len (wds : List WD) (a : WD) (i : Nat) : (clsL wds a i).length ≤ i := by
  unfold clsL
  rw [List.length_map]
  have q := List.length_filter_le (clAt wds a) (List.range i)
  rw [List.length_range] at q
  exact q
theorem clsL_mem {wds : List WD} {a : WD} {i : Nat} {z : Int} (h : z ∈ clsL wds a i) : 0 ≤ z ∧ z < i := by
  unfold clsL at h
  obtain ⟨k, hk, rfl⟩ := List.mem_map.mp h
  have := List.mem_range.mp (List.mem_filter.mp hk).1
  omega
def clsAll (wds : List WD) : List (List Int) := wds.map fun wd => clsL wds wd wds.length
/-! ### fine data -/
theorem short_int (m : Nat) (h : m < 10 ^ 10) : PyData.intsShort 13 (.int (m : Int)) = true := by
  have e := (Nat.length_repr_le_iff (n := m) (by decide : 0 < 10)).mpr h
  show decide ((Str.ofString (Nat.repr m)).length ≤ 13) = true
  rw [decide_eq_true_eq, Str.ofString_eq_toList]
  have z : (Str.mk ((Nat.repr m).toList.map Char.toNat).toArray).length = (Nat.repr m).length := by
    show ((Nat.repr m).toList.map Char.toNat).toArray.size = _
    rw [List.size_toArray, List.length_map, String.length_toList]
  omega
theorem fine_intM {i : Int} (h0 : 0 ≤ i) (h1 : i < 5000) : Fine (.int i) 1 14 := by
  obtain ⟨n, rfl⟩ : ∃ n : Nat, i = n := ⟨i.toNat, by omega⟩
  have hn : n < 5000 := by omega
  have hl : n.log2 ≤ 12 := by
    by_cases e : n = 0
    · subst e; decide
    · have := (Nat.log2_lt e).mpr (show n < 2 ^ 13 by omega)
      omega
  refine ⟨rfl, by simp [PyData.depth], ?_, ?_, rfl, short_int n (by omega)⟩
  · simp only [PyData.weight]
    split
    · omega
    · have e : ((n : Int)).natAbs = n := by omega
      rw [e]
      omega
  · simp only [PyData.showable]
    have e : ((n : Int)).natAbs = n := by omega
    rw [e]
    exact decide_eq_true (by omega)
theorem fine_ints {ns : List Int} (h : ∀ z ∈ ns, 0 ≤ z ∧ z < 5000) : Fine (.list (ns.map .int)) 2 (ns.length * 15) :=
  (Fine.list (fineAll_map ns fun z hz => fine_intM (h z hz).1 (h z hz).2)).mono (by omega) (by omega)
def listsD (ls : List (List Int)) : PyData := .list (ls.map fun l => .list (l.map .int))
theorem fine_lists {ls : List (List Int)} (hl : ls.length ≤ 300) (h : ∀ l ∈ ls, l.length ≤ 20 ∧ ∀ z ∈ l, 0 ≤ z ∧ z < 5000) : Fine (listsD ls) 3 100000 := by
  refine (Fine.list (fineAll_map (n := 2) (w := 300) ls fun l hl => (fine_ints (h l hl).2).mono (Nat.le_refl _) (by have := (h l hl).1; omega))).mono (by omega) (by omega)
end Dt

set_option Elab.async false
set_option linter.all false
set_option maxRecDepth 100000
set_option maxHeartbeats 4000000
/-! elements of generator expressions: x in f[0] -/
namespace Gv
open PySem PySem.Spec PyProof.Rows L2
variable {X : Cx} {pins : List (Addr × Obj)} {σ : L2.St}
theorem reads_ints (h : Heap) : ∀ (ns : List Int) (us : List Value), Vals (ns.map V.int) us → ∃ as, ReadsAll h us (ns.map PyData.int) as
  | [], _, r => by cases r; exact ⟨_, .nil⟩
  | n :: q, _, r => by
    cases r with
    | cons r1 r2 =>
      obtain ⟨as, z⟩ := reads_ints h q _ r2
      obtain ⟨t, rfl⟩ := r1
      exact ⟨_, .cons (.int n t) z⟩
theorem canAll_ints : ∀ ns : List Int, PyData.canLayAll0 (ns.map PyData.int) = true
  | [] => rfl
  | n :: q => by simp only [List.map_cons, PyData.canLayAll0, PyData.canLay0, canAll_ints q, Bool.and_self]
theorem any_ints (n : Int) : ∀ ns : List Int, ((ns.map PyData.int).any fun y => PyData.eqv y (.int n)) = decide (n ∈ ns)
  | [] => by simp
  | m :: q => by
    rw [List.map_cons, List.any_cons, any_ints n q]
    by_cases e : m = n
    · subst e; simp [PyData.eqv]
    · have e2 : ¬ n = m := fun z => e z.symm
      simp [PyData.eqv, e, e2]
theorem elt_in0 {f x : Str} {scope : Scope} {P fa pa : Addr} {H1 : Hp} {xs ys zs : List V} {ns : List Int} {j jj : Nat} {p1 p2 p3 p4 p5 : Pos} (hk : scope.kind = .function) (hx : scope.names.lookup x = some .local) (hf : scope.names.lookup f = some .free)
    (hcl : (cloFrom X.env.cells scope.names []).lookup f = some ((X.env.cells.lookup f).getD 0)) (hj : X.N[j]? = some f) (hkf : X.env.kindOf f = some .cell) (hσ : σ[j]? = some (some (.ref fa))) (hq : SqT X.K H1 fa (.ref pa :: zs)) (hp : SqT X.K H1 pa (ns.map V.int)) (hT : GxR.TabG H1 P) (hu : X.A.units + 64 < cLine)
    (hv : ∀ (i : Nat) x0, xs[i]? = some x0 → ∃ (n : Int), x0 = .int n ∧ ys[i]? = some (.bl (decide (n ∈ ns)))) (hdf : (f == ("__debug__" : Str)) = false := by decide) (hdx : (x == ("__debug__" : Str)) = false := by decide) (hcf : (f == ("__classdict__" : Str)) = false := by decide) :
    EltV X pins σ scope x (.Compare (.Name x p1) [.In] [.Subscript (.Name f p2) (.Constant (.int 0) jj p3) p4] p5) P H1 xs ys := by
  intro s1 t C code bi A' E' i x0 u m I hA hU hx0 ru hn hm hkp
  obtain ⟨n, rfl, hy⟩ := hv i x0 hx0
  obtain ⟨tk, rfl⟩ := (show ∃ t, u = Value.int n t from ru)
  obtain ⟨ps, hP, _⟩ := hT
  have tabS : s1.heap.get? P = some { cls := .none, data := .fields ps } := I.hok P _ hP
  obtain ⟨m1, _, hl⟩ := I.loc
  obtain ⟨uf, rf, lk⟩ := hl j f _ hj hσ (.inr (.inl hkf))
  cases (show uf = Value.ref fa from rf)
  obtain ⟨c, hc, ic⟩ : ∃ c, X.env.cells.lookup f = some c ∧ s1.heap.IsCell c (some (.ref fa)) := by
    rcases lk with ⟨z, _⟩ | ⟨_, c, hc, ic⟩
    · rw [hkf] at z; cases z
    · exact ⟨c, hc, ic⟩
  have ic2 : t.heap.IsCell c (some (.ref fa)) := by
    obtain ⟨o, ho, hd⟩ := ic
    refine ⟨o, hkp c o (fun z => ?_) ho, hd⟩
    rw [z, tabS] at ho
    cases ho
    cases hd
  have tup2 : ∀ {a : Addr} {its : Array Value}, IsTup s1.heap a its → IsTup t.heap a its := fun {a its} pl => by
    obtain ⟨o, ho, hcl', nn, hd⟩ := pl
    refine ⟨o, hkp a o (fun z => ?_) ho, hcl', nn, hd⟩
    rw [z, tabS] at ho
    cases ho
    cases hd
  obtain ⟨its, rv, pl, hz⟩ := I.tuple hq
  have pl2 := tup2 pl
  obtain ⟨its2, rv2, plb, hz2⟩ := I.tuple hp
  have plb2 := tup2 plb
  have clf : (genEnv scope (cloFrom X.env.cells scope.names []) C code bi X.env).cells.lookup f = some c := by
    show (cloFrom X.env.cells scope.names []).lookup f = some c
    rw [hcl, hc]
    rfl
  have hat0 : atI (.ref pa :: zs) 0 = some (.ref pa) := atI_nat (j := 0) rfl
  obtain ⟨j2, h1, h2, h3, h4, h5⟩ := atI_get hat0
  obtain ⟨wv, ew, rw'⟩ := rv.get h2
  cases (show wv = Value.ref pa from rw')
  have hlen := rv.length
  refine wpAny_Compare1 ?_
  refine wpAny_Name (wpAny_loadName_local hk hx hn hm ?_) hdx
  refine Subscript_ (wpAny_Name (wpAny_loadName_free hk hf clf ic2 ?_ hcf) hdf)
  refine wpAny_Constant_int ?_
  refine subscriptTail_builtinR (x := Value.ref pa) (show IsTup { t with toks := t.toks + 1 }.heap fa its.toArray from pl2).typeIs slot_tuple_getitem.lookup
    (getItem_tuple (j := j2) (show IsTup { t with toks := t.toks + 1 }.heap fa its.toArray from pl2) (by decide) (by decide) (by rw [List.size_toArray, ← hlen]; exact h1) (by simpa using ew) ⟨rfl, ?_⟩) (by rfl)
  obtain ⟨as, ra⟩ := reads_ints t.heap ns its2 rv2
  obtain ⟨o, ho, hcl', nn, hd⟩ := plb2
  refine PySem.SeqAt.in_tuple_reads (xs := ns.map PyData.int) (d := .int n) (.tuple (h := t.heap) ho hcl' hd (by simpa using ra)) (.int n tk) (canAll_ints ns) rfl ?_ ⟨⟨_, hy, ?_⟩, GxR.keeps_tok _ _⟩
  · have : min (PyData.depthAll (ns.map PyData.int)) (PyData.int n).depth ≤ 1 := Nat.le_trans (Nat.min_le_right _ _) (by simp [PyData.depth])
    omega
  · rw [any_ints]
    rfl
end Gv

set_option Elab.async false
set_option linter.all false
set_option maxRecDepth 100000
set_option maxHeartbeats 4000000
/-! comprehensions with two fors: the loops; an item of a list, by values -/
namespace Cp
open PySem PySem.Spec PyProof.Rows L2
theorem lc2_list {K : PySem.W.Frag} {a : Addr} {xs : List V} {g : TG} {tt : TT} {B : L2.St → Hp → (Hp → Prop) → Prop} {vs : List Nat} {σ : L2.St} {H1 : Hp} {D : Addr} {Qd : Hp → Prop} (Pv : Nat → Hp → Prop) (h0 : Pv 0 (upd H1 D (.lst []))) (hl : ∀ i H, i ≤ xs.length → Pv i H → SqL K H a xs)
    (hs : ∀ i x H, xs[i]? = some x → Pv i H → g x (wipe σ vs) H fun σ2 H2 => wipe σ2 vs = wipe σ vs ∧ tt σ2 H2 fun b H3 => if b = true then B σ2 H3 (Pv (i + 1)) else Pv (i + 1) H3) (hd : ∀ H, Pv xs.length H → Qd H) :
    ∃ W : Nat → Nat → Hp → Prop, (∃ m, W 0 m (upd H1 D (.lst []))) ∧ ∀ i m H, W i m H →
      ((Itl K a).stop i H ∧ Qd H) ∨ ((Itl K a).go i H ∧ ∃ Nx : Hp → Prop, (∀ H', Nx H' → ∃ m', m' < m ∧ W (i + 1) m' H') ∧ ∀ x H', (Itl K a).yld i H x H' → g x (wipe σ vs) H' fun σ2 H2 => wipe σ2 vs = wipe σ vs ∧ tt σ2 H2 fun b H3 => if b = true then B σ2 H3 Nx else Nx H3) := by
  refine ⟨fun i m H => m = xs.length - i ∧ i ≤ xs.length ∧ Pv i H, ⟨xs.length, by simp, Nat.zero_le _, h0⟩, ?_⟩
  rintro i m H ⟨rfl, hi, p⟩
  have q := hl i H hi p
  by_cases hlt : i < xs.length
  · refine .inr ⟨⟨xs, xs[i], q, by simp [hlt]⟩, Pv (i + 1), fun H' p' => ⟨xs.length - (i + 1), by omega, rfl, hlt, p'⟩, fun x H' y => ?_⟩
    obtain ⟨e, y⟩ := y
    subst e
    exact hs i x _ (y xs q) p
  · have e : i = xs.length := by omega
    subst e
    exact .inl ⟨⟨xs, q, by simp⟩, hd H p⟩
theorem lcin_range {lo : Int} {n : Nat} {g : TG} {tt : TT} {te : TE} {vs : List Nat} {σ : L2.St} {H4 : Hp} {D : Addr} {Qd : Hp → Prop} (Pv : Nat → Hp → Prop) (h0 : Pv 0 H4)
    (hs : ∀ i H, i < n → Pv i H → g (.int (lo + i)) (wipe σ vs) H fun σ2 H2 => wipe σ2 vs = wipe σ vs ∧ tt σ2 H2 fun b H3 =>
      if b = true then te σ2 H3 fun y H4 => ∃ acc, H4 D = some (.lst acc) ∧ acc.length < sizeLine ∧ Pv (i + 1) (upd H4 D (.lst (acc ++ [y]))) else Pv (i + 1) H3) (hd : ∀ H, Pv n H → Qd H) :
    ∃ W : Nat → Nat → Hp → Prop, (∃ m, W 0 m H4) ∧ ∀ i m H, W i m H →
      ((Itr lo n).stop i H ∧ Qd H) ∨ ((Itr lo n).go i H ∧ ∃ Nx : Hp → Prop, (∀ H', Nx H' → ∃ m', m' < m ∧ W (i + 1) m' H') ∧ ∀ x H', (Itr lo n).yld i H x H' → g x (wipe σ vs) H' fun σ2 H2 => wipe σ2 vs = wipe σ vs ∧ tt σ2 H2 fun b H3 =>
        if b = true then te σ2 H3 fun y H4 => ∃ acc, H4 D = some (.lst acc) ∧ acc.length < sizeLine ∧ Nx (upd H4 D (.lst (acc ++ [y]))) else Nx H3) := by
  refine ⟨fun i m H => m = n - i ∧ i ≤ n ∧ Pv i H, ⟨n, by simp, Nat.zero_le _, h0⟩, ?_⟩
  rintro i m H ⟨rfl, hi, p⟩
  by_cases hlt : i < n
  · refine .inr ⟨hlt, Pv (i + 1), fun H' p' => ⟨n - (i + 1), by omega, rfl, hlt, p'⟩, fun x H' y => ?_⟩
    obtain ⟨e, y⟩ := y
    subst e y
    exact hs i _ hlt p
  · have e : i = n := by omega
    subst e
    exact .inl ⟨Nat.le_refl _, hd H p⟩
/-- xs[k], k from 0 on -/
def rIxN (K : PySem.W.Frag) : V → V → Hp → VK → Prop := fun x y H Q => ∃ (p : Addr) (xs : List V) (k : Nat) (v : V), x = .ref p ∧ y = .int k ∧ SqL K H p xs ∧ xs[k]? = some v ∧ Q v H
theorem pget_list {X : Cx} : PGet X (rIxN X.K) := by
  intro pins s σ H o i ov iv Q I ro ri h
  obtain ⟨p, xs, k, z, rfl, rfl, hq, he, q⟩ := h
  cases ro
  obtain ⟨t, rfl⟩ := ri
  obtain ⟨its, r, pl, hz⟩ := I.list hq
  obtain ⟨w, ew, rw'⟩ := r.get he
  have hl := r.length
  have hn := line63
  have hk := (List.getElem?_eq_some_iff.mp he).1
  exact wpAny_getItem_list pl.isList (by omega) (by omega) (by simpa using ew) ⟨z, H, I, rw', q⟩
end Cp

set_option Elab.async false
set_option linter.all false
set_option maxRecDepth 100000
set_option maxHeartbeats 4000000
/-! all(..) and any(..) of a generator expression: any source, any target, any element -/
namespace Gx
open PySem PySem.Spec PyProof.Rows L2 GenW
/-- the element's context: a frame of its own over the def's -/
abbrev gcx (X : Cx) (A : Around) (s : Shared) (H : Hp) (cenv : Env) (fp : List Addr) : Cx :=
  { X with A := A, s_0 := s, H_0 := H, env := cenv, outer := X.stack, stack := cenv :: X.stack, ex := fp, fn := fun _ => false, pn := [], xe := fun _ _ => False }
structure GenK (scope : Scope) : Prop where
  co : scope.isCoroutine = false
  cell : ∀ y ∈ scope.names, y.2 ≠ .cell
  dot : scope.names.lookup (".0" : Str) = some NameKind.local
/-- nothing but the generators' own table has turned -/
structure Kept (s s' : Shared) : Prop where
  os : s'.os = s.os
  bare : AllBare s'.gens
  keep : ∀ b o, s.heap.get? b = some o → s'.heap.get? b = some o
theorem Inv.keptS {X : Cx} {pins : List (Addr × Obj)} {σ : L2.St} {H : Hp} {s s' : Shared} (I : Inv X pins σ H s) (k : Kept s s') : Inv X pins σ H s' :=
  I.call' (ch := []) k.os (Un.kept k.keep) (I.hok.kept k.keep) k.bare fun b z => by simp at z
section
variable {X : Cx} {pins : List (Addr × Obj)} {σ : L2.St} {H : Hp} {s : Shared}
theorem gen_start {scope : Scope} {own : List (Str × Nat)} {fp : List Addr} {code : Value} {A : Around} {s' : Shared} {m : Str → Option Value} (I : Inv X pins σ H s) (ok : BlkOk X.N X.env.scope scope own) (S : GenK scope) (hN : X.N.Nodup) (hfp : ∀ b ∈ fp, FpOk X pins H b ∧ b < s.heap.objs.size)
    (hA : A.handled = none) (hfr : A.frames = some (genEnv scope (cloFrom X.env.cells scope.names []) s.heap.objs.size code builtinsNs X.env :: X.stack))
    (k : Kept s s') (hns : s'.heap.Ns s.heap.objs.size m) :
    Inv (gcx X A s H (genEnv scope (cloFrom X.env.cells scope.names []) s.heap.objs.size code builtinsNs X.env) fp) [] (wipe σ (own.map (·.2))) H s' := by
  have hfree : ∀ y ∈ scope.names, y.2 = .free → ∃ c, X.env.cells.lookup y.1 = some c := fun y hy e => by
    rcases ok.free y hy e with k | k
    · exact I.ok.has _ (.inl k)
    · exact I.ok.has _ (.inr k)
  generalize hcenv : genEnv scope (cloFrom X.env.cells scope.names []) s.heap.objs.size code builtinsNs X.env = cenv at hfr
  have hL : cenv.locals = s.heap.objs.size := by rw [← hcenv]; rfl
  have hcl : cenv.cells = cloFrom X.env.cells scope.names [] := by rw [← hcenv]; rfl
  have hsc : cenv.scope = scope := by rw [← hcenv]; rfl
  have mem : ∀ {y c}, cenv.cells.lookup y = some c → X.env.cells.lookup y = some c ∧ c < s.heap.objs.size := fun {y c} e => by
    rw [hcl] at e
    rcases cloFrom_mem (PySem.mem_of_lookup e) with hm | ⟨h1, rfl⟩
    · cases hm
    · obtain ⟨c, hc⟩ := hfree _ h1 rfl
      rw [hc]
      obtain ⟨w, z⟩ := I.cell _ _ hc
      exact ⟨rfl, z.lt⟩
  have look : ∀ {y}, scope.names.lookup y = some .free → ∃ c, cenv.cells.lookup y = some c ∧ X.env.cells.lookup y = some c := fun {y} hl => by
    have hy : (y, NameKind.free) ∈ scope.names := PySem.mem_of_lookup hl
    obtain ⟨c', e'⟩ := mem_lookup (cloFrom_has (cells := X.env.cells) (acc := []) hy)
    rw [← hcl] at e'
    exact ⟨c', e', (mem e').1⟩
  have okB : (gcx X A s H cenv fp).Ok := by
    refine ⟨I.ok.mod, by show cenv.scope.kind = _; rw [hsc]; exact ok.kind, by show cenv.globals = _; rw [← hcenv]; exact I.ok.glob, by show cenv.builtins = _; rw [← hcenv]; rfl, by show s.heap.objs.size ≤ cenv.locals; rw [hL]; exact Nat.le_refl _,
      fun y z c e1 e2 => I.ok.inj y z c (mem e1).1 (mem e2).1, fun y hy => ?_, (fun y c z e => nomatch z), fun _ => hA, hfr, .inr ⟨rfl, ?_⟩, fun b hb => ⟨?_, fun y c e z => ?_⟩, I.bs, Nat.le_trans I.ok.bsz I.sz, fun b o e hb => ?_, fun b hb z => ?_, I.stack, I.stkFree⟩
    · show ∃ c, cenv.cells.lookup y = some c
      rcases hy with hy | hy
      · have e : scope.names.lookup y = some .cell := by rw [← hsc]; exact hy
        exact absurd rfl (S.cell _ (PySem.mem_of_lookup e))
      · have e : scope.names.lookup y = some .free := by rw [← hsc]; exact hy
        obtain ⟨c, h1, _⟩ := look e
        exact ⟨c, h1⟩
    · show cenv.frame = some cenv.locals
      rw [← hcenv]
      rfl
    · show b ≠ cenv.locals
      rw [hL]; exact Nat.ne_of_lt (hfp b hb).2
    · exact (hfp b hb).1.2.2.2.2.1 y c (mem e).1 z
    · rcases (hfp b hb).1.2.2.2.1 with z | z
      · exact I.ok.noex b o e z
      · exact absurd (Nat.lt_of_lt_of_le (Heap.lt_size e) (Nat.le_trans I.ok.bsz z)) (Nat.lt_irrefl _)
    · rcases List.mem_cons.mp (I.stkSub b z) with z | z
      · exact (hfp b hb).1.2.1 z
      · exact (hfp b hb).1.2.2.1 z
  refine ⟨okB, k.os, k.bare, Un.kept k.keep, ⟨m, ?_, fun i y av e1 e2 e3 => ?_⟩, fun y c e => ?_, ?_, fun y c e => I.freeC y c (mem e).1, fun p hp => ?_, I.hok.kept k.keep, by rw [wipe_length]; exact I.len⟩
  · show Heap.Ns _ cenv.locals _
    rw [hL]
    exact hns
  · obtain ⟨e2, hne⟩ := wipe_some e2
    have hfr : scope.names.lookup y = some .free := by
      have key : ∀ k, scope.names.lookup y = some k → k = .local ∨ k = .cell ∨ k = .free → scope.names.lookup y = some .free := fun k e hk' => by
        have no : ¬ (k = .local ∨ k = .cell) := fun hh => by
          rcases ok.own _ (PySem.mem_of_lookup e) hh with e' | e'
          · obtain ⟨p, hp, hpy⟩ := List.mem_map.mp e'
            have e3 := ok.ix p hp
            have : p.1 = y := hpy
            rw [this] at e3
            exact hne (List.mem_map.mpr ⟨p, hp, nodup_ix hN e3 e1⟩)
          · exact e' (List.mem_of_getElem? e1)
        rcases hk' with rfl | rfl | rfl
        · exact absurd (.inl rfl) no
        · exact absurd (.inr rfl) no
        · exact e
      have e3 : Vis cenv.scope y := e3
      rw [hsc] at e3
      rcases e3 with e3 | e3 | e3
      · exact key _ e3 (.inl rfl)
      · exact key _ e3 (.inr (.inl rfl))
      · exact key _ e3 (.inr (.inr rfl))
    obtain ⟨m2, hn, hl⟩ := I.loc
    have hvis : Vis X.env.scope y := (ok.free _ (PySem.mem_of_lookup hfr) rfl).elim (fun k => .inr (.inl k)) (fun k => .inr (.inr k))
    obtain ⟨w, r, q⟩ := hl i y av e1 e2 hvis
    refine ⟨w, r, .inr ⟨.inr (by show cenv.scope.names.lookup y = _; rw [hsc]; exact hfr), ?_⟩⟩
    obtain ⟨c, h1, h2⟩ := look hfr
    rcases q with ⟨k, _⟩ | ⟨_, c', e', z⟩
    · have k : X.env.scope.names.lookup y = some .local := k
      rcases ok.free _ (PySem.mem_of_lookup hfr) rfl with k' | k' <;> rw [show X.env.scope.names.lookup y = _ from k'] at k <;> cases k
    · rw [h2] at e'; cases e'
      exact ⟨c, h1, z.keeps k.keep⟩
  · obtain ⟨w, z⟩ := I.cell y c (mem e).1
    exact ⟨w, z.keeps k.keep⟩
  · show H cenv.locals = none
    rw [hL]; exact I.hok.fresh (Nat.le_refl _)
  · exact absurd (show p ∈ ([] : List (Addr × Obj)) ++ [] from hp) (by simp)
end
end Gx

set_option Elab.async false
set_option linter.all false
set_option maxRecDepth 100000
set_option maxHeartbeats 4000000
namespace Gx
open PySem PySem.Spec PyProof.Rows L2 GenW
/-- the end of the walk -/
def RG (X : Cx) (pz : List (Addr × Obj)) (σ0 : L2.St) (QT : Hp → Prop) : GenEnd := fun _ _ r s₁ => ((r = .ok (.ret .none) ∨ r = .ok .next) ∧ ∃ H', Inv X pz σ0 H' s₁ ∧ QT H') ∨ ∃ e, r = .error e ∧ False
/-- a truth is handed out: by d it goes on -/
def YG (X : Cx) (pz : List (Addr × Obj)) (d : Bool) (QF : Hp → Prop) : Protocol := fun _ _ v s kap => ∃ (c : Bool) (σ' : L2.St) (H' : Hp), v = .bool c ∧ Inv X pz σ' H' s ∧ (if c = d then ∀ s', Kept s s' → kap (.send .none) s' else QF H')
/-- the source's turns, the target, the tests, the element -/
def Turns (J : It) (g : TG) (tt : TT) (te : TE) (vs : List Nat) (σ : L2.St) (d : Bool) (QT QF : Hp → Prop) (W : Nat → Nat → Hp → Prop) : Prop := ∀ i m H, W i m H →
  (J.stop i H ∧ QT H) ∨ (J.go i H ∧ ∃ Nx : Hp → Prop, (∀ H', Nx H' → ∃ m', m' < m ∧ W (i + 1) m' H') ∧ ∀ x H', J.yld i H x H' → g x (wipe σ vs) H' fun σ2 H2 => wipe σ2 vs = wipe σ vs ∧ tt σ2 H2 fun b H3 =>
    if b = true then te σ2 H3 fun y H4 => ∃ c, y = .bl c ∧ (if c = d then Nx H4 else QF H4) else Nx H3)
section
variable {X : Cx} {A B : Around} {s3 : Shared} {H3 : Hp} {cenv : Env} {fp : List Addr} {σ : L2.St}
theorem seg_loop {elt tg iter : Expr} {ifs : List Expr} {scope : Scope} {pos : Pos} {it : Addr} {J : It} {tn : Nat → Heap → Prop} {g : TG} {tt : TT} {te : TE} {vs : List Nat} {d : Bool} {QT QF : Hp → Prop} {W : Nat → Nat → Hp → Prop} {pz : List (Addr × Obj)}
    (T : Turn X.prog X.w X.K tg J fp it tn) (hc : X.calm = true) (hov : B.over (.compLoop (.GeneratorExp elt [⟨tg, iter, ifs, 0⟩] scope pos) 0 (.ref it) .none cenv) [] = A) (hco : cenv.scope.isCoroutine = false) (hpz : ∀ p ∈ pz, p.1 ∉ fp)
    (pg : PG (gcx X A s3 H3 cenv fp) tg g) (pt : PTs (gcx X A s3 H3 cenv fp) ifs tt) (pe : PE (gcx X A s3 H3 cenv fp) elt te) (turn : Turns J g tt te vs σ d QT QF W) :
    ∀ (m n i : Nat) (s₀ s : Shared) (H : Hp), m < n → Inv (gcx X A s3 H3 cenv fp) pz (wipe σ vs) H s → tn i s.heap → (∀ b ∈ fp, H b = none) → W i m H →
      Seg (model X.prog X.w) B (RG (gcx X A s3 H3 cenv fp) pz (wipe σ vs) QT) (YG (gcx X A s3 H3 cenv fp) pz d QF) n s₀
        (.compLoop (.GeneratorExp elt [⟨tg, iter, ifs, 0⟩] scope pos) 0 (.ref it) .none cenv)
        ((model X.prog X.w).den (.compLoop (.GeneratorExp elt [⟨tg, iter, ifs, 0⟩] scope pos) 0 (.ref it) .none cenv)) [] s := by
  have stat : ∀ {σ' : L2.St} {H' : Hp} {s' : Shared}, Inv (gcx X A s3 H3 cenv fp) pz σ' H' s' → (∀ b ∈ fp, H' b = none) → ∀ b ∈ fp, FpOk (gcx X A s3 H3 cenv fp) pz H' b := fun {σ' H' s'} I' hn b hb =>
    ⟨hn b hb, (I'.ok.exf b hb).1, I'.ok.exfs b hb, .inl hb, fun x c e => (I'.ok.exf b hb).2 x c e, fun p hp z => hpz p (by simpa using hp) (by rw [z]; exact hb)⟩
  intro m
  induction m using Nat.strongRecOn with
  | ind m ih =>
    intro n i s₀ s H hmn I st nf w
    show Seg _ B _ _ _ s₀ _ ((compTurn (.GeneratorExp elt [⟨tg, iter, ifs, 0⟩] scope pos) 0 (.ref it) .none cenv).onRaise (leaving cenv)) [] s
    rw [compTurn_gen, Sem.onRaise_eq_wrap]
    refine seg_bind_wrap (wpAny_standAt ?_)
    rcases turn i m H w with ⟨stop, qq⟩ | ⟨go, Nx, hNx, step⟩
    · refine seg_bind_wrap ?_
      rw [hov]
      refine wpAny_mono (T.done (gcx X A s3 H3 cenv fp) rfl rfl rfl hc i pz s _ H (fun _ _ => False) I (stat I nf) st stop) (fun r s6 hx => ?_) fun _ _ e => e.elim
      obtain ⟨rfl, I6⟩ := hx
      exact seg_end (.ok .next) (.inl ⟨.inr rfl, H, I6, qq⟩)
    · refine seg_bind_wrap ?_
      rw [hov]
      refine wpAny_mono (T.item (gcx X A s3 H3 cenv fp) rfl rfl rfl hc i pz s _ H (fun _ _ => False) I (stat I nf) st go) (fun r s6 hx => ?_) fun _ _ e => e.elim
      obtain ⟨u, rfl, h6⟩ := hx
      refine seg_bind_wrap ?_
      rw [hov]
      refine wpAny_mono h6 (fun _ s7 hx => ?_) fun _ _ e => e.elim
      obtain ⟨x, H7, I7, r7, y7, st7, n7⟩ := hx
      have I7' := I7.pinned (stat I7 n7) (T.obj _ _ st7)
      refine seg_bind_wrap ?_
      rw [hov]
      refine wpAny_mono (pg.run _ s7 _ H7 x u _ I7' r7 (step x H7 y7)) (fun _ s8 hx => ?_) fun _ _ e => e.elim
      obtain ⟨σ8, H8, I8, hw8, q8⟩ := hx
      refine seg_bind_wrap ?_
      rw [hov]
      refine wpAny_mono (pt.run _ s8 σ8 H8 _ I8 q8) (fun b s9 hx => ?_) fun _ _ e => e.elim
      obtain ⟨H9, I9, q9⟩ := hx
      -- the turn's end
      have fin : ∀ {s' : Shared} {H' : Hp} {m' : Nat}, Inv (gcx X A s3 H3 cenv fp) (pz ++ pinsAt fp s7.heap) σ8 H' s' → Inv (gcx X A s3 H3 cenv fp) pz (wipe σ vs) H' s' ∧ tn (i + 1) s'.heap ∧ ∀ b ∈ fp, H' b = none := fun {s' H' m'} I' => by
        have pin' : ∀ b ∈ fp, ∀ o, s7.heap.get? b = some o → s'.heap.get? b = some o ∧ H' b = none := fun b hb o e =>
          let z := I'.pin (b, o) (List.mem_append_right _ (List.mem_append_right _ (mem_pinsAt hb e)))
          ⟨z.1, z.2.1⟩
        have hl : (wipe σ vs).length = σ8.length := by rw [← hw8, wipe_length]
        refine ⟨(I'.unpinned (pins := pz)).weak hl (fun j v e => ?_), T.keep _ _ _ st7 fun b hb o e => (pin' b hb o e).1, fun b hb => ?_⟩
        · rw [← hw8] at e
          exact (wipe_some e).1
        · obtain ⟨o, e, _⟩ := T.obj _ _ st7 b hb
          exact (pin' b hb o e).2
      cases b with
      | false =>
        simp only [Bool.false_eq_true, if_false] at q9 ⊢
        obtain ⟨m', hm, w'⟩ := hNx H9 q9
        obtain ⟨f1, f2, f3⟩ := fin (m' := m') I9
        exact seg_again rfl (ih m' hm n (i + 1) s₀ _ H9 (by omega) f1 f2 f3 w')
      | true =>
        simp only [if_true] at q9 ⊢
        have hy : ∀ v, yieldOut cenv v = yieldValue v := fun v => by simp only [yieldOut, hco, Bool.false_eq_true, if_false]
        simp only [hy]
        rw [Sem.bind_eq_wrap', Sem.bind_eq_wrap', Sem.wrap_wrap, Sem.wrap_wrap]
        refine seg_wrap ?_
        rw [hov]
        refine wpAny_mono (pe.run _ s9 σ8 H9 _ I9 q9) (fun z s10 hx => ?_) fun _ _ e => e.elim
        obtain ⟨yv, H10, I10, r10, c, rfl, nx⟩ := hx
        cases (show z = Value.bool c from r10)
        obtain ⟨n, rfl⟩ : ∃ n', n = n' + 1 := ⟨n - 1, by omega⟩
        refine seg_at (seg_yield rfl rfl rfl ⟨c, σ8, H10, rfl, I10.unpinned, ?_⟩)
        by_cases hcd : c = d
        · rw [if_pos hcd] at nx ⊢
          intro s'' hk
          obtain ⟨m', hm, w'⟩ := hNx H10 nx
          obtain ⟨f1, f2, f3⟩ := fin (m' := m') (Inv.keptS I10 hk)
          exact seg_again rfl (ih m' hm n (i + 1) s'' s'' H10 (by omega) f1 f2 f3 w')
        · rw [if_neg hcd] at nx ⊢
          exact nx
theorem seg_start {elt tg iter : Expr} {ifs : List Expr} {scope : Scope} {pos : Pos} {it : Addr} {J : It} {tn : Nat → Heap → Prop} {R : GenEnd} {Y : Protocol} {n : Nat} {s₀ s : Shared}
    (T : Turn X.prog X.w X.K tg J fp it tn) (st : tn 0 s.heap)
    (loop : Seg (model X.prog X.w) B R Y n s₀ (.compLoop (.GeneratorExp elt [⟨tg, iter, ifs, 0⟩] scope pos) 0 (.ref it) .none cenv) ((model X.prog X.w).den (.compLoop (.GeneratorExp elt [⟨tg, iter, ifs, 0⟩] scope pos) 0 (.ref it) .none cenv)) [] s) :
    Seg (model X.prog X.w) B R Y n s₀ (.compStart (.GeneratorExp elt [⟨tg, iter, ifs, 0⟩] scope pos) 0 (.ref it) .none cenv) ((model X.prog X.w).den (.compStart (.GeneratorExp elt [⟨tg, iter, ifs, 0⟩] scope pos) 0 (.ref it) .none cenv)) [] s := by
  show Seg _ B _ _ _ s₀ _ ((compStart (.GeneratorExp elt [⟨tg, iter, ifs, 0⟩] scope pos) 0 (.ref it) .none cenv).onRaise (leaving cenv)) [] s
  unfold compStart
  rw [Sem.onRaise_eq_wrap]
  show Seg _ B _ _ _ s₀ _ ((ask >>= _).wrap _ _ _ _) [] s
  refine seg_bind_wrap (wpAny_askSetting ?_)
  split
  · exact seg_again rfl loop
  · first
      | exact seg_bind_wrap (wpAny_rule (seg_bind_wrap (wpAny_standAt (seg_bind_wrap (T.self _ 0 s _ _ st (seg_again rfl loop))))))
      | (refine seg_bind_wrap (wpAny_rule ?_); show Seg _ B _ _ _ s₀ _ ((standAt iter.pos >>= _).wrap _ _ _ _) [] s; exact seg_bind_wrap (wpAny_standAt (seg_bind_wrap (T.self _ 0 s _ _ st (seg_again rfl loop)))))
end
/-- the consumer: all's loop by d = true, any's by d = false -/
def loopId (d : Bool) : String := if d then "all.loop" else "any.loop"
theorem walk_loop {X : Cx} {pz : List (Addr × Obj)} {σ0 : L2.St} {QT QF : Hp → Prop} {A : Around} {a : Addr} {g : Nat} {go : Obj} (d : Bool) {R : Result → Shared → Prop} (hpz : (a, go) ∈ pz) (hgo : ∀ h : Heap, h.get? a = some go → h.IsGen a g)
    (hh : A.handled = none) (hd : A.depth < recursionLimit)
    (hT : ∀ H' s1 s', Inv X pz σ0 H' s1 → QT H' → Kept s1 s' → R (.ok (.ret (.bool d))) s') (hF : ∀ σ' H' s1 s', Inv X pz σ' H' s1 → QF H' → Kept s1 s' → R (.ok (.ret (.bool (!d)))) s') :
    ∀ (n : Nat) (s : Shared), s.heap.IsGen a g → s.heap.NoLimit →
      (∃ gs, s.gens[g]? = some gs ∧ gs.Goes (model X.prog X.w) A.in1.in1 (RG X pz σ0 QT) (YG X pz d QF) n (.send .none) (s.setGen g .running)) →
      codeAny (model X.prog X.w) A (.builtin (loopId d) ⟨[.ref a], []⟩) R s := by
  intro n
  induction n with
  | zero =>
    intro s hg hl ⟨gs, hgs, hgo'⟩
    cases d
    · show codeAny (model X.prog X.w) A (.builtin "any.loop" ⟨[.ref a], []⟩) R s
      refine codeAny_builtin F.entry_any_loop ?_
      rw [Around.under_plainId F.plain_any_loop _]
      show wpAny _ A.in1 (pyNext (.ref a) >>= _) _ _ s
      refine wpAny_bind (next_genG (A := A.in1) (Er := fun _ _ => False) hh hl hd hg hgs hgo' (fun v s₁ gs' hbare hv => ?_) (fun s₁ hp h' hk => ?_) fun e s₁ he => he.elim)
      · obtain ⟨c, σ', H', rfl, I, hq⟩ := hv
        by_cases hcd : c = false
        · rw [if_pos hcd] at hq
          exact (hq s₁ ⟨rfl, I.bare, fun _ _ e => e⟩).elim
        · rw [if_neg hcd] at hq
          have hc : c = true := by cases c <;> simp at hcd ⊢
          subst hc
          refine wpAny_bind (wpAny_holding (wpAny_truthy_bool ?_))
          refine wpAny_bind (wpAny_letGo ?_)
          simp only [if_true]
          refine wpAny_bind (wpAny_rule (wpAny_pure ?_))
          exact hF σ' H' s₁ _ I hq ⟨rfl, allBare_setGen I.bare hbare, fun _ _ e => e⟩
      · obtain ⟨H', I, q⟩ := hp
        refine wpAny_bind (wpAny_rule (wpAny_pure ?_))
        exact hT H' s₁ _ I q ⟨rfl, allBare_setGen I.bare rfl, hk⟩
    · show codeAny (model X.prog X.w) A (.builtin "all.loop" ⟨[.ref a], []⟩) R s
      refine codeAny_builtin F.entry_all_loop ?_
      rw [Around.under_plainId F.plain_all_loop _]
      show wpAny _ A.in1 (pyNext (.ref a) >>= _) _ _ s
      refine wpAny_bind (next_genG (A := A.in1) (Er := fun _ _ => False) hh hl hd hg hgs hgo' (fun v s₁ gs' hbare hv => ?_) (fun s₁ hp h' hk => ?_) fun e s₁ he => he.elim)
      · obtain ⟨c, σ', H', rfl, I, hq⟩ := hv
        by_cases hcd : c = true
        · rw [if_pos hcd] at hq
          exact (hq s₁ ⟨rfl, I.bare, fun _ _ e => e⟩).elim
        · rw [if_neg hcd] at hq
          have hc : c = false := by cases c <;> simp at hcd ⊢
          subst hc
          refine wpAny_bind (wpAny_holding (wpAny_truthy_bool ?_))
          refine wpAny_bind (wpAny_letGo ?_)
          simp only [Bool.false_eq_true, if_false]
          refine wpAny_bind (wpAny_rule (wpAny_pure ?_))
          exact hF σ' H' s₁ _ I hq ⟨rfl, allBare_setGen I.bare hbare, fun _ _ e => e⟩
      · obtain ⟨H', I, q⟩ := hp
        refine wpAny_bind (wpAny_rule (wpAny_pure ?_))
        exact hT H' s₁ _ I q ⟨rfl, allBare_setGen I.bare rfl, hk⟩
  | succ n ih =>
    intro s hg hl ⟨gs, hgs, hgo'⟩
    have hgl : g < s.gens.size := (Array.getElem?_eq_some_iff.mp hgs).1
    have again : ∀ (σ' : L2.St) (H' : Hp) (s₁ : Shared) (gs' : GenState), gs'.bare = true → Inv X pz σ' H' s₁ → g + 1 ≤ (s₁.setGen g gs').gens.size → (∀ s', Kept s₁ s' → gs'.Goes (model X.prog X.w) A.in1.in1 (RG X pz σ0 QT) (YG X pz d QF) n (.send .none) s') →
        codeAny (model X.prog X.w) A (.builtin (loopId d) ⟨[.ref a], []⟩) R (s₁.setGen g gs') := fun σ' H' s₁ gs' hbare I hsz hq => by
      have hsz1 : g < s₁.gens.size := by
        have q : (s₁.setGen g gs').gens.size = s₁.gens.size := setGen_size _ _ _
        omega
      refine ih (s₁.setGen g gs') (hgo _ (I.pin (a, go) (List.mem_append_right _ hpz)).1) I.nolimit ⟨gs', setGen_at hsz1, hq _ ⟨rfl, allBare_setGen (s := s₁.setGen g gs') (allBare_setGen I.bare hbare) rfl, fun _ _ e => e⟩⟩
    cases d
    · show codeAny (model X.prog X.w) A (.builtin "any.loop" ⟨[.ref a], []⟩) R s
      refine codeAny_builtin F.entry_any_loop ?_
      rw [Around.under_plainId F.plain_any_loop _]
      show wpAny _ A.in1 (pyNext (.ref a) >>= _) _ _ s
      refine wpAny_bind (wpAny_gsz (n := g + 1) hgl (next_genG (A := A.in1) (Er := fun _ _ => False) hh hl hd hg hgs hgo' (fun v s₁ gs' hbare hv => ?_) (fun s₁ hp h' hk => ?_) fun e s₁ he => he.elim))
      · intro hsz
        obtain ⟨c, σ', H', rfl, I, hq⟩ := hv
        refine wpAny_bind (wpAny_holding (wpAny_truthy_bool ?_))
        refine wpAny_bind (wpAny_letGo ?_)
        cases c with
        | false =>
          rw [if_pos rfl] at hq
          simp only [Bool.false_eq_true, if_false]
          exact wpAny_pure ⟨plainId_quiet F.plain_any_loop _, again σ' H' s₁ gs' hbare I hsz hq⟩
        | true =>
          rw [if_neg (by decide)] at hq
          simp only [if_true]
          refine wpAny_bind (wpAny_rule (wpAny_pure ?_))
          exact hF σ' H' s₁ _ I hq ⟨rfl, allBare_setGen I.bare hbare, fun _ _ e => e⟩
      · intro hsz
        obtain ⟨H', I, q⟩ := hp
        refine wpAny_bind (wpAny_rule (wpAny_pure ?_))
        exact hT H' s₁ _ I q ⟨rfl, allBare_setGen I.bare rfl, hk⟩
    · show codeAny (model X.prog X.w) A (.builtin "all.loop" ⟨[.ref a], []⟩) R s
      refine codeAny_builtin F.entry_all_loop ?_
      rw [Around.under_plainId F.plain_all_loop _]
      show wpAny _ A.in1 (pyNext (.ref a) >>= _) _ _ s
      refine wpAny_bind (wpAny_gsz (n := g + 1) hgl (next_genG (A := A.in1) (Er := fun _ _ => False) hh hl hd hg hgs hgo' (fun v s₁ gs' hbare hv => ?_) (fun s₁ hp h' hk => ?_) fun e s₁ he => he.elim))
      · intro hsz
        obtain ⟨c, σ', H', rfl, I, hq⟩ := hv
        refine wpAny_bind (wpAny_holding (wpAny_truthy_bool ?_))
        refine wpAny_bind (wpAny_letGo ?_)
        cases c with
        | true =>
          rw [if_pos rfl] at hq
          simp only [if_true]
          exact wpAny_pure ⟨plainId_quiet F.plain_all_loop _, again σ' H' s₁ gs' hbare I hsz hq⟩
        | false =>
          rw [if_neg (by decide)] at hq
          simp only [Bool.false_eq_true, if_false]
          refine wpAny_bind (wpAny_rule (wpAny_pure ?_))
          exact hF σ' H' s₁ _ I hq ⟨rfl, allBare_setGen I.bare hbare, fun _ _ e => e⟩
      · intro hsz
        obtain ⟨H', I, q⟩ := hp
        refine wpAny_bind (wpAny_rule (wpAny_pure ?_))
        exact hT H' s₁ _ I q ⟨rfl, allBare_setGen I.bare rfl, hk⟩
end Gx

set_option Elab.async false
set_option linter.all false
set_option maxRecDepth 100000
set_option maxHeartbeats 4000000
namespace Gx
open PySem PySem.Spec PyProof.Rows L2 GenW
theorem over_gen {B : Around} {elt : Expr} {gens : List Comprehension} {scope : Scope} {pos : Pos} {it acc : Value} {env : Env} {st : List Env} (h : B.frames = some st) :
    (B.over (.compLoop (.GeneratorExp elt gens scope pos) 0 it acc env) []).frames = some (env :: st) := by
  have e1 : (B.over (.compLoop (.GeneratorExp elt gens scope pos) 0 it acc env) []).frames = pushEnvs (Code.envs (.compLoop (.GeneratorExp elt gens scope pos) 0 it acc env)) (pushEnvs (envsOf (([] : List Frame).map Frame.where_)) B.frames) := rfl
  rw [e1, h]
  rfl
/-- the reading: by d the walk goes on -/
def tQX (d : Bool) (wi : TI) (g : TG) (tt : TT) (te : TE) (vs : List Nat) (P : Addr) : TE := fun σ H Q => wi σ H fun J H1 => GxR.TabG H1 P ∧ ∀ H2, GxR.Tabbed P H1 H2 → ∃ W : Nat → Nat → Hp → Prop, (∃ m, W 0 m H2) ∧
  Turns J g tt te vs σ d (fun H => Q (.bl d) H) (fun H => Q (.bl (!d)) H) W
section
variable {X : Cx} {pins : List (Addr × Obj)} {σ : L2.St} {H : Hp} {s : Shared}
theorem gen_core {c P : Addr} {elt tg iter : Expr} {ifs : List Expr} {gpos : Pos} {scope : Scope} {own : List (Str × Nat)} {wi : TI} {g : TG} {tt : TT} {te : TE} {k : Nat} {d : Bool} {Q : VK}
    (hr : Room (k + 1) X.A) (hc : X.calm = true) (hN : X.N.Nodup) (TB : GxR.TabB X.base X.mg c P) (hcode : X.env.code = .ref c) (ok : BlkOk X.N X.env.scope scope own) (S : GenK scope) (hi : PI X tg iter wi) (hs : ∀ v, genFold iter X.env v = pure v)
    (hg : ∀ (A : Around) (s : Shared) (H : Hp) (C : Addr) (code : Value) (fp : List Addr), Room k A → PG (gcx X A s H (genEnv scope (cloFrom X.env.cells scope.names []) C code builtinsNs X.env) fp) tg g)
    (ht : ∀ (A : Around) (s : Shared) (H : Hp) (C : Addr) (code : Value) (fp : List Addr), Room k A → PTs (gcx X A s H (genEnv scope (cloFrom X.env.cells scope.names []) C code builtinsNs X.env) fp) ifs tt)
    (he : ∀ (A : Around) (s : Shared) (H : Hp) (C : Addr) (code : Value) (fp : List Addr), Room k A → PE (gcx X A s H (genEnv scope (cloFrom X.env.cells scope.names []) C code builtinsNs X.env) fp) elt te)
    (I : Inv X pins σ H s) (h : tQX d wi g tt te (own.map (·.2)) P σ H Q) :
    wpAny (model X.prog X.w) X.A (eval (.GeneratorExp elt [⟨tg, iter, ifs, 0⟩] scope gpos) X.env) (fun v s5 => ∃ (a : Addr) (gn : Nat), v = .ref a ∧ s5.heap.IsGen a gn ∧
      codeAny (model X.prog X.w) X.A (.builtin (loopId d) ⟨[.ref a], []⟩) (fun r s' => ∃ b, r = .ok (.ret (.bool b)) ∧ EP X pins σ Q (.bool b) s') s5) X.xe s := by
  have hfree : ∀ y ∈ scope.names, y.2 = .free → ∃ c, X.env.cells.lookup y.1 = some c := fun y hy e => by
    rcases ok.free y hy e with k | k
    · exact I.ok.has _ (.inl k)
    · exact I.ok.has _ (.inr k)
  refine wpAny_GeneratorExp_make S.co (closure_ok hfree) S.cell S.dot ok.kind hr.depth (wpAny_mono (hi.run pins s σ H _ I h) (fun xv s1 h1 => wpAny_mono h1 (fun itv s2 h2 => ?_) fun _ _ e => e) fun _ _ e => e) hs
  obtain ⟨it, fp, tn, J, H1, rfl, I2, T, st2, f2, ⟨ps, hP, htr⟩, hW⟩ := h2
  refine ⟨I2.nolimit, ?_⟩
  have tabS : s2.heap.get? P = some { cls := .none, data := .fields ps } := I2.hok P _ hP
  have hd : PySem.W.CodeHd s2.heap c P := TB.code.keeps fun b u e => I2.bk b u e
  have key : ∀ (REST : Value → Shared → Prop), (∀ (cv : Value) (h3 : Heap) (tk : Nat) (more : Array Value), Heap.ExtBut P s2.heap h3 → s2.heap.objs.size ≤ h3.objs.size → h3.get? P = some { cls := .none, data := .fields (ps ++ more) } → TriplesOk (ps ++ more).toList → REST cv { s2 with heap := h3, toks := tk }) →
      wpAny (model X.prog X.w) X.A (genexprCode X.env gpos (X.env.qual ++ "<genexpr>") scope) REST X.xe s2 := fun REST fin => by
    cases hf : codeAmong gpos ps.toList with
    | some cv =>
      have e : ps = ps ++ #[] := by simp
      exact wpAny_genexprCode_hit hcode (hd.code tabS htr) hf (fin cv _ s2.toks #[] (Heap.ExtBut.refl _ _) (Nat.le_refl _) (e ▸ tabS) (e ▸ htr))
    | none =>
      refine wpAny_genexprCodeX hcode (hd.code tabS htr) (hd.tab tabS) hf fun c' h3 tk ex ge lt ic _ ta _ => ?_
      obtain ⟨_, _, _, _, _, _, _, _, _, _, _, _, _, _, _, _, _, _, _, tr, _⟩ := ic
      exact fin _ h3 tk _ ex (Nat.le_trans ge (Nat.le_of_lt lt)) ta.2 tr
  refine key _ fun cv h3 tk more ex ge tab3 tr3 => ?_
  obtain ⟨bm, ob, b1, b2, b3, b4, b5, b6, b7, b8⟩ := TB.bm
  refine wpAny_builtinsFor (m := X.mg) (by rw [I2.ok.glob]; exact (I2.mod.glob.keeps I2.bk).extBut ex TB.gP) b1 b2 (ex _ _ b4 (I2.bk _ _ b5)) b6 b7 b8 ?_
  intro h' hn' hs'
  generalize hs3 : ({ s2 with heap := h3, toks := tk } : Shared) = s3 at hn' hs' ⊢
  have e3 : s3.heap = h3 := by rw [← hs3]
  have I3 : Inv X pins σ (upd H1 P (.tbl (ps ++ more))) s3 := by
    rw [← hs3]
    exact GxR.inv_tab (more := more) (h' := h3) (g' := s2.gens) (d' := s2.drawn) (t' := tk) I2 hP (fun b o n e => ex b o n e) tab3 I2.bare
  obtain ⟨W, ⟨m0, w0⟩, turn⟩ := hW _ ⟨⟨ps ++ more, upd_same, tr3⟩, fun b hb => upd_ne hb⟩
  have neP : ∀ b ∈ fp, b ≠ P := fun b hb z => by
    have := (f2 b hb).1
    rw [z, hP] at this
    cases this
  have f3 : ∀ b ∈ fp, FpOk X pins (upd H1 P (.tbl (ps ++ more))) b ∧ b < s3.heap.objs.size := fun b hb => by
    obtain ⟨o, e, _⟩ := T.obj _ _ st2 b hb
    refine ⟨⟨?_, (f2 b hb).2⟩, by rw [e3]; exact Nat.lt_of_lt_of_le (Heap.lt_size e) ge⟩
    rw [upd_ne (neP b hb)]
    exact (f2 b hb).1
  have st3 : tn 0 s3.heap := T.keep _ _ _ st2 fun b hb o e => by rw [e3]; exact ex b o (neP b hb) e
  generalize hH3 : upd H1 P (.tbl (ps ++ more)) = H3 at I3 w0 f3
  have nf : ∀ b ∈ fp, H3 b = none := fun b hb => (f3 b hb).1.1
  -- the generator's object
  generalize hgo : ({ cls := .type "generator", data := .fields #[.int s3.gens.size 0, .str "<genexpr>" (s3.toks + 1), .str (X.env.qual ++ "<genexpr>") (s3.toks + 1 + 1)] } : Obj) = go
  have sz' : h'.objs.size = s3.heap.objs.size + 1 := by rw [hs'.1, Heap.size_push]
  generalize hs5 : ({ s3 with gens := s3.gens.push (.fresh (.compStart (.GeneratorExp elt [⟨tg, iter, ifs, 0⟩] scope gpos) 0 (.ref it) .none (genEnv scope (cloFrom X.env.cells scope.names []) s3.heap.objs.size cv builtinsNs X.env))), toks := s3.toks + 1 + 1 + 1, heap := h'.push go } : Shared) = s5
  have h5 : s5.heap = h'.push go := by rw [← hs5]
  have kp : Kept s3 s5 := by
    refine ⟨by rw [← hs5], by rw [← hs5]; exact AllBare.push I3.bare rfl, fun b o e => ?_⟩
    rw [h5]
    exact Heap.get?_push_of_some _ (hs'.extBut b o (Nat.ne_of_lt (Heap.lt_size e)) (Heap.get?_push_of_some _ e))
  have hga : s5.heap.get? h'.objs.size = some go := by rw [h5, ← hgo]; exact Heap.get?_push_size _ rfl
  have isg : ∀ h : Heap, h.get? h'.objs.size = some go → h.IsGen h'.objs.size s3.gens.size := fun h e => ⟨go, _, _, e, by rw [← hgo], by rw [← hgo], by rw [← hgo]⟩
  have hgs : s5.gens[s3.gens.size]? = some (.fresh (.compStart (.GeneratorExp elt [⟨tg, iter, ifs, 0⟩] scope gpos) 0 (.ref it) .none (genEnv scope (cloFrom X.env.cells scope.names []) s3.heap.objs.size cv builtinsNs X.env))) := by
    rw [← hs5]
    exact Array.getElem?_push_size ..
  have hns : s5.heap.Ns s3.heap.objs.size (fun y => if y = ".0" then some (.ref it) else none) := by rw [h5]; exact hn'.push _
  have hfrX : X.A.frames = some X.stack := I3.ok.frames
  have rm : Room k (X.A.in1.in1.over (.compLoop (.GeneratorExp elt [⟨tg, iter, ifs, 0⟩] scope gpos) 0 (.ref it) .none (genEnv scope (cloFrom X.env.cells scope.names []) s3.heap.objs.size cv builtinsNs X.env)) []) := by
    have h1 := hr.dp
    have h2 := hr.un
    refine ⟨hr.hd, ?_, ?_⟩
    · show X.A.depth + 0 + 1 + 3 * k + 5 < _
      omega
    · show X.A.units + 1 + 1 + 0 + 3 + 16 * k + 200 < _
      omega
  have Ig := gen_start I3 ok S hN f3 rm.hd (over_gen (show X.A.in1.in1.frames = some X.stack from hfrX)) kp hns
  have aC : h'.objs.size ≠ s3.heap.objs.size := by omega
  have Ig2 : Inv (gcx X (X.A.in1.in1.over (.compLoop (.GeneratorExp elt [⟨tg, iter, ifs, 0⟩] scope gpos) 0 (.ref it) .none (genEnv scope (cloFrom X.env.cells scope.names []) s3.heap.objs.size cv builtinsNs X.env)) []) s3 H3 (genEnv scope (cloFrom X.env.cells scope.names []) s3.heap.objs.size cv builtinsNs X.env) fp) [(h'.objs.size, go)] (wipe σ (own.map (·.2))) H3 s5 := by
    refine Ig.pins_of fun p hp => ?_
    rw [List.mem_singleton.mp hp]
    refine ⟨hga, I3.hok.fresh (by omega), aC, fun z => ?_, fun v q => by rw [← hgo] at q; cases q⟩
    rcases List.mem_cons.mp (I3.stkSub _ z) with z | z
    · have z : h'.objs.size = X.env.locals := z
      have q : h'.objs.size < s3.heap.objs.size := by rw [z]; exact I3.lt
      omega
    · exact I3.nofs (by omega) z
  have hpz : ∀ p ∈ [(h'.objs.size, go)], p.1 ∉ fp := fun p hp z => by
    rw [List.mem_singleton.mp hp] at z
    have q : h'.objs.size < s3.heap.objs.size := (f3 _ z).2
    omega
  have back : ∀ (σ' : L2.St) (H' : Hp) (s1 s' : Shared), Inv (gcx X (X.A.in1.in1.over (.compLoop (.GeneratorExp elt [⟨tg, iter, ifs, 0⟩] scope gpos) 0 (.ref it) .none (genEnv scope (cloFrom X.env.cells scope.names []) s3.heap.objs.size cv builtinsNs X.env)) []) s3 H3 (genEnv scope (cloFrom X.env.cells scope.names []) s3.heap.objs.size cv builtinsNs X.env) fp) [(h'.objs.size, go)] σ' H' s1 → Kept s1 s' → Inv X pins σ H' s' := fun σ' H' s1 s' J1 k1 => by
    have J := Inv.keptS J1 k1
    exact I3.call' (ch := fp) J.os J.base J.hok J.bare fun b hb => ⟨(f3 b hb).1.2.2.2.1, (f3 b hb).1.2.1, (f3 b hb).1.2.2.2.2.1, (f3 b hb).1.2.2.2.2.2⟩
  refine ⟨_, s3.gens.size, rfl, isg _ hga, walk_loop (X := gcx X (X.A.in1.in1.over (.compLoop (.GeneratorExp elt [⟨tg, iter, ifs, 0⟩] scope gpos) 0 (.ref it) .none (genEnv scope (cloFrom X.env.cells scope.names []) s3.heap.objs.size cv builtinsNs X.env)) []) s3 H3 (genEnv scope (cloFrom X.env.cells scope.names []) s3.heap.objs.size cv builtinsNs X.env) fp) (pz := [(h'.objs.size, go)]) (σ0 := wipe σ (own.map (·.2))) (QT := fun H => Q (.bl d) H) (QF := fun H => Q (.bl (!d)) H) d (List.mem_singleton.mpr rfl) isg hr.hd hr.depth (fun H' s1 s' J1 q k1 => ⟨d, rfl, .bl d, H', back _ H' s1 s' J1 k1, rfl, q⟩) (fun σ' H' s1 s' J1 q k1 => ⟨!d, rfl, .bl (!d), H', back σ' H' s1 s' J1 k1, rfl, q⟩) (m0 + 1) s5 (isg _ hga) Ig2.nolimit ⟨_, hgs, rfl, ?_⟩⟩
  have k6 : Kept s5 (s5.setGen s3.gens.size .running) := ⟨rfl, allBare_setGen kp.bare rfl, fun _ _ e => e⟩
  have st5 : tn 0 (s5.setGen s3.gens.size .running).heap := T.keep _ _ _ st3 fun b hb o e => kp.keep b o e
  exact seg_start T st5 (seg_loop T hc rfl S.co hpz (hg _ _ _ _ _ _ rm) (ht _ _ _ _ _ _ rm) (he _ _ _ _ _ _ rm) turn m0 (m0 + 1) 0 _ _ H3 (Nat.lt_succ_self _) (Inv.keptS Ig2 k6) st5 nf w0)
theorem pe_allX {c P : Addr} {elt tg iter : Expr} {ifs : List Expr} {gpos p pos : Pos} {scope : Scope} {own : List (Str × Nat)} {wi : TI} {g : TG} {tt : TT} {te : TE} {k : Nat}
    (hr : Room (k + 1) X.A) (hgl : Gl X "all") (hm : X.mg "all" = none) (hc : X.calm = true) (hN : X.N.Nodup) (TB : GxR.TabB X.base X.mg c P) (hcode : X.env.code = .ref c) (ok : BlkOk X.N X.env.scope scope own) (S : GenK scope) (hi : PI X tg iter wi)
    (hg : ∀ (A : Around) (s : Shared) (H : Hp) (C : Addr) (code : Value) (fp : List Addr), Room k A → PG (gcx X A s H (genEnv scope (cloFrom X.env.cells scope.names []) C code builtinsNs X.env) fp) tg g)
    (ht : ∀ (A : Around) (s : Shared) (H : Hp) (C : Addr) (code : Value) (fp : List Addr), Room k A → PTs (gcx X A s H (genEnv scope (cloFrom X.env.cells scope.names []) C code builtinsNs X.env) fp) ifs tt)
    (he : ∀ (A : Around) (s : Shared) (H : Hp) (C : Addr) (code : Value) (fp : List Addr), Room k A → PE (gcx X A s H (genEnv scope (cloFrom X.env.cells scope.names []) C code builtinsNs X.env) fp) elt te)
    (hs : ∀ v, genFold iter X.env v = pure v := by intro _; rfl)
    (hst : starEach [.GeneratorExp elt [⟨tg, iter, ifs, 0⟩] scope gpos] X.env = (false, eval (.GeneratorExp elt [⟨tg, iter, ifs, 0⟩] scope gpos) X.env) :: starEach [] X.env := by rfl) :
    PE X (.Call (.Name "all" p) [.GeneratorExp elt [⟨tg, iter, ifs, 0⟩] scope gpos] [] pos) (tQX true wi g tt te (own.map (·.2)) P) := by
  refine ⟨fun pins s σ H Q I h => ?_⟩
  refine wpAny_Call_Name_kw (ld_blt I hgl hm boot_all (PyProof.Rows.callWith_builtin1 ?_ hst (by rfl)))
  rw [hst]
  show wpAny _ _ (spliced ((false, _) :: backTo pos (starEach [] X.env))) _ _ s
  refine Calls.spliced_cons (wpAny_mono (gen_core hr hc hN TB hcode ok S hi hs hg ht he I h) (fun v s5 hx => ?_) fun _ _ e => e)
  obtain ⟨a, gn, rfl, hgn, hcd⟩ := hx
  refine Calls.spliced_nil ?_
  refine call_function_tree F.kind_all F.plain_all F.entry_all (F.args_all1 _) ?_
  unfold Builtin.«all»
  refine wpAny_bind (m := oneArg "all" _) (wpAny_pure ?_)
  refine wpAny_bind (wpAny_pyIter_gen hgn ?_)
  exact wpAny_pure ⟨plainId_quiet F.plain_all_loop _, codeAny_mono hcd fun r s' hx => by obtain ⟨b, rfl, q⟩ := hx; exact q⟩
theorem pe_anyX {c P : Addr} {elt tg iter : Expr} {ifs : List Expr} {gpos p pos : Pos} {scope : Scope} {own : List (Str × Nat)} {wi : TI} {g : TG} {tt : TT} {te : TE} {k : Nat}
    (hr : Room (k + 1) X.A) (hgl : Gl X "any") (hm : X.mg "any" = none) (hc : X.calm = true) (hN : X.N.Nodup) (TB : GxR.TabB X.base X.mg c P) (hcode : X.env.code = .ref c) (ok : BlkOk X.N X.env.scope scope own) (S : GenK scope) (hi : PI X tg iter wi)
    (hg : ∀ (A : Around) (s : Shared) (H : Hp) (C : Addr) (code : Value) (fp : List Addr), Room k A → PG (gcx X A s H (genEnv scope (cloFrom X.env.cells scope.names []) C code builtinsNs X.env) fp) tg g)
    (ht : ∀ (A : Around) (s : Shared) (H : Hp) (C : Addr) (code : Value) (fp : List Addr), Room k A → PTs (gcx X A s H (genEnv scope (cloFrom X.env.cells scope.names []) C code builtinsNs X.env) fp) ifs tt)
    (he : ∀ (A : Around) (s : Shared) (H : Hp) (C : Addr) (code : Value) (fp : List Addr), Room k A → PE (gcx X A s H (genEnv scope (cloFrom X.env.cells scope.names []) C code builtinsNs X.env) fp) elt te)
    (hs : ∀ v, genFold iter X.env v = pure v := by intro _; rfl)
    (hst : starEach [.GeneratorExp elt [⟨tg, iter, ifs, 0⟩] scope gpos] X.env = (false, eval (.GeneratorExp elt [⟨tg, iter, ifs, 0⟩] scope gpos) X.env) :: starEach [] X.env := by rfl) :
    PE X (.Call (.Name "any" p) [.GeneratorExp elt [⟨tg, iter, ifs, 0⟩] scope gpos] [] pos) (tQX false wi g tt te (own.map (·.2)) P) := by
  refine ⟨fun pins s σ H Q I h => ?_⟩
  refine wpAny_Call_Name_kw (ld_blt I hgl hm boot_any (PyProof.Rows.callWith_builtin1 ?_ hst (by rfl)))
  rw [hst]
  show wpAny _ _ (spliced ((false, _) :: backTo pos (starEach [] X.env))) _ _ s
  refine Calls.spliced_cons (wpAny_mono (gen_core hr hc hN TB hcode ok S hi hs hg ht he I h) (fun v s5 hx => ?_) fun _ _ e => e)
  obtain ⟨a, gn, rfl, hgn, hcd⟩ := hx
  refine Calls.spliced_nil ?_
  refine call_function_tree F.kind_any F.plain_any F.entry_any (F.args_any1 _) ?_
  unfold Builtin.«any»
  refine wpAny_bind (m := oneArg "any" _) (wpAny_pure ?_)
  refine wpAny_bind (wpAny_pyIter_gen hgn ?_)
  exact wpAny_pure ⟨plainId_quiet F.plain_any_loop _, codeAny_mono hcd fun r s' hx => by obtain ⟨b, rfl, q⟩ := hx; exact q⟩
end
end Gx

set_option Elab.async false
set_option linter.all false
set_option maxRecDepth 100000
set_option maxHeartbeats 4000000
/-! the turns, by source -/
namespace Gx
open PySem PySem.Spec PyProof.Rows L2
theorem all_range {lo : Int} {n : Nat} {g : TG} {tt : TT} {te : TE} {vs : List Nat} {σ : L2.St} {d : Bool} {QT QF : Hp → Prop} {H2 : Hp} (Pv : Nat → Hp → Prop) (h0 : Pv 0 H2)
    (hs : ∀ i H, i < n → Pv i H → g (.int (lo + i)) (wipe σ vs) H fun σ2 H2 => wipe σ2 vs = wipe σ vs ∧ tt σ2 H2 fun b H3 => if b = true then te σ2 H3 fun y H4 => ∃ c, y = .bl c ∧ (if c = d then Pv (i + 1) H4 else QF H4) else Pv (i + 1) H3) (hd : ∀ H, Pv n H → QT H) :
    ∃ W : Nat → Nat → Hp → Prop, (∃ m, W 0 m H2) ∧ Turns (Itr lo n) g tt te vs σ d QT QF W := by
  refine ⟨fun i m H => m = n - i ∧ i ≤ n ∧ Pv i H, ⟨n, by simp, Nat.zero_le _, h0⟩, ?_⟩
  rintro i m H ⟨rfl, hi, p⟩
  by_cases hlt : i < n
  · refine .inr ⟨hlt, Pv (i + 1), fun H' p' => ⟨n - (i + 1), by omega, rfl, hlt, p'⟩, fun x H' y => ?_⟩
    obtain ⟨e, y⟩ := y
    subst e y
    exact hs i _ hlt p
  · have e : i = n := by omega
    subst e
    exact .inl ⟨Nat.le_refl _, hd H p⟩
theorem all_tup {K : PySem.W.Frag} {a : Addr} {xs : List V} {g : TG} {tt : TT} {te : TE} {vs : List Nat} {σ : L2.St} {d : Bool} {QT QF : Hp → Prop} {H2 : Hp} (Pv : Nat → Hp → Prop) (h0 : Pv 0 H2) (hl : ∀ i H, i ≤ xs.length → Pv i H → SqT K H a xs)
    (hs : ∀ i x H, xs[i]? = some x → Pv i H → g x (wipe σ vs) H fun σ2 H2 => wipe σ2 vs = wipe σ vs ∧ tt σ2 H2 fun b H3 => if b = true then te σ2 H3 fun y H4 => ∃ c, y = .bl c ∧ (if c = d then Pv (i + 1) H4 else QF H4) else Pv (i + 1) H3) (hd : ∀ H, Pv xs.length H → QT H) :
    ∃ W : Nat → Nat → Hp → Prop, (∃ m, W 0 m H2) ∧ Turns (Itt K a) g tt te vs σ d QT QF W := by
  refine ⟨fun i m H => m = xs.length - i ∧ i ≤ xs.length ∧ Pv i H, ⟨xs.length, by simp, Nat.zero_le _, h0⟩, ?_⟩
  rintro i m H ⟨rfl, hi, p⟩
  have q := hl i H hi p
  by_cases hlt : i < xs.length
  · refine .inr ⟨⟨xs, xs[i], q, by simp [hlt]⟩, Pv (i + 1), fun H' p' => ⟨xs.length - (i + 1), by omega, rfl, hlt, p'⟩, fun x H' y => ?_⟩
    obtain ⟨e, y⟩ := y
    subst e
    exact hs i x _ (y xs q) p
  · have e : i = xs.length := by omega
    subst e
    exact .inl ⟨⟨xs, q, Nat.le_refl _⟩, hd H p⟩
theorem all_list {K : PySem.W.Frag} {a : Addr} {xs : List V} {g : TG} {tt : TT} {te : TE} {vs : List Nat} {σ : L2.St} {d : Bool} {QT QF : Hp → Prop} {H2 : Hp} (Pv : Nat → Hp → Prop) (h0 : Pv 0 H2) (hl : ∀ i H, i ≤ xs.length → Pv i H → SqL K H a xs)
    (hs : ∀ i x H, xs[i]? = some x → Pv i H → g x (wipe σ vs) H fun σ2 H2 => wipe σ2 vs = wipe σ vs ∧ tt σ2 H2 fun b H3 => if b = true then te σ2 H3 fun y H4 => ∃ c, y = .bl c ∧ (if c = d then Pv (i + 1) H4 else QF H4) else Pv (i + 1) H3) (hd : ∀ H, Pv xs.length H → QT H) :
    ∃ W : Nat → Nat → Hp → Prop, (∃ m, W 0 m H2) ∧ Turns (Itl K a) g tt te vs σ d QT QF W := by
  refine ⟨fun i m H => m = xs.length - i ∧ i ≤ xs.length ∧ Pv i H, ⟨xs.length, by simp, Nat.zero_le _, h0⟩, ?_⟩
  rintro i m H ⟨rfl, hi, p⟩
  have q := hl i H hi p
  by_cases hlt : i < xs.length
  · refine .inr ⟨⟨xs, xs[i], q, by simp [hlt]⟩, Pv (i + 1), fun H' p' => ⟨xs.length - (i + 1), by omega, rfl, hlt, p'⟩, fun x H' y => ?_⟩
    obtain ⟨e, y⟩ := y
    subst e
    exact hs i x _ (y xs q) p
  · have e : i = xs.length := by omega
    subst e
    exact .inl ⟨⟨xs, q, by simp⟩, hd H p⟩
end Gx

set_option Elab.async false
set_option linter.all false
set_option maxRecDepth 100000
set_option maxHeartbeats 4000000
/-! tuple(..) of a generator expression: any source, any target, any element -/
namespace Gx
open PySem PySem.Spec PyProof.Rows L2 GenW
def TurnsC (J : It) (g : TG) (tt : TT) (te : TE) (vs : List Nat) (σ : L2.St) (Q : List V → Hp → Prop) (W : Nat → Nat → List V → Hp → Prop) : Prop := ∀ i m ys H, W i m ys H →
  (J.stop i H ∧ Q ys H) ∨ (J.go i H ∧ ys.length < sizeLine ∧ ∃ Nx : List V → Hp → Prop, (∀ ys' H', Nx ys' H' → ∃ m', m' < m ∧ W (i + 1) m' ys' H') ∧ ∀ x H', J.yld i H x H' → g x (wipe σ vs) H' fun σ2 H2 => wipe σ2 vs = wipe σ vs ∧ tt σ2 H2 fun b H3 =>
    if b = true then te σ2 H3 fun y H4 => Nx (ys ++ [y]) H4 else Nx ys H3)
section
variable {X : Cx} {A B : Around} {s3 : Shared} {H3 : Hp} {cenv : Env} {fp : List Addr} {σ : L2.St}
theorem seg_loopC {elt tg iter : Expr} {ifs : List Expr} {scope : Scope} {pos : Pos} {it a : Addr} {gn : Nat} {go : Obj} {J : It} {tn : Nat → Heap → Prop} {g : TG} {tt : TT} {te : TE} {vs : List Nat} {Q : List V → Hp → Prop} {W : Nat → Nat → List V → Hp → Prop} {S : Addr} {E : XK}
    (T : Turn X.prog X.w X.K tg J fp it tn) (hc : X.calm = true) (hov : B.over (.compLoop (.GeneratorExp elt [⟨tg, iter, ifs, 0⟩] scope pos) 0 (.ref it) .none cenv) [] = A) (hco : cenv.scope.isCoroutine = false) (haf : a ∉ fp) (hSf : S ∉ fp) (haS : a ≠ S) (hAp : Apart (gcx X A s3 H3 cenv fp) S)
    (hgo : ∀ h : Heap, h.get? a = some go → h.IsGen a gn)
    (pg : PG (gcx X A s3 H3 cenv fp) tg g) (pt : PTs (gcx X A s3 H3 cenv fp) ifs tt) (pe : PE (gcx X A s3 H3 cenv fp) elt te) (turn : TurnsC J g tt te vs σ Q W) :
    ∀ (m n i : Nat) (ys : List V) (s₀ s : Shared) (H : Hp), n + ys.length = sizeLine → GI (gcx X A s3 H3 cenv fp) S [(a, go)] ys (wipe σ vs) H s → tn i s.heap → (∀ b ∈ fp, H b = none) → W i m ys H →
      Seg (model X.prog X.w) B (REnd X.prog X.w X.stack H3 s3 fp S a gn Q E) (YItem s3 S a gn) n s₀
        (.compLoop (.GeneratorExp elt [⟨tg, iter, ifs, 0⟩] scope pos) 0 (.ref it) .none cenv)
        ((model X.prog X.w).den (.compLoop (.GeneratorExp elt [⟨tg, iter, ifs, 0⟩] scope pos) 0 (.ref it) .none cenv)) [] s := by
  have stat : ∀ {σ' : L2.St} {H' : Hp} {s' : Shared} {acc : Array Value} {c : Nat}, Inv (gcx X A s3 H3 cenv fp) ((S, lstObj acc c) :: [(a, go)]) σ' H' s' → (∀ b ∈ fp, H' b = none) → ∀ b ∈ fp, FpOk (gcx X A s3 H3 cenv fp) ((S, lstObj acc c) :: [(a, go)]) H' b := fun {σ' H' s' acc c} I' hn b hb =>
    ⟨hn b hb, (I'.ok.exf b hb).1, I'.ok.exfs b hb, .inl hb, fun x c e => (I'.ok.exf b hb).2 x c e, fun p hp z => by
      have hp : p ∈ (S, lstObj acc c) :: [(a, go)] := by simpa using hp
      rcases List.mem_cons.mp hp with q | q
      · rw [q] at z; exact hSf (by have z : S = b := z; rw [z]; exact hb)
      · rw [List.mem_singleton.mp q] at z; exact haf (by have z : a = b := z; rw [z]; exact hb)⟩
  intro m
  induction m using Nat.strongRecOn with
  | ind m ih =>
    intro n i ys s₀ s H hmn hG st nf w
    obtain ⟨acc, cc, rv, I⟩ := hG
    show Seg _ B _ _ _ s₀ _ ((compTurn (.GeneratorExp elt [⟨tg, iter, ifs, 0⟩] scope pos) 0 (.ref it) .none cenv).onRaise (leaving cenv)) [] s
    rw [compTurn_gen, Sem.onRaise_eq_wrap]
    refine seg_bind_wrap (wpAny_standAt ?_)
    rcases turn i m ys H w with ⟨stop, qq⟩ | ⟨go', hys, Nx, hNx, step⟩
    · refine seg_bind_wrap ?_
      rw [hov]
      refine wpAny_mono (T.done (gcx X A s3 H3 cenv fp) rfl rfl rfl hc i _ s _ H (fun _ _ => False) I (stat I nf) st stop) (fun r s6 hx => ?_) fun _ _ e => e.elim
      obtain ⟨rfl, I6⟩ := hx
      obtain ⟨z1, z2, z3, z4, _⟩ := I6.pin (S, lstObj acc cc) (List.mem_append_right _ List.mem_cons_self)
      exact seg_end (.ok .next) (.inl ⟨.inr rfl, H, ys, acc, cc, I6.os, I6.bare, I6.base, I6.hok, z2, z1, rv, by omega, qq⟩)
    · refine seg_bind_wrap ?_
      rw [hov]
      refine wpAny_mono (T.item (gcx X A s3 H3 cenv fp) rfl rfl rfl hc i _ s _ H (fun _ _ => False) I (stat I nf) st go') (fun r s6 hx => ?_) fun _ _ e => e.elim
      obtain ⟨u, rfl, h6⟩ := hx
      refine seg_bind_wrap ?_
      rw [hov]
      refine wpAny_mono h6 (fun _ s7 hx => ?_) fun _ _ e => e.elim
      obtain ⟨x, H7, I7, r7, y7, st7, n7⟩ := hx
      have I7' := I7.pinned (stat I7 n7) (T.obj _ _ st7)
      refine seg_bind_wrap ?_
      rw [hov]
      refine wpAny_mono (pg.run _ s7 _ H7 x u _ I7' r7 (step x H7 y7)) (fun _ s8 hx => ?_) fun _ _ e => e.elim
      obtain ⟨σ8, H8, I8, hw8, q8⟩ := hx
      refine seg_bind_wrap ?_
      rw [hov]
      refine wpAny_mono (pt.run _ s8 σ8 H8 _ I8 q8) (fun b s9 hx => ?_) fun _ _ e => e.elim
      obtain ⟨H9, I9, q9⟩ := hx
      have fin : ∀ {s' : Shared} {H' : Hp} {ys' : List V}, GI (gcx X A s3 H3 cenv fp) S ([(a, go)] ++ pinsAt fp s7.heap) ys' σ8 H' s' → GI (gcx X A s3 H3 cenv fp) S [(a, go)] ys' (wipe σ vs) H' s' ∧ tn (i + 1) s'.heap ∧ ∀ b ∈ fp, H' b = none := fun {s' H' ys'} hG' => by
        obtain ⟨acc', cc', rv', I'⟩ := hG'
        have I' : Inv (gcx X A s3 H3 cenv fp) (((S, lstObj acc' cc') :: [(a, go)]) ++ pinsAt fp s7.heap) σ8 H' s' := I'
        have pin' : ∀ b ∈ fp, ∀ o, s7.heap.get? b = some o → s'.heap.get? b = some o ∧ H' b = none := fun b hb o e =>
          let z := I'.pin (b, o) (List.mem_append_right _ (List.mem_append_right _ (mem_pinsAt hb e)))
          ⟨z.1, z.2.1⟩
        have hl : (wipe σ vs).length = σ8.length := by rw [← hw8, wipe_length]
        refine ⟨⟨acc', cc', rv', I'.unpinned.weak hl (fun j v e => ?_)⟩, T.keep _ _ _ st7 fun b hb o e => (pin' b hb o e).1, fun b hb => ?_⟩
        · rw [← hw8] at e
          exact (wipe_some e).1
        · obtain ⟨o, e, _⟩ := T.obj _ _ st7 b hb
          exact (pin' b hb o e).2
      cases b with
      | false =>
        simp only [Bool.false_eq_true, if_false] at q9 ⊢
        obtain ⟨m', hm, w'⟩ := hNx ys H9 q9
        obtain ⟨f1, f2, f3⟩ := fin (ys' := ys) ⟨acc, cc, rv, I9⟩
        exact seg_again rfl (ih m' hm n (i + 1) ys s₀ _ H9 hmn f1 f2 f3 w')
      | true =>
        simp only [if_true] at q9 ⊢
        have hy : ∀ v, yieldOut cenv v = yieldValue v := fun v => by simp only [yieldOut, hco, Bool.false_eq_true, if_false]
        simp only [hy]
        rw [Sem.bind_eq_wrap', Sem.bind_eq_wrap', Sem.wrap_wrap, Sem.wrap_wrap]
        refine seg_wrap ?_
        rw [hov]
        refine wpAny_mono (pe.run _ s9 σ8 H9 _ I9 q9) (fun z s10 hx => ?_) fun _ _ e => e.elim
        obtain ⟨yv, H10, I10, r10, nx⟩ := hx
        obtain ⟨n, rfl⟩ : ∃ n', n = n' + 1 := ⟨n - 1, by omega⟩
        have hasz : acc.size = ys.length := by
          have e1 := rv.length
          have e2 : acc.toList.length = acc.size := by simp
          omega
        have pS := I10.pin (S, lstObj acc cc) (List.mem_append_right _ List.mem_cons_self)
        have pA := I10.pin (a, go) (List.mem_append_right _ (List.mem_append_left _ (List.mem_cons_of_mem _ (List.mem_singleton.mpr rfl))))
        refine seg_at (seg_yield rfl rfl rfl ⟨I10.os, I10.bare, I10.nolimit, hgo _ pA.1, ⟨acc, cc, pS.1, by rw [hasz]; omega⟩, fun s'' hk => ?_⟩)
        obtain ⟨m', hm, w'⟩ := hNx (ys ++ [yv]) H10 nx
        have hG10 : GI (gcx X A s3 H3 cenv fp) S ([(a, go)] ++ pinsAt fp s7.heap) ys σ8 H10 s10 := ⟨acc, cc, rv, I10⟩
        have wk := hG10.woken (x := yv) (fun p hp => by simp at hp) (fun p hp z => by
          rcases List.mem_append.mp hp with q | q
          · rw [List.mem_singleton.mp q] at z; exact haS z
          · obtain ⟨hb, _⟩ := of_pinsAt q
            exact hSf (by rw [← z]; exact hb)) hAp r10 hk
        obtain ⟨f1, f2, f3⟩ := fin wk
        exact seg_again rfl (ih m' hm n (i + 1) (ys ++ [yv]) s'' s'' H10 (by rw [List.length_append, List.length_singleton]; omega) f1 f2 f3 w')
end
/-- tuple(g), g a generator that has not begun -/
theorem call_tuple_new {P : Program} {w : World} {outer : List Env} {H : Hp} {sc s : Shared} {ex : List Addr} {Q : List V → Hp → Prop} {A : Around} {k : Nat} {u : Value} {Q' : Value → Shared → Prop} {E : Value → Shared → Prop}
    (hr : Room (k + 1) A) (hfr : A.frames = some outer) (h : GMade P w k outer H sc ex Q (fun _ _ _ => False) u s)
    (hQ : ∀ (s' : Shared) (acc : Array Value) (H' : Hp) (ys : List V), Vals ys acc.toList → ys.length ≤ sizeLine → s'.os = sc.os → AllBare s'.gens → Un (frs outer) ex H H' sc.heap s'.heap → HOk P w H' s'.heap → Q ys H' → Q' (.ref s'.heap.objs.size) { s' with heap := s'.heap.push { cls := .type "tuple", data := .seq acc } }) :
    wpAny (model P w) A (call (.type "tuple") [u]) Q' E s := by
  obtain ⟨a, g, c, rfl, ha1, ha2, hg, hgs, hos, hb, hl, hkp, wake⟩ := h
  have hSa : s.heap.objs.size ≠ a := Nat.ne_of_gt ha2
  have hcl : cStatics < s.heap.objs.size := let ⟨_, hn, _⟩ := hl; hn.lt
  have hSc : s.heap.objs.size ≠ cStatics := Nat.ne_of_gt hcl
  refine callType_codes (Q₁ := fun obj s₁ => s₁.TypeIs obj "tuple" ∧ Q' obj s₁) F.called_tuple (F.typeCall_tuple_1 _) F.entry_object_init ?_ fun obj s₁ h₁ =>
    ⟨h₁.1, F.args_object_init_2 obj _, object_init_meets F.called_tuple.init.lookup F.called_tuple.made (by decide) P w A.in1 _ s₁ ⟨h₁.1, rfl, h₁.2⟩⟩
  refine codeAny_of_tree ?_
  show wpAny _ A.in1.in1 (do checkBuiltinCall "tuple.__new__" ⟨[.type "tuple", .ref a], []⟩; again (.builtin "tuple.__new__" ⟨[.type "tuple", .ref a], []⟩)) _ _ s
  refine wpAny_bind (wpAny_of_eq (F.newCall_tuple_1 _) (wpAny_pure ⟨plainId_quiet F.plain_tuple_new _, codeAny_builtin F.entry_tuple_new ?_⟩))
  rw [Around.under_plainId F.plain_tuple_new _]
  have hsub := sub_tuple_self
  have hinit := init_tuple_lookup
  have hmh := madeHere_tuple
  have hTI := hg.typeIs (s := s)
  have coll : ∀ {A2 : Around} {QC : List Value → Shared → Prop} {EC : Value → Shared → Prop}, A2.handled = none → A2.depth = A.depth → A2.units ≤ A.units + 8 → A2.frames = some outer →
      (∀ (s' : Shared) (acc : Array Value) (H' : Hp) (ys : List V), Vals ys acc.toList → ys.length ≤ sizeLine → s'.os = sc.os → AllBare s'.gens → Un (frs outer) ex H H' sc.heap s'.heap → HOk P w H' s'.heap → Q ys H' → QC acc.toList s') → wpAny (model P w) A2 (collect (.ref a)) QC EC s := fun {A2 QC EC} h1 h2 h3 h4 hq => by
    unfold collect
    refine wpAny_bind (wpAny_runValue (codeAny_builtin F.entry_proto_collect ?_))
    rw [Around.under_plainId F.plain_proto_collect _]
    show wpAny _ A2.in1 (newList [] >>= fun l => again (.builtin "list.__iadd__" ⟨[l, .ref a], []⟩)) _ _ s
    refine wpAny_bind (wpAny_newObj_type ?_)
    refine wpAny_pure ⟨plainId_quiet F.plain_list_iadd _, codeAny_builtin F.entry_list_iadd ?_⟩
    rw [Around.under_plainId F.plain_list_iadd _]
    show wpAny _ A2.in1 (Builtin.List.listExtendWith (.ref s.heap.objs.size) (.ref a) (.ref s.heap.objs.size)) _ _ _
    unfold Builtin.List.listExtendWith
    have up : ∀ (h : Heap) (f : Obj → Obj), (∀ b o, s.heap.get? b = some o → h.get? b = some o) → ∀ b o, s.heap.get? b = some o → (h.update s.heap.objs.size f).get? b = some o := fun h f q b o e =>
      (Heap.get?_update_other _ _ (Ne.symm (Nat.ne_of_lt (Heap.lt_size e)))).trans (q b o e)
    have k1 : ∀ b o, s.heap.get? b = some o → (s.heap.push { cls := .type "list", data := .seq ([] : List Value).toArray }).get? b = some o := fun b o e => Heap.get?_push_of_some _ e
    have gty : ∀ {h : Heap}, (∀ b o, s.heap.get? b = some o → h.get? b = some o) → h.IsGen a g := fun {h} q => hg.keeps q
    refine wpAny_bind (wpAny_typeOf (Heap.IsGen.typeIs (s := { s with heap := _ }) (gty k1)) ?_)
    have e1 : Builtin.List.listSameRef (.ref s.heap.objs.size) (.ref a) = false := by simp [Builtin.List.listSameRef, hSa]
    have e2 : (Value.type "generator" == Value.type "list") = false := by decide
    have e3 : (Value.type "generator" == Value.type "tuple") = false := by decide
    simp only [e1, e2, e3, Bool.or_false, Bool.false_eq_true, if_false]
    refine wpAny_bind (wpAny_pyIter_gen (s := { s with heap := _ }) (gty k1) ?_)
    refine wpAny_bind (wpAny_holding ?_)
    unfold Builtin.List.listLengthHint
    refine wpAny_bind (wpAny_specialOf (Heap.IsGen.typeIs (s := { s with heap := _ }) (gty k1)) F.gen_no_len ?_)
    show wpAny _ A2.in1 (specialOf (Value.ref a) (Str.ofString "__length_hint__") >>= _) _ _ _
    refine wpAny_bind (wpAny_specialOf (Heap.IsGen.typeIs (s := { s with heap := _ }) (gty k1)) F.gen_no_hint ?_)
    refine wpAny_pure ?_
    show wpAny _ A2.in1 (rule "list.extend.makes-room" >>= fun _ => Builtin.List.listTouch (.ref s.heap.objs.size) >>= fun _ =>
      again (.builtin "list.extend.loop" ⟨[.ref s.heap.objs.size, .ref a, .ref s.heap.objs.size], []⟩)) _ _ _
    refine wpAny_bind (wpAny_rule ?_)
    have hS₁ : (s.heap.push { cls := .type "list", data := .seq ([] : List Value).toArray }).get? s.heap.objs.size = some { cls := .type "list", data := .seq ([] : List Value).toArray } := Heap.get?_push_size _ rfl
    refine wpAny_bind ?_
    show wpAny _ A2.in1 (updateSeq s.heap.objs.size (·.push .none) >>= fun _ => updateSeq s.heap.objs.size (·.pop)) _ _ _
    refine wpAny_bind (wpAny_updateSeq hS₁ rfl ?_)
    have hS₂ := Heap.get?_update_self (Obj.mapSeq (·.push Value.none)) hS₁ rfl
    refine wpAny_updateSeq hS₂ rfl ?_
    have hS₃ := Heap.get?_update_self (Obj.mapSeq (·.pop)) hS₂ rfl
    have k4 := up _ (Obj.mapSeq (·.pop)) (up _ (Obj.mapSeq (·.push Value.none)) k1)
    refine wpAny_pure ⟨plainId_quiet F.plain_extend_loop _, ?_⟩
    refine drain (P := P) (w := w) (outer := outer) (H := H) (sc := sc) (ex := ex) (Q := Q) (EX := fun _ _ _ => False) (A := A2) (g := g) h1 (by have := hr.dp; omega) hSa hSc
      (fun s' acc c H' ys q1 q2 q3 q4 q5 q6 q7 q8 q9 => ?_) (fun e s' hc => by obtain ⟨_, _, _, _, _, _, _, _, _, _, _, _, hf⟩ := hc; exact hf.elim)
      sizeLine _ (gty k4) (hl.keeps k4) ⟨_, hgs, rfl, ?_⟩
    · show wpAny _ A2 (load s.heap.objs.size >>= _) _ _ s'
      refine wpAny_bind (wpAny_load q1 ?_)
      exact wpAny_pure (hq s' acc H' ys q2 q3 q4 q5 q6 q7 q9)
    · refine wake _ _ _ ⟨h1, ?_, ?_⟩ h4 (Nat.le_refl _) k4 ⟨_, hS₃⟩ hos (allBare_setGen (s := { s with heap := _ }) hb rfl)
      · have := hr.dp
        show A2.depth + 3 * k + 5 < _
        omega
      · have := hr.un
        show A2.units + 1 + 1 + 16 * k + 200 < _
        omega
  wp_walk using wpAny_typeOf hTI, coll (A2 := A.in1.in1) hr.hd rfl (by show A.units + 1 + 1 ≤ A.units + 8; omega) hfr
  intro s' acc H' ys q1 q2 q3 q4 q5 q6 q7
  show wpAny _ _ (Builtin.Tuple.tupleExact acc.toList.toArray >>= fun v => ret v) _ _ _
  unfold Builtin.Tuple.tupleExact
  have hz : acc.size ≤ sizeLine := by
    have e1 := q1.length
    have e2 : acc.toList.length = acc.size := by simp
    omega
  refine wpAny_bind (wpAny_newObj_type ?_ (by show acc.toList.toArray.size ≤ sizeLine; simp only [Array.toArray_toList]; exact hz))
  refine wpAny_pure ?_
  have e : acc.toList.toArray = acc := by simp
  rw [e]
  exact ⟨⟨_, Heap.get?_push_size _ rfl, rfl⟩, hQ s' acc H' ys q1 q2 q3 q4 q5 q6 q7⟩
end Gx

set_option Elab.async false
set_option linter.all false
set_option maxRecDepth 100000
set_option maxHeartbeats 4000000
namespace Gx
open PySem PySem.Spec PyProof.Rows L2 GenW
def tCX (wi : TI) (g : TG) (tt : TT) (te : TE) (vs : List Nat) (P : Addr) : TE := fun σ H Q => wi σ H fun J H1 => GxR.TabG H1 P ∧ ∀ H2, GxR.Tabbed P H1 H2 → ∃ W : Nat → Nat → List V → Hp → Prop, (∃ m, W 0 m [] H2) ∧
  TurnsC J g tt te vs σ (fun ys H => ∀ p, H p = none → Q (.ref p) (upd H p (.tup ys))) W
section
variable {X : Cx} {pins : List (Addr × Obj)} {σ : L2.St} {H : Hp} {s : Shared}
theorem gen_made {c P : Addr} {elt tg iter : Expr} {ifs : List Expr} {gpos : Pos} {scope : Scope} {own : List (Str × Nat)} {wi : TI} {g : TG} {tt : TT} {te : TE} {k : Nat} {QQ : List V → Hp → Prop}
    (hr : Room (k + 1) X.A) (hc : X.calm = true) (hN : X.N.Nodup) (TB : GxR.TabB X.base X.mg c P) (hcode : X.env.code = .ref c) (ok : BlkOk X.N X.env.scope scope own) (S : GenK scope) (hi : PI X tg iter wi) (hs : ∀ v, genFold iter X.env v = pure v)
    (hg : ∀ (A : Around) (s : Shared) (H : Hp) (C : Addr) (code : Value) (fp : List Addr), Room k A → PG (gcx X A s H (genEnv scope (cloFrom X.env.cells scope.names []) C code builtinsNs X.env) fp) tg g)
    (ht : ∀ (A : Around) (s : Shared) (H : Hp) (C : Addr) (code : Value) (fp : List Addr), Room k A → PTs (gcx X A s H (genEnv scope (cloFrom X.env.cells scope.names []) C code builtinsNs X.env) fp) ifs tt)
    (he : ∀ (A : Around) (s : Shared) (H : Hp) (C : Addr) (code : Value) (fp : List Addr), Room k A → PE (gcx X A s H (genEnv scope (cloFrom X.env.cells scope.names []) C code builtinsNs X.env) fp) elt te)
    (I : Inv X pins σ H s) (h : wi σ H fun J H1 => GxR.TabG H1 P ∧ ∀ H2, GxR.Tabbed P H1 H2 → ∃ W : Nat → Nat → List V → Hp → Prop, (∃ m, W 0 m [] H2) ∧ TurnsC J g tt te (own.map (·.2)) σ QQ W) :
    wpAny (model X.prog X.w) X.A (eval (.GeneratorExp elt [⟨tg, iter, ifs, 0⟩] scope gpos) X.env) (fun v s5 => ∃ (s3 : Shared) (H3 : Hp) (fp : List Addr), GMade X.prog X.w (k + 1) X.stack H3 s3 fp QQ (fun _ _ _ => False) v s5 ∧
      ∀ (H' : Hp) (s' : Shared), s'.os = s3.os → AllBare s'.gens → Un (frs X.stack) fp H3 H' s3.heap s'.heap → HOk X.prog X.w H' s'.heap → Inv X pins σ H' s') X.xe s := by
  have hfree : ∀ y ∈ scope.names, y.2 = .free → ∃ c, X.env.cells.lookup y.1 = some c := fun y hy e => by
    rcases ok.free y hy e with k | k
    · exact I.ok.has _ (.inl k)
    · exact I.ok.has _ (.inr k)
  refine wpAny_GeneratorExp_make S.co (closure_ok hfree) S.cell S.dot ok.kind hr.depth (wpAny_mono (hi.run pins s σ H _ I h) (fun xv s1 h1 => wpAny_mono h1 (fun itv s2 h2 => ?_) fun _ _ e => e) fun _ _ e => e) hs
  obtain ⟨it, fp, tn, J, H1, rfl, I2, T, st2, f2, ⟨ps, hP, htr⟩, hW⟩ := h2
  refine ⟨I2.nolimit, ?_⟩
  have tabS : s2.heap.get? P = some { cls := .none, data := .fields ps } := I2.hok P _ hP
  have hd : PySem.W.CodeHd s2.heap c P := TB.code.keeps fun b u e => I2.bk b u e
  have key : ∀ (REST : Value → Shared → Prop), (∀ (cv : Value) (h3 : Heap) (tk : Nat) (more : Array Value), Heap.ExtBut P s2.heap h3 → s2.heap.objs.size ≤ h3.objs.size → h3.get? P = some { cls := .none, data := .fields (ps ++ more) } → TriplesOk (ps ++ more).toList → REST cv { s2 with heap := h3, toks := tk }) →
      wpAny (model X.prog X.w) X.A (genexprCode X.env gpos (X.env.qual ++ "<genexpr>") scope) REST X.xe s2 := fun REST fin => by
    cases hf : codeAmong gpos ps.toList with
    | some cv =>
      have e : ps = ps ++ #[] := by simp
      exact wpAny_genexprCode_hit hcode (hd.code tabS htr) hf (fin cv _ s2.toks #[] (Heap.ExtBut.refl _ _) (Nat.le_refl _) (e ▸ tabS) (e ▸ htr))
    | none =>
      refine wpAny_genexprCodeX hcode (hd.code tabS htr) (hd.tab tabS) hf fun c' h3 tk ex ge lt ic _ ta _ => ?_
      obtain ⟨_, _, _, _, _, _, _, _, _, _, _, _, _, _, _, _, _, _, _, tr, _⟩ := ic
      exact fin _ h3 tk _ ex (Nat.le_trans ge (Nat.le_of_lt lt)) ta.2 tr
  refine key _ fun cv h3 tk more ex ge tab3 tr3 => ?_
  obtain ⟨bm, ob, b1, b2, b3, b4, b5, b6, b7, b8⟩ := TB.bm
  refine wpAny_builtinsFor (m := X.mg) (by rw [I2.ok.glob]; exact (I2.mod.glob.keeps I2.bk).extBut ex TB.gP) b1 b2 (ex _ _ b4 (I2.bk _ _ b5)) b6 b7 b8 ?_
  intro h' hn' hs'
  generalize hs3 : ({ s2 with heap := h3, toks := tk } : Shared) = s3 at hn' hs' ⊢
  have e3 : s3.heap = h3 := by rw [← hs3]
  have I3 : Inv X pins σ (upd H1 P (.tbl (ps ++ more))) s3 := by
    rw [← hs3]
    exact GxR.inv_tab (more := more) (h' := h3) (g' := s2.gens) (d' := s2.drawn) (t' := tk) I2 hP (fun b o n e => ex b o n e) tab3 I2.bare
  obtain ⟨W, ⟨m0, w0⟩, turn⟩ := hW _ ⟨⟨ps ++ more, upd_same, tr3⟩, fun b hb => upd_ne hb⟩
  have neP : ∀ b ∈ fp, b ≠ P := fun b hb z => by
    have := (f2 b hb).1
    rw [z, hP] at this
    cases this
  have f3 : ∀ b ∈ fp, FpOk X pins (upd H1 P (.tbl (ps ++ more))) b ∧ b < s3.heap.objs.size := fun b hb => by
    obtain ⟨o, e, _⟩ := T.obj _ _ st2 b hb
    refine ⟨⟨?_, (f2 b hb).2⟩, by rw [e3]; exact Nat.lt_of_lt_of_le (Heap.lt_size e) ge⟩
    rw [upd_ne (neP b hb)]
    exact (f2 b hb).1
  have st3 : tn 0 s3.heap := T.keep _ _ _ st2 fun b hb o e => by rw [e3]; exact ex b o (neP b hb) e
  generalize hH3 : upd H1 P (.tbl (ps ++ more)) = H3 at I3 w0 f3
  have nf : ∀ b ∈ fp, H3 b = none := fun b hb => (f3 b hb).1.1
  generalize hgo : ({ cls := .type "generator", data := .fields #[.int s3.gens.size 0, .str "<genexpr>" (s3.toks + 1), .str (X.env.qual ++ "<genexpr>") (s3.toks + 1 + 1)] } : Obj) = go
  have sz' : h'.objs.size = s3.heap.objs.size + 1 := by rw [hs'.1, Heap.size_push]
  generalize hs5 : ({ s3 with gens := s3.gens.push (.fresh (.compStart (.GeneratorExp elt [⟨tg, iter, ifs, 0⟩] scope gpos) 0 (.ref it) .none (genEnv scope (cloFrom X.env.cells scope.names []) s3.heap.objs.size cv builtinsNs X.env))), toks := s3.toks + 1 + 1 + 1, heap := h'.push go } : Shared) = s5
  have h5 : s5.heap = h'.push go := by rw [← hs5]
  have sz5 : s5.heap.objs.size = h'.objs.size + 1 := by rw [h5, Heap.size_push]
  have kp : Kept s3 s5 := by
    refine ⟨by rw [← hs5], by rw [← hs5]; exact AllBare.push I3.bare rfl, fun b o e => ?_⟩
    rw [h5]
    exact Heap.get?_push_of_some _ (hs'.extBut b o (Nat.ne_of_lt (Heap.lt_size e)) (Heap.get?_push_of_some _ e))
  have hga : s5.heap.get? h'.objs.size = some go := by rw [h5, ← hgo]; exact Heap.get?_push_size _ rfl
  have isg : ∀ h : Heap, h.get? h'.objs.size = some go → h.IsGen h'.objs.size s3.gens.size := fun h e => ⟨go, _, _, e, by rw [← hgo], by rw [← hgo], by rw [← hgo]⟩
  have hgs : s5.gens[s3.gens.size]? = some (.fresh (.compStart (.GeneratorExp elt [⟨tg, iter, ifs, 0⟩] scope gpos) 0 (.ref it) .none (genEnv scope (cloFrom X.env.cells scope.names []) s3.heap.objs.size cv builtinsNs X.env))) := by
    rw [← hs5]
    exact Array.getElem?_push_size ..
  have hns : s5.heap.Ns s3.heap.objs.size (fun y => if y = ".0" then some (.ref it) else none) := by rw [h5]; exact hn'.push _
  have nstk : ∀ b, s3.heap.objs.size ≤ b → b ∉ frs X.stack := fun b hb z => by
    rcases List.mem_cons.mp (I3.stkSub _ z) with z | z
    · exact absurd (Nat.lt_of_lt_of_le I3.lt (show s3.heap.objs.size ≤ X.env.locals by rw [← z]; exact hb)) (Nat.lt_irrefl _)
    · exact I3.nofs hb z
  have lt35 : s3.heap.objs.size < s5.heap.objs.size := by omega
  refine ⟨s3, H3, fp, ⟨h'.objs.size, s3.gens.size, _, rfl, (show s3.heap.objs.size ≤ h'.objs.size by omega), (show h'.objs.size < s5.heap.objs.size by omega), isg _ hga, hgs, kp.os, kp.bare, I3.nolimit.keeps kp.keep, kp.keep, fun A' Sx s6 hrA hfrA hSx hk6 hSo hos hba => ?_⟩, fun H' s' ho hb hu hok => I3.call' (ch := fp) ho hu hok hb fun b hb => ⟨(f3 b hb).1.2.2.2.1, (f3 b hb).1.2.1, (f3 b hb).1.2.2.2.2.1, (f3 b hb).1.2.2.2.2.2⟩⟩
  have k6 : Kept s3 s6 := ⟨hos, hba, fun b o e => hk6 b o (kp.keep b o e)⟩
  have rm : Room k (A'.over (.compLoop (.GeneratorExp elt [⟨tg, iter, ifs, 0⟩] scope gpos) 0 (.ref it) .none (genEnv scope (cloFrom X.env.cells scope.names []) s3.heap.objs.size cv builtinsNs X.env)) []) := by
    have h1 := hrA.dp
    have h2 := hrA.un
    refine ⟨hrA.hd, ?_, ?_⟩
    · show A'.depth + 0 + 1 + 3 * k + 5 < _
      omega
    · show A'.units + 0 + 3 + 16 * k + 200 < _
      omega
  have Ig := gen_start I3 ok S hN f3 rm.hd (over_gen hfrA) k6 (hns.keeps hk6)
  obtain ⟨cS, heS⟩ := hSo
  have Sx3 : s3.heap.objs.size ≤ Sx := Nat.le_trans (Nat.le_of_lt lt35) hSx
  have SxC : Sx ≠ s3.heap.objs.size := Nat.ne_of_gt (Nat.lt_of_lt_of_le lt35 hSx)
  have aS : h'.objs.size ≠ Sx := Nat.ne_of_lt (Nat.lt_of_lt_of_le (by omega) hSx)
  have hG : GI (gcx X (A'.over (.compLoop (.GeneratorExp elt [⟨tg, iter, ifs, 0⟩] scope gpos) 0 (.ref it) .none (genEnv scope (cloFrom X.env.cells scope.names []) s3.heap.objs.size cv builtinsNs X.env)) []) s3 H3 (genEnv scope (cloFrom X.env.cells scope.names []) s3.heap.objs.size cv builtinsNs X.env) fp) Sx [(h'.objs.size, go)] [] (wipe σ (own.map (·.2))) H3 s6 := by
    refine ⟨#[], cS, .nil, Ig.pins_of fun p hp => ?_⟩
    rcases List.mem_cons.mp hp with z | z
    · rw [z]
      exact ⟨heS, I3.hok.fresh Sx3, SxC, nstk _ Sx3, fun v q => by cases q⟩
    · rw [List.mem_singleton.mp z]
      exact ⟨hk6 _ _ hga, I3.hok.fresh (by omega), by show h'.objs.size ≠ s3.heap.objs.size; omega, nstk _ (by omega), fun v q => by rw [← hgo] at q; cases q⟩
  have st6 : tn 0 s6.heap := T.keep _ _ _ st3 fun b hb o e => k6.keep b o e
  have hAp : Apart (gcx X (A'.over (.compLoop (.GeneratorExp elt [⟨tg, iter, ifs, 0⟩] scope gpos) 0 (.ref it) .none (genEnv scope (cloFrom X.env.cells scope.names []) s3.heap.objs.size cv builtinsNs X.env)) []) s3 H3 (genEnv scope (cloFrom X.env.cells scope.names []) s3.heap.objs.size cv builtinsNs X.env) fp) Sx := by
    refine ⟨Sx3, SxC, fun x c e z => ?_⟩
    obtain ⟨v, q⟩ := Ig.cell x c e
    have hcl : X.env.cells.lookup x = some c := by
      have e : (cloFrom X.env.cells scope.names []).lookup x = some c := e
      rcases cloFrom_mem (PySem.mem_of_lookup e) with hm | ⟨h1, rfl⟩
      · cases hm
      · obtain ⟨c, hc⟩ := hfree _ h1 rfl
        rw [hc]
        rfl
    obtain ⟨v3, q3⟩ := I3.cell x c hcl
    exact absurd (Nat.lt_of_lt_of_le q3.lt (by rw [z]; exact Sx3)) (Nat.lt_irrefl _)
  refine seg_start T st6 (seg_loopC T hc rfl S.co (fun z => ?_) (fun z => ?_) aS hAp isg (hg _ _ _ _ _ _ rm) (ht _ _ _ _ _ _ rm) (he _ _ _ _ _ _ rm) turn m0 sizeLine 0 [] _ _ H3 (Nat.add_zero _) hG st6 nf w0)
  · have q : h'.objs.size < s3.heap.objs.size := (f3 _ z).2
    omega
  · exact absurd (Nat.lt_of_lt_of_le (f3 _ z).2 Sx3) (Nat.lt_irrefl _)
theorem pe_tupX {c P : Addr} {elt tg iter : Expr} {ifs : List Expr} {gpos p pos : Pos} {scope : Scope} {own : List (Str × Nat)} {wi : TI} {g : TG} {tt : TT} {te : TE} {k : Nat}
    (hr : Room (k + 2) X.A) (hgl : Gl X "tuple") (hm : X.mg "tuple" = none) (hc : X.calm = true) (hN : X.N.Nodup) (TB : GxR.TabB X.base X.mg c P) (hcode : X.env.code = .ref c) (ok : BlkOk X.N X.env.scope scope own) (S : GenK scope) (hi : PI X tg iter wi)
    (hg : ∀ (A : Around) (s : Shared) (H : Hp) (C : Addr) (code : Value) (fp : List Addr), Room k A → PG (gcx X A s H (genEnv scope (cloFrom X.env.cells scope.names []) C code builtinsNs X.env) fp) tg g)
    (ht : ∀ (A : Around) (s : Shared) (H : Hp) (C : Addr) (code : Value) (fp : List Addr), Room k A → PTs (gcx X A s H (genEnv scope (cloFrom X.env.cells scope.names []) C code builtinsNs X.env) fp) ifs tt)
    (he : ∀ (A : Around) (s : Shared) (H : Hp) (C : Addr) (code : Value) (fp : List Addr), Room k A → PE (gcx X A s H (genEnv scope (cloFrom X.env.cells scope.names []) C code builtinsNs X.env) fp) elt te)
    (hs : ∀ v, genFold iter X.env v = pure v := by intro _; rfl)
    (hst : starEach [.GeneratorExp elt [⟨tg, iter, ifs, 0⟩] scope gpos] X.env = (false, eval (.GeneratorExp elt [⟨tg, iter, ifs, 0⟩] scope gpos) X.env) :: starEach [] X.env := by rfl) :
    PE X (.Call (.Name "tuple" p) [.GeneratorExp elt [⟨tg, iter, ifs, 0⟩] scope gpos] [] pos) (tCX wi g tt te (own.map (·.2)) P) := by
  refine ⟨fun pins s σ H Q I h => ?_⟩
  refine wpAny_Call_Name_kw (ld_blt I hgl hm boot_tuple (PyProof.Rows.callWith_type1 ?_ hst (by rfl)))
  rw [hst]
  show wpAny _ _ (spliced ((false, _) :: backTo pos (starEach [] X.env))) _ _ s
  refine Calls.spliced_cons (wpAny_mono (gen_made (k := k) (hr.mono (by omega)) hc hN TB hcode ok S hi hs hg ht he I h) (fun v s5 hx => ?_) fun _ _ e => e)
  obtain ⟨s3, H3, fp, hG, back⟩ := hx
  refine Calls.spliced_nil (call_tuple_new hr I.ok.frames hG fun s' acc H' ys q1 q2 q3 q4 q5 q6 q7 => ?_)
  have J := back H' s' q3 q4 q5 q6
  refine ⟨.ref s'.heap.objs.size, _, J.laid (t' := s'.toks) (o := .tup ys) (fun b u e => Heap.get?_push_of_some _ e) (Nat.le_refl _) ⟨q2, acc.toList, q1, ?_⟩, rfl, q7 _ (J.hok.fresh (Nat.le_refl _))⟩
  have z := IsTup.new s'.heap acc
  simpa using z
end
/-! ### turns, by source -/
theorem tup_tup {K : PySem.W.Frag} {a : Addr} {xs : List V} {g : TG} {tt : TT} {te : TE} {vs : List Nat} {σ : L2.St} {Q : List V → Hp → Prop} {H2 : Hp} (hz : xs.length ≤ sizeLine) (Pv : Nat → List V → Hp → Prop) (h0 : Pv 0 [] H2) (hl : ∀ i ys H, i ≤ xs.length → Pv i ys H → SqT K H a xs) (hy : ∀ i ys H, Pv i ys H → ys.length ≤ i)
    (hs : ∀ i x ys H, xs[i]? = some x → Pv i ys H → g x (wipe σ vs) H fun σ2 H2 => wipe σ2 vs = wipe σ vs ∧ tt σ2 H2 fun b H3 => if b = true then te σ2 H3 fun y H4 => Pv (i + 1) (ys ++ [y]) H4 else Pv (i + 1) ys H3) (hd : ∀ ys H, Pv xs.length ys H → Q ys H) :
    ∃ W : Nat → Nat → List V → Hp → Prop, (∃ m, W 0 m [] H2) ∧ TurnsC (Itt K a) g tt te vs σ Q W := by
  refine ⟨fun i m ys H => m = xs.length - i ∧ i ≤ xs.length ∧ Pv i ys H, ⟨xs.length, by simp, Nat.zero_le _, h0⟩, ?_⟩
  rintro i m ys H ⟨rfl, hi, p⟩
  have q := hl i ys H hi p
  by_cases hlt : i < xs.length
  · refine .inr ⟨⟨xs, xs[i], q, by simp [hlt]⟩, Nat.lt_of_le_of_lt (hy i ys H p) (Nat.lt_of_lt_of_le hlt hz), Pv (i + 1), fun ys' H' p' => ⟨xs.length - (i + 1), by omega, rfl, hlt, p'⟩, fun x H' y => ?_⟩
    obtain ⟨e, y⟩ := y
    subst e
    exact hs i x ys _ (y xs q) p
  · have e : i = xs.length := by omega
    subst e
    exact .inl ⟨⟨xs, q, Nat.le_refl _⟩, hd ys H p⟩
end Gx

set_option Elab.async false
set_option linter.all false
set_option maxRecDepth 100000
set_option maxHeartbeats 4000000
/-! runs, by themselves -/
namespace Dt
open PySem PySem.Spec PyProof.Rows L2
abbrev Log := List (Int × List Int)
abbrev Res := Bool × List Int × Log
def stand (tb : List (List Int)) (tk : List Int) : List Int := List.zipWith atF tb tk
def leftOf (tb : List (List Int)) (tk : List Int) : List (List Int) := List.zipWith (fun ds k => ds.drop (k.toNat + 1)) tb tk
def firstB (fs : List Int) (wds : List WD) (ord : List Int) : Option Int := ord.find? fun n => brkAt fs wds n.toNat
def plc (wds : List WD) (k : Int) : List Int := (wds.getD k.toNat ([], [])).1
def lenAt (tb : List (List Int)) (p : Int) : Int := ((tb.getD p.toNat []).length : Int)
def canN (tb : List (List Int)) (tk ps : List Int) : Bool := ps.all fun p => decide (atF tk p + 1 < lenAt tb p)
def bumpA (tk ps : List Int) : List Int := ps.foldl (fun t p => bump t p.toNat) tk
def goR (wds : List WD) (tb : List (List Int)) (ord : List Int) : Nat → List Int → Log → Option Res
  | 0, _, _ => none
  | n + 1, tk, log => match firstB (stand tb tk) wds ord with
    | none => some (true, stand tb tk, log)
    | some k => if canN tb tk (plc wds k) = true then goR wds tb ord n (bumpA tk (plc wds k)) (log ++ [(k, huesA (stand tb tk) (plc wds k))]) else some (false, stand tb tk, log)
structure GoodT (many hues : Int) (tb : List (List Int)) : Prop where
  len : (tb.length : Int) = many
  one : ∀ ds ∈ tb, 1 ≤ ds.length
  few : ∀ ds ∈ tb, ds.length ≤ 1000
  hue : ∀ ds ∈ tb, ∀ h ∈ ds, 0 ≤ h ∧ h < hues
structure GoodK (tb : List (List Int)) (tk : List Int) : Prop where
  len : tk.length = tb.length
  at_ : ∀ p : Nat, p < tb.length → 0 ≤ tk.getD p 0 ∧ tk.getD p 0 < ((tb.getD p []).length : Int)
/-- an order of so many numbers -/
structure GoodO (n : Nat) (ord : List Int) : Prop where
  mem : ∀ z ∈ ord, 0 ≤ z ∧ z < (n : Int)
  all : ∀ k : Nat, k < n → (k : Int) ∈ ord
  len : ord.length ≤ n
def zerosI (n : Nat) : List Int := List.replicate n 0
def rem (tb : List (List Int)) (tk : List Int) : Nat := (List.zipWith (fun (ds : List Int) (k : Int) => ds.length - 1 - k.toNat) tb tk).sum
def runOf (wds : List WD) (tb : List (List Int)) (ord : List Int) : Option Res := goR wds tb ord (rem tb (zerosI tb.length) + 1) (zerosI tb.length) []
theorem getD_get {α : Type} {l : List α} {p : Nat} {d : α} (h : p < l.length) : l.getD p d = l[p] := by
  rw [List.getD_eq_getElem?_getD, List.getElem?_eq_getElem h]
  rfl
theorem getD_mem {α : Type} {l : List α} {p : Nat} {d : α} (h : p < l.length) : l.getD p d ∈ l := by
  rw [getD_get h]
  exact List.getElem_mem h
theorem bump_get (tk : List Int) (p i : Nat) : (bump tk p).getD i 0 = if i = p ∧ p < tk.length then tk.getD p 0 + 1 else tk.getD i 0 := by
  unfold bump
  rw [List.getD_eq_getElem?_getD, List.getElem?_set]
  by_cases h : p = i
  · subst h
    by_cases h2 : p < tk.length
    · rw [if_pos rfl, if_pos h2, if_pos ⟨rfl, h2⟩]
      rfl
    · rw [if_pos rfl, if_neg h2, if_neg (fun z => h2 z.2), List.getD_eq_getElem?_getD, List.getElem?_eq_none (by omega)]
  · rw [if_neg h, if_neg (fun z => h z.1.symm), List.getD_eq_getElem?_getD]
theorem zeros_get (n p : Nat) : (zerosI n).getD p 0 = 0 := by
  unfold zerosI
  rw [List.getD_eq_getElem?_getD, List.getElem?_replicate]
  split <;> rfl
theorem zeros_good {many hues : Int} {tb : List (List Int)} (g : GoodT many hues tb) : GoodK tb (zerosI tb.length) := by
  refine ⟨by simp [zerosI], fun p hp => ?_⟩
  rw [zeros_get]
  have := g.one _ (getD_mem (d := []) hp)
  omega
theorem stand_len {tb : List (List Int)} {tk : List Int} (g : GoodK tb tk) : (stand tb tk).length = tb.length := by
  unfold stand
  rw [List.length_zipWith, g.len, Nat.min_self]
theorem left_len {tb : List (List Int)} {tk : List Int} (g : GoodK tb tk) : (leftOf tb tk).length = tb.length := by
  unfold leftOf
  rw [List.length_zipWith, g.len, Nat.min_self]
theorem stand_get {tb : List (List Int)} {tk : List Int} (g : GoodK tb tk) {p : Nat} (hp : p < tb.length) : (stand tb tk)[p]? = some (atF (tb.getD p []) (tk.getD p 0)) := by
  have h2 : p < tk.length := by rw [g.len]; exact hp
  unfold stand
  rw [List.getElem?_zipWith, List.getElem?_eq_getElem hp, List.getElem?_eq_getElem h2, getD_get hp, getD_get h2]
theorem left_get {tb : List (List Int)} {tk : List Int} (g : GoodK tb tk) {p : Nat} (hp : p < tb.length) : (leftOf tb tk)[p]? = some ((tb.getD p []).drop ((tk.getD p 0).toNat + 1)) := by
  have h2 : p < tk.length := by rw [g.len]; exact hp
  unfold leftOf
  rw [List.getElem?_zipWith, List.getElem?_eq_getElem hp, List.getElem?_eq_getElem h2, getD_get hp, getD_get h2]
theorem stand_good {many hues : Int} {tb : List (List Int)} {tk : List Int} (gt : GoodT many hues tb) (g : GoodK tb tk) : GoodF many hues (stand tb tk) := by
  refine ⟨by rw [stand_len g]; exact gt.len, fun h hh => ?_⟩
  obtain ⟨p, hp, e⟩ := List.getElem_of_mem hh
  rw [stand_len g] at hp
  have e2 := stand_get g hp
  rw [List.getElem?_eq_getElem (by rw [stand_len g]; exact hp), e] at e2
  cases e2
  have a := g.at_ p hp
  have m : (tk.getD p 0).toNat < (tb.getD p []).length := by omega
  exact gt.hue _ (getD_mem hp) _ (getD_mem m)
theorem first_some {fs : List Int} {wds : List WD} {ord : List Int} {k : Int} (h : firstB fs wds ord = some k) : k ∈ ord ∧ brkAt fs wds k.toNat = true := ⟨List.mem_of_find?_eq_some h, by
  have z := List.find?_some (p := fun n : Int => brkAt fs wds n.toNat) (l := ord) (a := k) h
  exact z⟩
theorem wd_of {wds : List WD} {k : Int} (h0 : 0 ≤ k) (h1 : k < (wds.length : Int)) : ∃ wd, wds[k.toNat]? = some wd ∧ plc wds k = wd.1 := by
  have h : k.toNat < wds.length := by omega
  exact ⟨wds[k.toNat], List.getElem?_eq_getElem h, by rw [plc, getD_get h]⟩
/-! ### one more draw at a place -/
theorem rem_bump : ∀ {tb : List (List Int)} {tk : List Int} {p : Nat}, p < tb.length → p < tk.length → 0 ≤ tk.getD p 0 → tk.getD p 0 + 1 < ((tb.getD p []).length : Int) → rem tb (bump tk p) + 1 = rem tb tk
  | [], _, _, h, _, _, _ => absurd h (Nat.not_lt_zero _)
  | _ :: _, [], _, _, h, _, _ => absurd h (Nat.not_lt_zero _)
  | ds :: r, k :: q, 0, _, _, h0, h1 => by
    simp only [List.getD_cons_zero] at h0 h1
    unfold rem bump
    simp only [List.getD_cons_zero, List.set_cons_zero, List.zipWith_cons_cons, List.sum_cons]
    omega
  | ds :: r, k :: q, p + 1, hp, hq, h0, h1 => by
    simp only [List.getD_cons_succ] at h0 h1
    have ih := rem_bump (tb := r) (tk := q) (p := p) (Nat.lt_of_succ_lt_succ hp) (Nat.lt_of_succ_lt_succ hq) h0 h1
    unfold rem bump at ih ⊢
    simp only [List.getD_cons_succ, List.set_cons_succ, List.zipWith_cons_cons, List.sum_cons] at ih ⊢
    omega
theorem good_bump {tb : List (List Int)} {tk : List Int} {p : Nat} (g : GoodK tb tk) (hp : p < tb.length) (h : tk.getD p 0 + 1 < ((tb.getD p []).length : Int)) : GoodK tb (bump tk p) := by
  refine ⟨by rw [bump_len]; exact g.len, fun i hi => ?_⟩
  have a := g.at_ i hi
  rw [bump_get]
  by_cases e : i = p
  · subst e
    rw [if_pos ⟨rfl, by rw [g.len]; exact hp⟩]
    omega
  · rw [if_neg (fun z => e z.1)]
    exact a
theorem stand_bump {tb : List (List Int)} {tk : List Int} {p : Nat} {x : Int} {r : List Int} (g : GoodK tb tk) (hp : p < tb.length) (h : (leftOf tb tk)[p]? = some (x :: r)) : stand tb (bump tk p) = (stand tb tk).set p x ∧ leftOf tb (bump tk p) = (leftOf tb tk).set p r ∧ tk.getD p 0 + 1 < ((tb.getD p []).length : Int) := by
  rw [left_get g hp] at h
  have a := g.at_ p hp
  have e := Option.some.inj h
  have hl : (tk.getD p 0).toNat + 1 < (tb.getD p []).length := by
    have z := congrArg List.length e
    rw [List.length_drop, List.length_cons] at z
    omega
  have hc : tk.getD p 0 + 1 < ((tb.getD p []).length : Int) := by omega
  have g2 := good_bump g hp hc
  have en : (tk.getD p 0 + 1).toNat = (tk.getD p 0).toNat + 1 := by omega
  have ex : (tb.getD p []).getD ((tk.getD p 0).toNat + 1) 0 = x := by
    have z := congrArg (fun l : List Int => l[0]?) e
    simp only [List.getElem?_drop, List.getElem?_cons_zero, Nat.add_zero] at z
    rw [List.getD_eq_getElem?_getD, z]
    rfl
  have er : (tb.getD p []).drop ((tk.getD p 0).toNat + 1 + 1) = r := by
    have z := congrArg (fun l : List Int => l.drop 1) e
    simp only [List.drop_drop, List.drop_succ_cons, List.drop_zero] at z
    exact z
  refine ⟨?_, ?_, hc⟩
  · refine List.ext_getElem? fun i => ?_
    rw [List.getElem?_set]
    by_cases hi : i < tb.length
    · rw [stand_get g2 hi, bump_get]
      by_cases e2 : p = i
      · subst e2
        rw [if_pos ⟨rfl, by rw [g.len]; exact hp⟩, if_pos rfl, if_pos (by rw [stand_len g]; exact hp)]
        unfold atF
        rw [en, ex]
      · rw [if_neg (fun z => e2 z.1.symm), if_neg e2, stand_get g hi]
    · rw [List.getElem?_eq_none (by rw [stand_len g2]; omega), if_neg (by omega), List.getElem?_eq_none (by rw [stand_len g]; omega)]
  · refine List.ext_getElem? fun i => ?_
    rw [List.getElem?_set]
    by_cases hi : i < tb.length
    · rw [left_get g2 hi, bump_get]
      by_cases e2 : p = i
      · subst e2
        rw [if_pos ⟨rfl, by rw [g.len]; exact hp⟩, if_pos rfl, if_pos (by rw [left_len g]; exact hp), en, er]
      · rw [if_neg (fun z => e2 z.1.symm), if_neg e2, left_get g hi]
    · rw [List.getElem?_eq_none (by rw [left_len g2]; omega), if_neg (by omega), List.getElem?_eq_none (by rw [left_len g]; omega)]
/-! ### one more draw at some places -/
structure Can (tb : List (List Int)) (tk ps : List Int) : Prop where
  nd : ps.Nodup
  pl : ∀ p ∈ ps, 0 ≤ p ∧ p < (tb.length : Int)
  nx : ∀ p ∈ ps, atF tk p + 1 < lenAt tb p
theorem Can.tail {tb : List (List Int)} {tk ps : List Int} {p : Int} (c : Can tb tk (p :: ps)) : Can tb (bump tk p.toNat) ps := by
  refine ⟨(List.nodup_cons.mp c.nd).2, fun q hq => c.pl q (List.mem_cons_of_mem _ hq), fun q hq => ?_⟩
  have hp := c.pl p List.mem_cons_self
  have hq2 := c.pl q (List.mem_cons_of_mem _ hq)
  have hne : q ≠ p := fun z => (List.nodup_cons.mp c.nd).1 (z ▸ hq)
  have := c.nx q (List.mem_cons_of_mem _ hq)
  unfold atF at this ⊢
  rw [bump_get, if_neg (fun z => hne (by omega))]
  exact this
theorem bumpA_good : ∀ {ps : List Int} {tb : List (List Int)} {tk : List Int}, GoodK tb tk → Can tb tk ps → GoodK tb (bumpA tk ps) ∧ rem tb (bumpA tk ps) + ps.length = rem tb tk
  | [], _, _, g, _ => ⟨g, rfl⟩
  | p :: ps, tb, tk, g, c => by
    have hp := c.pl p List.mem_cons_self
    have hn := c.nx p List.mem_cons_self
    have hpn : p.toNat < tb.length := by omega
    have g2 := good_bump g hpn hn
    have a := g.at_ _ hpn
    have r := rem_bump (tb := tb) (tk := tk) hpn (by rw [g.len]; exact hpn) a.1 hn
    obtain ⟨i1, i2⟩ := bumpA_good (ps := ps) g2 c.tail
    refine ⟨i1, ?_⟩
    show rem tb (bumpA (bump tk p.toNat) ps) + (ps.length + 1) = rem tb tk
    omega
theorem can_of {many hues : Int} {wds : List WD} {tb : List (List Int)} {tk : List Int} {k : Int} {wd : WD} (gr : GoodR many hues wds) (nd : ∀ wd ∈ wds, wd.1.Nodup) (gt : GoodT many hues tb) (hw : wds[k.toNat]? = some wd) (he : plc wds k = wd.1) (h : canN tb tk (plc wds k) = true) : Can tb tk (plc wds k) := by
  have hm := List.mem_of_getElem? hw
  rw [he] at h ⊢
  refine ⟨nd wd hm, fun p hp => ?_, fun p hp => ?_⟩
  · have := (gr.each wd hm).pl p hp
    have := gt.len
    omega
  · exact of_decide_eq_true (List.all_eq_true.mp h p hp)
def LogOk (wds : List WD) (log : Log) : Prop := ∀ e ∈ log, 0 ≤ e.1 ∧ e.1 < (wds.length : Int) ∧ ∃ wd, wds[e.1.toNat]? = some wd ∧ e.2 ∈ wd.2
theorem LogOk.nil (wds : List WD) : LogOk wds [] := fun _ h => nomatch h
theorem LogOk.snoc {wds : List WD} {log : Log} {fs : List Int} {k : Int} {wd : WD} (h : LogOk wds log) (h0 : 0 ≤ k) (h1 : k < (wds.length : Int)) (hw : wds[k.toNat]? = some wd) (he : plc wds k = wd.1) (hb : brkAt fs wds k.toNat = true) : LogOk wds (log ++ [(k, huesA fs (plc wds k))]) := by
  intro e hm
  rcases List.mem_append.mp hm with z | z
  · exact h e z
  · rw [List.mem_singleton.mp z]
    refine ⟨h0, h1, wd, hw, ?_⟩
    rw [brkAt_of hw] at hb
    rw [he]
    exact of_decide_eq_true hb
theorem goR_total {many hues : Int} {wds : List WD} {tb : List (List Int)} {ord : List Int} (gr : GoodR many hues wds) (nd : ∀ wd ∈ wds, wd.1.Nodup) (gt : GoodT many hues tb) (go : GoodO wds.length ord) :
    ∀ (n : Nat) (tk : List Int) (log : Log), GoodK tb tk → LogOk wds log → rem tb tk < n → ∃ R, goR wds tb ord n tk log = some R ∧ GoodF many hues R.2.1 ∧ LogOk wds R.2.2 ∧ R.2.2.length ≤ log.length + rem tb tk
  | 0, _, _, _, _, h => absurd h (Nat.not_lt_zero _)
  | n + 1, tk, log, g, hl, h => by
    cases e : firstB (stand tb tk) wds ord with
    | none => exact ⟨(true, stand tb tk, log), by simp only [goR, e], stand_good gt g, hl, Nat.le_add_right _ _⟩
    | some k =>
      obtain ⟨hk, hb⟩ := first_some e
      obtain ⟨k0, k1⟩ := go.mem k hk
      obtain ⟨wd, hw, he⟩ := wd_of k0 k1
      cases c : canN tb tk (plc wds k) with
      | false => exact ⟨(false, stand tb tk, log), by simp only [goR, e, c]; rfl, stand_good gt g, hl, Nat.le_add_right _ _⟩
      | true =>
        have cn := can_of gr nd gt hw he c
        obtain ⟨g2, r2⟩ := bumpA_good g cn
        have one := (gr.each wd (List.mem_of_getElem? hw)).one
        rw [← he] at one
        obtain ⟨R, hR, a1, a2, a3⟩ := goR_total gr nd gt go n (bumpA tk (plc wds k)) (log ++ [(k, huesA (stand tb tk) (plc wds k))]) g2 (hl.snoc k0 k1 hw he hb) (by omega)
        refine ⟨R, by simp only [goR, e, c, if_true]; exact hR, a1, a2, ?_⟩
        rw [List.length_append, List.length_singleton] at a3
        omega
theorem rem_le : ∀ (tb : List (List Int)) (tk : List Int) (b : Nat), (∀ ds ∈ tb, ds.length ≤ b) → rem tb tk ≤ tb.length * b
  | [], _, _, _ => by simp [rem]
  | _ :: _, [], _, _ => by simp [rem]
  | ds :: r, k :: q, b, h => by
    have ih := rem_le r q b fun d hd => h d (List.mem_cons_of_mem _ hd)
    have a := h ds List.mem_cons_self
    unfold rem at ih ⊢
    rw [List.zipWith_cons_cons, List.sum_cons, List.length_cons, Nat.succ_mul]
    omega
theorem runOf_some {many hues : Int} {wds : List WD} {tb : List (List Int)} {ord : List Int} (gr : GoodR many hues wds) (nd : ∀ wd ∈ wds, wd.1.Nodup) (gt : GoodT many hues tb) (go : GoodO wds.length ord) :
    ∃ R, runOf wds tb ord = some R ∧ GoodF many hues R.2.1 ∧ LogOk wds R.2.2 ∧ R.2.2.length ≤ 6000 := by
  obtain ⟨R, h1, h2, h3, h4⟩ := goR_total gr nd gt go (rem tb (zerosI tb.length) + 1) (zerosI tb.length) [] (zeros_good gt) (LogOk.nil _) (Nat.lt_succ_self _)
  refine ⟨R, h1, h2, h3, ?_⟩
  have a := rem_le tb (zerosI tb.length) 1000 gt.few
  have b := gt.len
  have c := gr.m6
  rw [List.length_nil] at h4
  have : tb.length ≤ 6 := by omega
  omega
/-! ### the first broken one, as the law finds it -/
theorem broL_iff {fs : List Int} {wds : List WD} {n : Nat} {z : Int} : z ∈ broL fs wds n ↔ 0 ≤ z ∧ z < (n : Int) ∧ brkAt fs wds z.toNat = true := by
  unfold broL
  rw [List.mem_map]
  constructor
  · rintro ⟨k, hk, rfl⟩
    obtain ⟨h1, h2⟩ := List.mem_filter.mp hk
    have := List.mem_range.mp h1
    exact ⟨by omega, by omega, by rw [Int.toNat_natCast]; exact h2⟩
  · rintro ⟨h0, h1, h2⟩
    exact ⟨z.toNat, List.mem_filter.mpr ⟨List.mem_range.mpr (by omega), h2⟩, by omega⟩
theorem first_filter {fs : List Int} {wds : List WD} {ord : List Int} (go : GoodO wds.length ord) : (ord.filter fun z => decide (z ∈ broL fs wds wds.length)).head? = firstB fs wds ord := by
  unfold firstB
  rw [List.head?_filter]
  have e : ∀ l : List Int, (∀ z ∈ l, 0 ≤ z ∧ z < (wds.length : Int)) → l.find? (fun z => decide (z ∈ broL fs wds wds.length)) = l.find? (fun n => brkAt fs wds n.toNat) := by
    intro l
    induction l with
    | nil => intro _; rfl
    | cons a r ih =>
      intro h
      have ha := h a List.mem_cons_self
      have hq : decide (a ∈ broL fs wds wds.length) = brkAt fs wds a.toNat := by
        cases c : brkAt fs wds a.toNat with
        | true => exact decide_eq_true (broL_iff.mpr ⟨ha.1, ha.2, c⟩)
        | false => exact decide_eq_false fun z => by rw [(broL_iff.mp z).2.2] at c; cases c
      rw [List.find?_cons, List.find?_cons, hq, ih fun z hz => h z (List.mem_cons_of_mem _ hz)]
  exact e ord go.mem
theorem first_none {fs : List Int} {wds : List WD} {ord : List Int} (go : GoodO wds.length ord) : firstB fs wds ord = none ↔ broL fs wds wds.length = [] := by
  constructor
  · intro h
    rw [List.eq_nil_iff_forall_not_mem]
    intro z hz
    obtain ⟨h0, h1, h2⟩ := broL_iff.mp hz
    have hm := go.all z.toNat (by omega)
    have e : ((z.toNat : Nat) : Int) = z := by omega
    rw [e] at hm
    have := List.find?_eq_none.mp h z hm
    exact this h2
  · intro h
    refine List.find?_eq_none.mpr fun z hz c => ?_
    have hm := go.mem z hz
    have : z ∈ broL fs wds wds.length := broL_iff.mpr ⟨hm.1, hm.2, c⟩
    rw [h] at this
    cases this
end Dt

set_option Elab.async false
set_option linter.all false
set_option maxRecDepth 100000
set_option maxHeartbeats 4000000
/-! calls, frames, tables, logs: over no program -/
namespace Rd
open PySem PySem.Spec PyProof.Rows L2 Dt
theorem same_upd {H : Hp} {p : Addr} {o : HO} (h : H p = none) : Same H (upd H p o) := fun b x e => by
  rw [upd_ne (ne_of_none e h)]
  exact e
def Cal (P : Program) (w : World) (K : PySem.W.Frag) (mg : Str → Option Value) (base : Heap) (k : Nat) (x : Str) (ps : List Str) (sp : Sp) : Prop :=
  ∃ (f : Addr) (fd : FuncData), FnOk P w K mg base CX0 k f fd ps sp ∧ mg x = some (.ref f) ∧ PySem.W.keepIn K (.ref f) = true ∧ Binds K fd ps []
theorem pe_cal {X : Cx} {k : Nat} {x : Str} {ps : List Str} {sp : Sp} {p pos : Pos} {e : Expr} {es : List Expr} {t : TA} (C : Cal X.prog X.w X.K X.mg X.base k x ps sp) (hr : Room k X.A) (hg : Gl X x)
    (ha : PA X (e :: es) t) (hdb : (x == ("__debug__" : Str)) = false := by decide) (he : starEach (e :: es) X.env = (false, eval e X.env) :: starEach es X.env := by rfl) (hpl : (backTo pos (starEach es X.env)).any (·.1) = false := by rfl) :
    PE X (.Call (.Name x p) (e :: es) [] pos) (tCall sp [] E0 t) := by
  obtain ⟨f, fd, F, hm, hk, hb⟩ := C
  exact pe_call F hr hg hm hk hb .nil pass0 ha hdb he hpl
/-- a def whose code object is known -/
structure FunC (K : PySem.W.Frag) (x qual : Str) (st : Stmt) (f : Addr) (fd : FuncData) (cdv : Value) : Prop where
  ex : ∃ (oc : Value) (od : Option Addr) (kV doc pm : Value) (an : Option Addr) (ct : Value) (osl : Array (Option Value)),
    fd = PySem.W.fnOf x qual (defArgs st) (defBody st) (defScope st) .none kV doc pm an cdv ct ∧ K.lookup f = some ⟨oc, od, .func fd, osl⟩ ∧ PySem.W.codeIn K cdv qual = true
theorem FunC.ok {P : Program} {w : World} {K : PySem.W.Frag} {mg : Str → Option Value} {base : Heap} {x qual : Str} {st : Stmt} {f : Addr} {fd : FuncData} {cdv : Value} {N ps : List Str} {k : Nat} {sp : Sp} (F : FunC K x qual st f fd cdv) (S : FnScope N ps (defScope st)) (len : ∀ vs H Q E, sp vs H Q E → vs.length = ps.length)
    (body : ∀ (A : Around) (outer : List Env) (s : Shared) (H : Hp) (vs : List V) (Q : VK) (E : XK), Room k (A.deeper (envOfC qual (defScope st) s.heap.objs.size f cdv)) → sp vs H Q E →
      ∃ t, PSs (cxOf CX0 P w K mg base N qual (defScope st) f cdv A outer s H E).nox (defBody st) t ∧ t { nx := fun _ H' => Q .non H', rt := Q } (start N vs) H) : FnOk P w K mg base CX0 (k + 1) f fd ps sp := by
  obtain ⟨oc, od, kV, doc, pm, an, ct, osl, rfl, lk, hcd⟩ := F.ex
  refine fn_of lk hcd S len fun A outer s H vs Q E hr hsp => ?_
  obtain ⟨t, h, q⟩ := body A outer s H vs Q E hr hsp
  exact ⟨t, h.nox, q⟩
theorem units65 {A : Around} {k : Nat} (hr : Room k A) : A.units + 65 < cLine := by have := hr.un; omega
/-! ### frames but for some tables -/
def Tabs (Ps : List Addr) (H : Hp) : Prop := ∀ P ∈ Ps, GxR.TabG H P
def FrS (Ps : List Addr) (H H' : Hp) : Prop := (∀ b o, b ∉ Ps → H b = some o → H' b = some o) ∧ Tabs Ps H'
/-- tuples and lists stay -/
def Seqs (H H' : Hp) : Prop := Tups H H' ∧ ∀ b xs, H b = some (.lst xs) → H' b = some (.lst xs)
theorem Seqs.refl (H : Hp) : Seqs H H := ⟨Tups.refl H, fun _ _ e => e⟩
theorem Seqs.trans {H H1 H2 : Hp} (a : Seqs H H1) (b : Seqs H1 H2) : Seqs H H2 := ⟨a.1.trans b.1, fun c xs e => b.2 c xs (a.2 c xs e)⟩
theorem seqs_same {H H' : Hp} (s : Same H H') : Seqs H H' := ⟨tups_same s, fun b xs e => s b _ e⟩
theorem FrS.refl {Ps : List Addr} {H : Hp} (t : Tabs Ps H) : FrS Ps H H := ⟨fun _ _ _ e => e, t⟩
theorem FrS.trans {Ps : List Addr} {H H1 H2 : Hp} (a : FrS Ps H H1) (b : FrS Ps H1 H2) : FrS Ps H H2 := ⟨fun x o n e => b.1 x o n (a.1 x o n e), b.2⟩
theorem FrS.of {Ps : List Addr} {H H' : Hp} (t : Tabs Ps H) (s : Same H H') : FrS Ps H H' := ⟨fun b o _ e => s b o e, fun P hP => let ⟨ps, h, q⟩ := t P hP; ⟨ps, s _ _ h, q⟩⟩
theorem FrS.same {Ps : List Addr} {H H1 H2 : Hp} (a : FrS Ps H H1) (s : Same H1 H2) : FrS Ps H H2 := a.trans (FrS.of a.2 s)
theorem FrS.one {Ps : List Addr} {P : Addr} {H H' : Hp} (t : Tabs Ps H) (hP : P ∈ Ps) (f : GxR.Tabbed P H H') : FrS Ps H H' := by
  refine ⟨fun b o n e => ?_, fun Q hQ => ?_⟩
  · rw [f.2 b (fun z => n (by rw [z]; exact hP))]
    exact e
  · by_cases z : Q = P
    · rw [z]; exact f.1
    · obtain ⟨ps, h, q⟩ := t Q hQ
      exact ⟨ps, by rw [f.2 Q z]; exact h, q⟩
theorem Tabs.tup {Ps : List Addr} {H : Hp} (t : Tabs Ps H) {b : Addr} {xs : List V} (e : H b = some (.tup xs)) : b ∉ Ps := fun z => by
  obtain ⟨ps, h, _⟩ := t b z
  rw [e] at h
  cases h
theorem Tabs.lst {Ps : List Addr} {H : Hp} (t : Tabs Ps H) {b : Addr} {xs : List V} (e : H b = some (.lst xs)) : b ∉ Ps := fun z => by
  obtain ⟨ps, h, _⟩ := t b z
  rw [e] at h
  cases h
theorem FrS.seqs {Ps : List Addr} {H H' : Hp} (t : Tabs Ps H) (f : FrS Ps H H') : Seqs H H' := ⟨fun b xs e => f.1 b _ (t.tup e) e, fun b xs e => f.1 b _ (t.lst e) e⟩
theorem FrS.tups {Ps : List Addr} {H H' : Hp} (t : Tabs Ps H) (f : FrS Ps H H') : Tups H H' := (f.seqs t).1
theorem FrS.free {Ps : List Addr} {H H' : Hp} {b : Addr} (f : FrS Ps H H') (h : H' b = none) : H b = none := by
  cases e : H b with
  | none => rfl
  | some o =>
    by_cases z : b ∈ Ps
    · obtain ⟨ps, q, _⟩ := f.2 b z
      rw [q] at h
      cases h
    · rw [f.1 b o z e] at h
      cases h
/-- a store at a place that wasn't there at first -/
theorem FrS.put {Ps : List Addr} {H H1 : Hp} {b : Addr} {o : HO} (a : FrS Ps H H1) (n : H b = none) (nb : b ∉ Ps) : FrS Ps H (upd H1 b o) :=
  ⟨fun x u nx e => by rw [upd_ne (ne_of_none e n)]; exact a.1 x u nx e, fun P hP => by
    obtain ⟨ps, h, q⟩ := a.2 P hP
    exact ⟨ps, by rw [upd_ne (fun z : P = b => nb (by rw [← z]; exact hP))]; exact h, q⟩⟩
theorem Tabs.new {Ps : List Addr} {H : Hp} (t : Tabs Ps H) {b : Addr} (n : H b = none) : b ∉ Ps := fun z => by
  obtain ⟨ps, h, _⟩ := t b z
  rw [n] at h
  cases h
theorem Tabs.same {Ps : List Addr} {H H' : Hp} (t : Tabs Ps H) (s : Same H H') : Tabs Ps H' := (FrS.of t s).2
theorem Tabs.put {Ps : List Addr} {H : Hp} (t : Tabs Ps H) {b : Addr} {o : HO} (nb : b ∉ Ps) : Tabs Ps (upd H b o) := fun P hP => by
  obtain ⟨ps, h, q⟩ := t P hP
  exact ⟨ps, by rw [upd_ne (fun z : P = b => nb (by rw [← z]; exact hP))]; exact h, q⟩
theorem free_same {H H' : Hp} {b : Addr} (s : Same H H') (h : H' b = none) : H b = none := s.free h
theorem same_put {H H1 : Hp} {b : Addr} {o : HO} (s : Same H H1) (n : H b = none) : Same H (upd H1 b o) := fun x u e => by
  rw [upd_ne (ne_of_none e n)]
  exact s x u e
/-! ### numbers, lists -/
theorem cut_from {α : Type} (f : α → V) (l : List α) (k : Nat) : cutV (l.map f) (some (k : Int)) none = (l.drop k).map f := by
  unfold cutV
  rw [HT.sIx_nat, HT.sIx_none, List.length_map, ← List.map_drop]
  by_cases h : k ≤ l.length
  · rw [Nat.min_eq_left h, List.take_of_length_le (by rw [List.length_map, List.length_drop]; exact Nat.le_refl _)]
  · have h2 : l.drop k = [] := List.drop_eq_nil_of_le (by omega)
    rw [Nat.min_eq_right (by omega), Nat.sub_self, List.take_zero, h2]
    rfl
theorem cut_to {α : Type} (f : α → V) (l : List α) (k : Nat) : cutV (l.map f) none (some (k : Int)) = (l.take k).map f := by
  unfold cutV
  rw [HT.sIx_nat, HT.sIx_none, List.length_map, List.drop_zero, Nat.sub_zero, ← List.map_take]
  by_cases h : k ≤ l.length
  · rw [Nat.min_eq_left h]
  · rw [Nat.min_eq_right (by omega), List.take_of_length_le (Nat.le_refl _), List.take_of_length_le (by omega)]
theorem log_small {m : Int} (h0 : 0 ≤ m) (h : m < 4294967296) : m.natAbs.log2 < 9000 := by
  have e : m.natAbs < 2 ^ 32 := by omega
  by_cases z : m.natAbs = 0
  · rw [z]; decide
  · have := (Nat.log2_lt z).mpr e
    omega
def toI : V → Int
  | .int i => i
  | _ => 0
def rowAt (H : Hp) (t : Addr) : List Int := match H t with
  | some (.tup xs) => xs.map toI
  | _ => []
theorem rowAt_of {H : Hp} {t : Addr} {row : Dt.Row} (h : IsRow H t row) : rowAt H t = row := by
  unfold rowAt
  rw [show H t = some (.tup (row.map V.int)) from h]
  show (row.map V.int).map toI = row
  rw [List.map_map]
  have e : (toI ∘ V.int) = id := by funext z; rfl
  rw [e, List.map_id]
def rngI (m : Int) : List Int := (List.range m.toNat).map fun (i : Nat) => (i : Int)
theorem rngI_len (m : Int) : (rngI m).length = m.toNat := by
  unfold rngI
  rw [List.length_map, List.length_range]
theorem rngI_mem {m z : Int} (h : z ∈ rngI m) : 0 ≤ z ∧ z < m := by
  obtain ⟨i, hi, rfl⟩ := List.mem_map.mp h
  have := List.mem_range.mp hi
  omega
theorem rngI_all {m : Int} {k : Nat} (h : (k : Int) < m) : (k : Int) ∈ rngI m := List.mem_map.mpr ⟨k, List.mem_range.mpr (by omega), rfl⟩
theorem rngI_nodup (m : Int) : (rngI m).Nodup := by
  unfold rngI
  refine List.Pairwise.map _ (fun a b h z => h ?_) (List.nodup_range (n := m.toNat))
  omega
theorem rgV_eq (m : Int) : rgV 0 m = (rngI m).map V.int := by
  unfold rgV rngI
  rw [List.map_map]
  have e : (m - 0).toNat = m.toNat := by rw [Int.sub_zero]
  rw [e]
  refine List.map_congr_left fun i _ => ?_
  show V.int (0 + (i : Int)) = V.int (i : Int)
  rw [Int.zero_add]
theorem map_erase {α : Type} (f : α → V) (ls : List α) (k : Nat) : (ls.map f).eraseIdx k = (ls.eraseIdx k).map f := by
  induction ls generalizing k with
  | nil => rfl
  | cons a r ih => cases k with
    | zero => rfl
    | succ k => simp [ih]
theorem erase_perm {α : Type} : ∀ (l : List α) (k : Nat) (h : k < l.length), (l[k] :: l.eraseIdx k).Perm l
  | [], k, h => absurd h (Nat.not_lt_zero _)
  | a :: r, 0, _ => List.Perm.refl _
  | a :: r, k + 1, h => by
    have ih := erase_perm r k (Nat.lt_of_succ_lt_succ h)
    show ((r[k]'(Nat.lt_of_succ_lt_succ h)) :: a :: r.eraseIdx k).Perm (a :: r)
    exact (List.Perm.swap a _ _).trans (List.Perm.cons a ih)
theorem map_get {α : Type} {f : α → V} {l : List α} {i : Nat} {x : V} (h : (l.map f)[i]? = some x) : ∃ a, l[i]? = some a ∧ x = f a := by
  rw [List.getElem?_map] at h
  cases e : l[i]? with
  | none => rw [e] at h; cases h
  | some a => rw [e] at h; cases h; exact ⟨a, rfl, rfl⟩
theorem map_at {α : Type} {f : α → V} {l : List α} {i : Nat} {a : α} (h : l[i]? = some a) : (l.map f)[i]? = some (f a) := by
  rw [List.getElem?_map, h]
  rfl
theorem atI_of {α : Type} {f : α → V} {l : List α} {p : Int} {a : α} (h0 : 0 ≤ p) (h : l[p.toNat]? = some a) : atI (l.map f) p = some (f a) := by
  have e : p = ((p.toNat : Nat) : Int) := by omega
  have q := atI_nat (xs := l.map f) (j := p.toNat) (v := f a) (map_at h)
  rw [← e] at q
  exact q
theorem ixN_of {n : Nat} {p : Int} (h0 : 0 ≤ p) (h1 : p < n) : ixN n p = some p.toNat := by
  unfold ixN
  rw [if_pos h0, if_pos h1]
theorem take_snoc {α : Type} {l : List α} {i : Nat} {a : α} (h : l[i]? = some a) : l.take (i + 1) = l.take i ++ [a] := by
  rw [List.take_add_one, h]
  rfl
/-! ### the tape -/
def Tape (H : Hp) (tp : Addr) : Prop := ∃ b c : Int, H tp = some (.lst [.int b, .int c]) ∧ 0 ≤ b ∧ 0 ≤ c ∧ c ≤ 2147483647
def Taped (tp : Addr) (H H' : Hp) : Prop := (∀ b o, b ≠ tp → H b = some o → H' b = some o) ∧ Tape H' tp
theorem Tape.same {H H' : Hp} {tp : Addr} (h : Tape H tp) (s : Same H H') : Tape H' tp := let ⟨b, c, h1, r⟩ := h; ⟨b, c, s _ _ h1, r⟩
theorem Tape.seqs {H H' : Hp} {tp : Addr} (h : Tape H tp) (s : Seqs H H') : Tape H' tp := let ⟨b, c, h1, r⟩ := h; ⟨b, c, s.2 _ _ h1, r⟩
theorem Tape.new {H : Hp} {tp b : Addr} (h : Tape H tp) (n : H b = none) : b ≠ tp := fun z => by
  obtain ⟨_, _, h1, _⟩ := h
  rw [z, h1] at n
  cases n
theorem Tape.put {H : Hp} {tp b : Addr} {o : HO} (h : Tape H tp) (n : b ≠ tp) : Tape (upd H b o) tp := let ⟨x, c, h1, r⟩ := h; ⟨x, c, by rw [upd_ne n.symm]; exact h1, r⟩
theorem Taped.refl {H : Hp} {tp : Addr} (h : Tape H tp) : Taped tp H H := ⟨fun _ _ _ e => e, h⟩
theorem Taped.trans {H H1 H2 : Hp} {tp : Addr} (a : Taped tp H H1) (b : Taped tp H1 H2) : Taped tp H H2 := ⟨fun x o n e => b.1 x o n (a.1 x o n e), b.2⟩
theorem Taped.same {H H1 H2 : Hp} {tp : Addr} (a : Taped tp H H1) (s : Same H1 H2) : Taped tp H H2 := ⟨fun x o n e => s _ _ (a.1 x o n e), a.2.same s⟩
theorem Taped.put {H H1 : Hp} {tp b : Addr} {o : HO} (a : Taped tp H H1) (n : H b = none) (nb : b ≠ tp) : Taped tp H (upd H1 b o) :=
  ⟨fun x u nx e => by rw [upd_ne (ne_of_none e n)]; exact a.1 x u nx e, a.2.put nb⟩
theorem Taped.tups {H H' : Hp} {tp : Addr} (t : Tape H tp) (a : Taped tp H H') : Tups H H' := fun b xs e => by
  obtain ⟨_, _, h1, _⟩ := t
  exact a.1 b _ (fun z => by rw [z, h1] at e; cases e) e
theorem Taped.free {H H' : Hp} {tp b : Addr} (a : Taped tp H H') (n : H' b = none) : H b = none := by
  cases e : H b with
  | none => rfl
  | some o =>
    have m := a.2.new n
    rw [a.1 b o m e] at n
    cases n
theorem Taped.tabs {Ps : List Addr} {H H' : Hp} {tp : Addr} (t : Tape H tp) (a : Taped tp H H') (tt : Tabs Ps H) : Tabs Ps H' := fun P hP => by
  obtain ⟨ps, h, q⟩ := tt P hP
  obtain ⟨_, _, h1, _⟩ := t
  exact ⟨ps, a.1 P _ (fun z => by rw [z, h1] at h; cases h) h, q⟩
/-- len of a list or a tuple -/
def rLen (K : PySem.W.Frag) : List V → Hp → VK → Prop := fun xs H Q => ∃ p ys, xs = [.ref p] ∧ (SqL K H p ys ∨ SqT K H p ys) ∧ Q (.int (ys.length : Nat)) H
/-! ### pairs of ints, written -/
def pairsT : List (Int × Int) → TA
  | [] => tNil
  | p :: r => tCons (tTup (tCons (tC (.int p.1)) (tCons (tC (.int p.2)) tNil))) (pairsT r)
def IsPr (H : Hp) (t : Addr) (p : Int × Int) : Prop := H t = some (.tup [.int p.1, .int p.2])
theorem pairs_read {σ : L2.St} : ∀ (prs : List (Int × Int)) (H : Hp) (k : List V → Hp → Prop), (∀ ts H', Same H H' → Paired (IsPr H') ts prs → k (ts.map V.ref) H') → pairsT prs σ H k
  | [], H, k, h => h [] H (fun _ _ e => e) .nil
  | p :: r, H, k, h => by
    refine ⟨(by show 2 ≤ sizeLine; decide), fun t nt => ?_⟩
    refine pairs_read r _ _ fun ts H' sm pr => ?_
    exact h (t :: ts) H' ((same_upd nt).trans sm) (.cons (sm _ _ upd_same) pr)
theorem pairs_list {σ : L2.St} {prs : List (Int × Int)} {H : Hp} {Q : VK} (hl : prs.length ≤ 1000) (h : ∀ l ts H', Same H H' → H l = none → H' l = some (.lst (ts.map V.ref)) → Paired (IsPr H') ts prs → Q (.ref l) H') : tLst (pairsT prs) σ H Q := by
  refine pairs_read prs H _ fun ts H' sm pr => ?_
  refine ⟨by rw [List.length_map, pairedLen pr]; exact Nat.le_of_lt (small1000 hl), fun l nl => ?_⟩
  have sl := same_upd (o := .lst (ts.map V.ref)) nl
  exact h l ts _ (sm.trans sl) (sm.free nl) upd_same (pairedMap (fun _ _ e => sl _ _ e) pr)
theorem pairs_asg {i : Nat} {prs : List (Int × Int)} {D : Ends} {σ : L2.St} {H : Hp} (hl : prs.length ≤ 1000) (h : ∀ l ts H', Same H H' → H l = none → H' l = some (.lst (ts.map V.ref)) → Paired (IsPr H') ts prs → D.nx (σ.set i (some (.ref l))) H') : tAsg (tLst (pairsT prs)) (gName i) D σ H := by
  unfold tAsg
  exact pairs_list hl fun l ts H' a b c d => h l ts H' a b c d
theorem pairs_set {i : Nat} {prs : List (Int × Int)} {u : TS} {D : Ends} {σ : L2.St} {H : Hp} (hl : prs.length ≤ 1000) (h : ∀ l ts H', Same H H' → H l = none → H' l = some (.lst (ts.map V.ref)) → Paired (IsPr H') ts prs → u D (σ.set i (some (.ref l))) H') : tSeq (tAsg (tLst (pairsT prs)) (gName i)) u D σ H := pairs_asg hl h
/-! ### things popped at drawn places -/
structure Pops {α : Type} (f : α → V) (tp : Addr) (H : Hp) (l D : Addr) (zs0 : List α) (i : Nat) (H5 : Hp) (acc ls : List α) : Prop where
  fr : Taped tp H H5
  hL : H5 l = some (.lst (ls.map f))
  hD : H5 D = some (.lst (acc.map f))
  la : acc.length = i
  ll : ls.length + i = zs0.length
  pm : (acc ++ ls).Perm zs0
theorem pop_step {α : Type} {f : α → V} {tp : Addr} {H : Hp} {l D : Addr} {zs0 : List α} {i : Nat} {H5 H6 : Hp} {acc ls : List α} {d : Int} (nl : H l = none) (nlt : l ≠ tp) (nD : H D = none) (nDt : D ≠ tp) (nlD : l ≠ D) (hz : zs0.length ≤ 999) (p : Pops f tp H l D zs0 i H5 acc ls) (D6 : Taped tp H5 H6) (d0 : 0 ≤ d) (d1 : d < (ls.length : Int)) :
    ∃ y, (ls.map f)[d.toNat]? = some y ∧ H6 l = some (.lst (ls.map f)) ∧ seqIndex? d (ls.map f).length = some d.toNat ∧ ∃ acc', upd H6 l (.lst ((ls.map f).eraseIdx d.toNat)) D = some (.lst acc') ∧ acc'.length < sizeLine ∧ ∃ acc2 ls2, Pops f tp H l D zs0 (i + 1) (upd (upd H6 l (.lst ((ls.map f).eraseIdx d.toNat))) D (.lst (acc' ++ [y]))) acc2 ls2 := by
  have hd : d.toNat < ls.length := by omega
  have hL6 := D6.1 l _ nlt p.hL
  have hD6 := D6.1 D _ nDt p.hD
  have la := p.la
  have ll := p.ll
  refine ⟨f ls[d.toNat], map_at (List.getElem?_eq_getElem hd), hL6, seqIndex_of d0 (by rw [List.length_map]; exact d1), acc.map f, ?_, ?_, acc ++ [ls[d.toNat]], ls.eraseIdx d.toNat, ?_, ?_, ?_, ?_, ?_, ?_⟩
  · rw [upd_ne (Ne.symm nlD)]
    exact hD6
  · rw [List.length_map]
    exact small1000 (by omega)
  · exact ((p.fr.trans D6).put nl nlt).put nD nDt
  · rw [upd_ne nlD, upd_same, map_erase]
  · rw [upd_same, List.map_append]
    rfl
  · rw [List.length_append, la]
    rfl
  · rw [List.length_eraseIdx_of_lt hd]
    omega
  · refine List.Perm.trans ?_ p.pm
    rw [List.append_assoc]
    exact List.Perm.append_left acc (erase_perm ls _ hd)
/-! ### lists of rows -/
def IsFills (H : Hp) (l : Addr) (fss : List (List Int)) : Prop := ∃ as : List Addr, H l = some (.lst (as.map V.ref)) ∧ Paired (IsRow H) as fss
theorem pairedSnoc {α β : Type} {F : α → β → Prop} {a : α} {b : β} : ∀ {l : List α} {m : List β}, Paired F l m → F a b → Paired F (l ++ [a]) (m ++ [b])
  | _, _, .nil, h => .cons h .nil
  | _, _, .cons h t, k => .cons h (pairedSnoc t k)
theorem pairedApp {α β : Type} {F : α → β → Prop} {l2 : List α} {m2 : List β} : ∀ {l : List α} {m : List β}, Paired F l m → Paired F l2 m2 → Paired F (l ++ l2) (m ++ m2)
  | _, _, .nil, h => h
  | _, _, .cons h t, k => .cons h (pairedApp t k)
theorem yes_if {σ : L2.St} {H : Hp} {A B : Hp → Prop} (h : A H) : tYes σ H (fun b H3 => if b = true then A H3 else B H3) := by
  dsimp only [tYes]
  rw [if_pos rfl]
  exact h
theorem longer_at {hues j : Nat} (f : List Int) (h : j < hues) : (longer hues f)[j]? = some (f ++ [(j : Int)]) := by
  unfold longer
  rw [List.getElem?_map, List.getElem?_range h]
  rfl
theorem pairedZip {α β : Type} {F : α → β → Prop} : ∀ {l : List α} {m : List β}, Paired F l m → ∃ zs : List (α × β), zs.map (·.1) = l ∧ zs.map (·.2) = m ∧ ∀ z ∈ zs, F z.1 z.2
  | _, _, .nil => ⟨[], rfl, rfl, fun _ h => nomatch h⟩
  | a :: _, b :: _, .cons h t => by
    obtain ⟨zs, h1, h2, h3⟩ := pairedZip t
    refine ⟨(a, b) :: zs, by rw [List.map_cons, h1], by rw [List.map_cons, h2], fun z hz => ?_⟩
    rcases List.mem_cons.mp hz with e | e
    · rw [e]; exact h
    · exact h3 z e
theorem pairedOf {α β : Type} {F : α → β → Prop} {g : α → β} : ∀ {l : List α}, (∀ a ∈ l, F a (g a)) → Paired F l (l.map g)
  | [], _ => .nil
  | a :: r, h => .cons (h a List.mem_cons_self) (pairedOf fun b hb => h b (List.mem_cons_of_mem _ hb))
theorem longer_nodup (hues : Nat) (f : List Int) : (longer hues f).Nodup := by
  unfold longer
  refine List.Pairwise.map _ (fun a b h z => h ?_) (List.nodup_range (n := hues))
  have := List.append_cancel_left z
  simp only [List.cons.injEq, and_true] at this
  omega
theorem flat_nodup {hues : Nat} : ∀ {l : List (List Int)}, l.Nodup → (l.flatMap (longer hues)).Nodup
  | [], _ => by simp
  | f :: r, h => by
    rw [List.flatMap_cons]
    have hh := List.nodup_cons.mp h
    refine List.nodup_append.mpr ⟨longer_nodup hues f, flat_nodup hh.2, fun a ha b hb e => ?_⟩
    obtain ⟨i, _, rfl⟩ := List.mem_map.mp ha
    obtain ⟨g, hg, hb2⟩ := List.mem_flatMap.mp hb
    obtain ⟨j, _, rfl⟩ := List.mem_map.mp hb2
    have e2 : f = g := by
      have := congrArg List.dropLast e
      simpa using this
    exact hh.1 (e2 ▸ hg)
theorem fill_nodup (hues : Nat) : ∀ n : Nat, (fillL hues n).Nodup
  | 0 => by simp [fillL]
  | n + 1 => flat_nodup (fill_nodup hues n)
/-- places rising, no row twice -/
structure Neat (wd : WD) : Prop where
  pl : wd.1.Pairwise (· < ·)
  rows : wd.2.Nodup
theorem Neat.nd {wd : WD} (h : Neat wd) : wd.1.Nodup := h.pl.imp fun z e => by omega
theorem rise_of {ps : List Int} (h : ps.Pairwise (· ≤ ·)) (n : ps.Nodup) : ps.Pairwise (· < ·) := by
  have z := List.Pairwise.and h n
  exact z.imp fun ⟨a, b⟩ => by omega
/-! ### tables of draws -/
abbrev IsInts (H : Hp) (a : Addr) (ns : List Int) : Prop := H a = some (.lst (ns.map V.int))
/-- a list of lists of ints, none of them in Av -/
def IsTab (Av : Addr → Prop) (H : Hp) (ta : Addr) (tb : List (List Int)) : Prop := ∃ das : List Addr, H ta = some (.lst (das.map V.ref)) ∧ ¬ Av ta ∧ (∀ d ∈ das, ¬ Av d) ∧ Paired (IsInts H) das tb
theorem IsTab.mono {Av : Addr → Prop} {H H' : Hp} {ta : Addr} {tb : List (List Int)} (h : IsTab Av H ta tb) (k : ∀ b xs, ¬ Av b → H b = some (.lst xs) → H' b = some (.lst xs)) : IsTab Av H' ta tb := by
  obtain ⟨das, h1, h2, h3, h4⟩ := h
  refine ⟨das, k _ _ h2 h1, h2, h3, ?_⟩
  clear h1
  induction h4 with
  | nil => exact .nil
  | @cons a b l m e t ih => exact .cons (k _ _ (h3 a List.mem_cons_self) e) (ih fun d hd => h3 d (List.mem_cons_of_mem _ hd))
theorem IsTab.seqs {Av : Addr → Prop} {H H' : Hp} {ta : Addr} {tb : List (List Int)} (h : IsTab Av H ta tb) (s : Seqs H H') : IsTab Av H' ta tb := h.mono fun b xs _ e => s.2 b xs e
theorem IsTab.weak {Av Bv : Addr → Prop} {H : Hp} {ta : Addr} {tb : List (List Int)} (h : IsTab Av H ta tb) (k : ∀ b, Bv b → Av b) : IsTab Bv H ta tb := let ⟨das, h1, h2, h3, h4⟩ := h; ⟨das, h1, fun z => h2 (k _ z), fun d hd z => h3 d hd (k _ z), h4⟩
theorem IsTab.none {Av : Addr → Prop} {H : Hp} {ta : Addr} {tb : List (List Int)} (h : IsTab Av H ta tb) : IsTab (fun _ => False) H ta tb := h.weak fun _ z => z.elim
abbrev Old (H : Hp) : Addr → Prop := fun b => H b ≠ none
theorem IsTab.taped {tp : Addr} {H H' : Hp} {ta : Addr} {tb : List (List Int)} (h : IsTab (· = tp) H ta tb) (f : Taped tp H H') : IsTab (· = tp) H' ta tb := h.mono fun b xs n e => f.1 b _ n e
theorem Tape.old {H : Hp} {tp : Addr} (h : Tape H tp) : ∀ b, b = tp → Old H b := fun b e z => by
  obtain ⟨_, _, h1, _⟩ := h
  rw [e, h1] at z
  cases z
theorem dpTabs {K : PySem.W.Frag} {H : Hp} : ∀ {das : List Addr} {tb : List (List Int)}, Paired (IsInts H) das tb → DpAll K H (das.map V.ref) (tb.map fun l => .list (l.map .int))
  | _, _, .nil => .nil
  | _, _, .cons h t => .cons (.lst (.inl (.inl h)) (dpInts _)) (dpTabs t)
theorem dpTab {K : PySem.W.Frag} {Av : Addr → Prop} {H : Hp} {ta : Addr} {tb : List (List Int)} (h : IsTab Av H ta tb) : Dp K H (.ref ta) (listsD tb) := by
  obtain ⟨das, h1, _, _, h4⟩ := h
  exact .lst (.inl (.inl h1)) (dpTabs h4)
/-! ### logs and what a run tells -/
def IsEnt (H : Hp) (e : Addr) (x : Int × List Int) : Prop := ∃ r, H e = some (.tup [.int x.1, .ref r]) ∧ IsRow H r x.2
def IsLog (H : Hp) (la : Addr) (log : Log) : Prop := ∃ es : List Addr, H la = some (.lst (es.map V.ref)) ∧ Paired (IsEnt H) es log
theorem IsEnt.mono {H H' : Hp} {e : Addr} {x : Int × List Int} (h : IsEnt H e x) (t : Tups H H') : IsEnt H' e x := let ⟨r, h1, h2⟩ := h; ⟨r, t _ _ h1, t _ _ h2⟩
theorem IsLog.seqs {H H' : Hp} {la : Addr} {log : Log} (h : IsLog H la log) (s : Seqs H H') : IsLog H' la log := let ⟨es, h1, h2⟩ := h; ⟨es, s.2 _ _ h1, pairedMap (fun _ _ e => e.mono s.1) h2⟩
theorem IsLog.keep {H H' : Hp} {la : Addr} {log : Log} (h : IsLog H la log) (t : Tups H H') (k : ∀ xs, H la = some (.lst xs) → H' la = some (.lst xs)) : IsLog H' la log := let ⟨es, h1, h2⟩ := h; ⟨es, k _ h1, pairedMap (fun _ _ e => e.mono t) h2⟩
def entD (x : Int × List Int) : PyData := .tuple [.int x.1, rowD x.2]
def logD (log : Log) : PyData := .list (log.map entD)
def endS (b : Bool) : Str := if b = true then "kept" else "spent"
def resD (R : Res) : PyData := .tuple [.str (endS R.1), rowD R.2.1, logD R.2.2]
theorem dpEnts {K : PySem.W.Frag} {H : Hp} : ∀ {es : List Addr} {log : Log}, Paired (IsEnt H) es log → DpAll K H (es.map V.ref) (log.map entD)
  | _, _, .nil => .nil
  | _, _, .cons ⟨r, h1, h2⟩ t => .cons (.tup (.inl (.inl h1)) (.cons (.int _) (.cons (dpRow h2) .nil))) (dpEnts t)
theorem dpLog {K : PySem.W.Frag} {H : Hp} {la : Addr} {log : Log} (h : IsLog H la log) : Dp K H (.ref la) (logD log) := let ⟨es, h1, h2⟩ := h; .lst (.inl (.inl h1)) (dpEnts h2)
/-- what a run tells: the tuple, the filling and the log's list, which is new -/
def IsRes (H0 H : Hp) (t : Addr) (R : Res) : Prop := ∃ fa la, H t = some (.tup [.str (endS R.1), .ref fa, .ref la]) ∧ IsRow H fa R.2.1 ∧ IsLog H la R.2.2 ∧ H0 la = none
theorem dpRes {K : PySem.W.Frag} {H0 H : Hp} {t : Addr} {R : Res} (h : IsRes H0 H t R) : Dp K H (.ref t) (resD R) := let ⟨fa, la, h1, h2, h3, _⟩ := h; .tup (.inl (.inl h1)) (.cons (.str _) (.cons (dpRow h2) (.cons (dpLog h3) .nil)))
theorem IsRes.seqs {H0 H H' : Hp} {t : Addr} {R : Res} (h : IsRes H0 H t R) (s : Seqs H H') : IsRes H0 H' t R := let ⟨fa, la, h1, h2, h3, h4⟩ := h; ⟨fa, la, s.1 _ _ h1, s.1 _ _ h2, h3.seqs s, h4⟩
theorem IsRes.old {H0 H1 H : Hp} {t : Addr} {R : Res} (h : IsRes H1 H t R) (k : ∀ b, H1 b = none → H0 b = none) : IsRes H0 H t R := let ⟨fa, la, h1, h2, h3, h4⟩ := h; ⟨fa, la, h1, h2, h3, k _ h4⟩
/-- each log's pair is fine -/
theorem fine_ent {many hues : Int} {wds : List WD} (gr : GoodR many hues wds) {x : Int × List Int} (h : 0 ≤ x.1 ∧ x.1 < (wds.length : Int) ∧ ∃ wd, wds[x.1.toNat]? = some wd ∧ x.2 ∈ wd.2) : Fine (entD x) 3 80 := by
  obtain ⟨h0, h1, wd, hw, hr⟩ := h
  have e8 := gr.eight
  have g := gr.each wd (List.mem_of_getElem? hw)
  have a := fine_int (i := x.1) h0 (by omega)
  have b : Fine (rowD x.2) 2 64 := fine_row (fun z hz => ⟨((g.row _ hr).2 z hz).1, by have := ((g.row _ hr).2 z hz).2; have := gr.h4; omega⟩) (by have := (g.row _ hr).1; have := g.three; omega)
  exact (Fine.tuple (FineAll.cons (a.mono (by omega) (Nat.le_refl _)) (FineAll.cons b (FineAll.nil _)))).mono (Nat.le_refl _) (by omega)
theorem fine_log {many hues : Int} {wds : List WD} (gr : GoodR many hues wds) {log : Log} (h : LogOk wds log) (hl : log.length ≤ 6000) : Fine (logD log) 4 600000 :=
  (Fine.list (fineAll_map log fun x hx => fine_ent gr (h x hx))).mono (Nat.le_refl _) (by omega)
theorem fine_end (b : Bool) : Fine (.str (endS b)) 1 64 := by
  cases b <;> exact ⟨by decide +kernel, by decide +kernel, by decide +kernel, by decide +kernel, by decide +kernel, by decide +kernel⟩
theorem fine_res {many hues : Int} {wds : List WD} (gr : GoodR many hues wds) {R : Res} (gf : GoodF many hues R.2.1) (h : LogOk wds R.2.2) (hl : R.2.2.length ≤ 6000) : Fine (resD R) 5 700000 :=
  (Fine.tuple (FineAll.cons ((fine_end R.1).mono (by omega) (Nat.le_refl _)) (FineAll.cons ((fine_fill gf gr.m6 gr.h4).mono (by omega) (Nat.le_refl _)) (FineAll.cons (fine_log gr h hl) (FineAll.nil _))))).mono (Nat.le_refl _) (by omega)
theorem fine_tabT {many hues : Int} {tb : List (List Int)} (m6 : many ≤ 6) (h4 : hues ≤ 4) (g : GoodT many hues tb) : Fine (listsD tb) 3 100000 := by
  have hl := g.len
  refine (Fine.list (fineAll_map tb (n := 2) (w := 15000) fun l hm => (fine_ints fun z hz => ⟨(g.hue l hm z hz).1, by have := (g.hue l hm z hz).2; omega⟩).mono (Nat.le_refl _) (by have := g.few l hm; omega))).mono (Nat.le_refl _) ?_
  have : tb.length ≤ 6 := by omega
  omega
/-! ### equality of data -/
theorem eqv_str (a b : Str) : PyData.eqv (.str a) (.str b) = (a == b) := by simp [PyData.eqv]
end Rd
namespace Gx
open PySem PySem.Spec PyProof.Rows L2 GenW
theorem tup_zipL {K : PySem.W.Frag} {a b : Addr} {xs ys : List V} {g : TG} {tt : TT} {te : TE} {vs : List Nat} {σ : L2.St} {Q : List V → Hp → Prop} {H2 : Hp} (hl : xs.length = ys.length) (hz : xs.length ≤ sizeLine) (Pv : Nat → List V → Hp → Prop) (h0 : Pv 0 [] H2) (hq : ∀ i zs H, Pv i zs H → SqL K H a xs ∧ SqL K H b ys) (hy : ∀ i zs H, Pv i zs H → zs.length ≤ i)
    (hs : ∀ i x y T zs H, xs[i]? = some x → ys[i]? = some y → Pv i zs H → H T = none → g (.ref T) (wipe σ vs) (upd H T (.tup [x, y])) fun σ2 H2 => wipe σ2 vs = wipe σ vs ∧ tt σ2 H2 fun b H3 => if b = true then te σ2 H3 fun y H4 => Pv (i + 1) (zs ++ [y]) H4 else Pv (i + 1) zs H3) (hd : ∀ zs H, Pv xs.length zs H → Q zs H) :
    ∃ W : Nat → Nat → List V → Hp → Prop, (∃ m, W 0 m [] H2) ∧ TurnsC (Itz K a b) g tt te vs σ Q W := by
  refine ⟨fun i m zs H => m = xs.length - i ∧ i ≤ xs.length ∧ Pv i zs H, ⟨xs.length, by simp, Nat.zero_le _, h0⟩, ?_⟩
  rintro i m zs H ⟨rfl, hi, p⟩
  obtain ⟨qx, qy⟩ := hq i zs H p
  by_cases hlt : i < xs.length
  · have hx : xs[i]? = some xs[i] := List.getElem?_eq_getElem hlt
    have hlt2 : i < ys.length := by omega
    have hy2 : ys[i]? = some ys[i] := List.getElem?_eq_getElem hlt2
    refine .inr ⟨⟨xs, ys, _, _, qx, qy, hx, hy2⟩, Nat.lt_of_le_of_lt (hy i zs H p) (Nat.lt_of_lt_of_le hlt hz), Pv (i + 1), fun zs' H' p' => ⟨xs.length - (i + 1), by omega, rfl, hlt, p'⟩, fun v H' y => ?_⟩
    obtain ⟨T, x', y', rfl, hT, rfl, f1, f2⟩ := y
    exact hs i x' y' T zs H (f1 xs qx) (f2 ys qy) p hT
  · have e : i = xs.length := by omega
    subst e
    exact .inl ⟨⟨xs, ys, qx, qy, Or.inl (Nat.le_refl _)⟩, hd zs H p⟩
end Gx
namespace Rd
open PySem PySem.Spec PyProof.Rows L2 Dt
def leftAt (tb : List (List Int)) (tk : List Int) (p : Int) : List Int := (leftOf tb tk).getD p.toNat []
theorem leftAt_get {tb : List (List Int)} {tk : List Int} {p : Int} (g : GoodK tb tk) (h0 : 0 ≤ p) (h1 : p < (tb.length : Int)) : (leftOf tb tk)[p.toNat]? = some (leftAt tb tk p) := by
  have h : p.toNat < (leftOf tb tk).length := by rw [left_len g]; omega
  rw [leftAt, getD_get h]
  exact List.getElem?_eq_getElem h
theorem leftAt_nil {tb : List (List Int)} {tk : List Int} {p : Int} (g : GoodK tb tk) (h0 : 0 ≤ p) (h1 : p < (tb.length : Int)) : (leftAt tb tk p = []) ↔ ¬ (atF tk p + 1 < lenAt tb p) := by
  have hp : p.toNat < tb.length := by omega
  have e := left_get g hp
  rw [leftAt_get g h0 h1] at e
  rw [Option.some.inj e, List.drop_eq_nil_iff]
  have a := g.at_ _ hp
  unfold atF lenAt
  omega
theorem eqv_ints_nil (l : List Int) : PyData.eqv (.list (l.map .int)) (.list []) = decide (l = []) := by
  cases l with
  | nil => simp [PyData.eqv, PyData.eqvAll]
  | cons a r => simp [PyData.eqv, PyData.eqvAll]
theorem any_left {tb : List (List Int)} {tk : List Int} (g : GoodK tb tk) : ∀ ps : List Int, (∀ p ∈ ps, 0 ≤ p ∧ p < (tb.length : Int)) → ((ps.map fun p => PyData.list ((leftAt tb tk p).map .int)).any fun z => PyData.eqv z (.list [])) = !canN tb tk ps
  | [], _ => rfl
  | p :: r, h => by
    have hp := h p List.mem_cons_self
    rw [List.map_cons, List.any_cons, any_left g r fun q hq => h q (List.mem_cons_of_mem _ hq), eqv_ints_nil]
    unfold canN
    rw [List.all_cons, Bool.not_and]
    congr 1
    by_cases e : leftAt tb tk p = []
    · rw [decide_eq_true e, decide_eq_false ((leftAt_nil g hp.1 hp.2).mp e)]
      rfl
    · rw [decide_eq_false e, decide_eq_true (Classical.not_not.mp fun z => e ((leftAt_nil g hp.1 hp.2).mpr z))]
      rfl
theorem stand0 {many hues : Int} {tb : List (List Int)} (g : GoodT many hues tb) {i : Nat} {ds : List Int} (h : tb[i]? = some ds) : (stand tb (zerosI tb.length))[i]? = some (atF ds 0) := by
  have hi : i < tb.length := (List.getElem?_eq_some_iff.mp h).1
  rw [stand_get (zeros_good g) hi, zeros_get, List.getD_eq_getElem?_getD, h]
  rfl
theorem left0 {many hues : Int} {tb : List (List Int)} (g : GoodT many hues tb) {i : Nat} {ds : List Int} (h : tb[i]? = some ds) : (leftOf tb (zerosI tb.length))[i]? = some (ds.drop 1) := by
  have hi : i < tb.length := (List.getElem?_eq_some_iff.mp h).1
  rw [left_get (zeros_good g) hi, zeros_get, List.getD_eq_getElem?_getD, h]
  rfl
theorem paired_upd {H : Hp} {D : Addr} {o : HO} : ∀ {l : List Addr} {m : List (List Int)}, Paired (IsInts H) l m → (∀ d ∈ l, d ≠ D) → Paired (IsInts (upd H D o)) l m
  | _, _, .nil, _ => .nil
  | a :: _, _, .cons h t, n => .cons (by show upd H D o a = _; rw [upd_ne (n a List.mem_cons_self)]; exact h) (paired_upd t fun d hd => n d (List.mem_cons_of_mem _ hd))
theorem paired_set {α β : Type} {F : α → β → Prop} : ∀ {l : List α} {m : List β} {i : Nat} {a : α} {b : β}, Paired F l m → F a b → Paired F (l.set i a) (m.set i b)
  | _, _, _, _, _, .nil, _ => .nil
  | _, _, 0, _, _, .cons _ t, h => .cons h t
  | _, _, i + 1, _, _, .cons e t, h => .cons e (paired_set (i := i) t h)
theorem paired_fresh {H : Hp} {D : Addr} {l : List Addr} {m : List (List Int)} (p : Paired (IsInts H) l m) (n : H D = none) : ∀ d ∈ l, d ≠ D := fun d hd z => by
  obtain ⟨j, hj⟩ := List.getElem?_of_mem hd
  obtain ⟨row, _, e⟩ := pairedGetL p hj
  have e2 : H d = some (.lst (row.map V.int)) := e
  rw [z, n] at e2
  cases e2
end Rd
namespace Rd
open PySem PySem.Spec PyProof.Rows L2 Dt
/-! ### the script's list, the tape and the tables, together -/
def rListO (K : PySem.W.Frag) : List V → Hp → VK → Prop := fun xs H Q => ∃ p ys, xs = [.ref p] ∧ (SqL K H p ys ∨ SqT K H p ys) ∧ ∀ l, H l = none → Q (.ref l) (upd H l (.lst ys))
theorem sq_keep {K : PySem.W.Frag} {H H' : Hp} {a : Addr} {xs : List V} (h : SqL K H a xs) (k : ∀ o, H a = some o → H' a = some o) : SqL K H' a xs := by
  rcases h with (h | ⟨o, h⟩) | h
  · exact .inl (.inl (k _ h))
  · exact .inl (.inr ⟨o, k _ h⟩)
  · exact .inr h
theorem sq_new {K : PySem.W.Frag} {H : Hp} {a tp : Addr} {xs : List V} (h : SqL K H a xs) (n : H tp = none) (e : a = tp) (H' : Hp) : SqL K H' a xs := by
  rcases h with (h | ⟨o, h⟩) | h
  · rw [e, n] at h; cases h
  · rw [e, n] at h; cases h
  · exact .inr h
theorem Tabs.sq {K : PySem.W.Frag} {Ps : List Addr} {H H' : Hp} {a : Addr} {xs : List V} (t : Tabs Ps H) (f : FrS Ps H H') (h : SqL K H a xs) : SqL K H' a xs := by
  rcases h with (h | ⟨o, h⟩) | h
  · exact .inl (.inl (f.1 _ _ (t.lst h) h))
  · exact .inl (.inr ⟨o, f.1 _ _ (fun z => by obtain ⟨ps, q, _⟩ := t a z; rw [h] at q; cases q) h⟩)
  · exact .inr h
structure LI (K : PySem.W.Frag) (a : Addr) (xs : List V) (Ps : List Addr) (tp : Addr) (H : Hp) : Prop where
  tape : Tape H tp
  tabs : Tabs Ps H
  scr : SqL K H a xs
  far : a = tp → ∀ H', SqL K H' a xs
theorem LI.frs {K : PySem.W.Frag} {a : Addr} {xs : List V} {Ps : List Addr} {tp : Addr} {H H' : Hp} (h : LI K a xs Ps tp H) (f : FrS Ps H H') : LI K a xs Ps tp H' := ⟨h.tape.seqs (f.seqs h.tabs), f.2, h.tabs.sq f h.scr, h.far⟩
theorem LI.same {K : PySem.W.Frag} {a : Addr} {xs : List V} {Ps : List Addr} {tp : Addr} {H H' : Hp} (h : LI K a xs Ps tp H) (s : Same H H') : LI K a xs Ps tp H' := h.frs (FrS.of h.tabs s)
theorem LI.taped {K : PySem.W.Frag} {a : Addr} {xs : List V} {Ps : List Addr} {tp : Addr} {H H' : Hp} (h : LI K a xs Ps tp H) (f : Taped tp H H') : LI K a xs Ps tp H' := by
  refine ⟨f.2, f.tabs h.tape h.tabs, ?_, h.far⟩
  by_cases e : a = tp
  · exact h.far e H'
  · exact sq_keep h.scr fun o => f.1 a o e
theorem fine_eqv {d : PyData} {n w : Nat} (h : Fine d n w) : PyData.eqv d d = true := PySem.SeqAt.eqv_refl d h.lay
theorem pairedRep {α β : Type} {F : α → β → Prop} {a : α} {b : β} (h : F a b) : ∀ n : Nat, Paired F (List.replicate n a) (List.replicate n b)
  | 0 => .nil
  | n + 1 => .cons h (pairedRep h n)
theorem rep_flat {α : Type} (f : α → V) (a : α) (n : Nat) : (List.replicate n [f a]).flatten = (List.replicate n a).map f := by
  rw [List.map_replicate]
  induction n with
  | zero => rfl
  | succ n ih => rw [List.replicate_succ, List.flatten_cons, ih, List.replicate_succ]; rfl
theorem goodT_rep {many hues : Int} {tb : List (List Int)} {ds : List Int} (g : GoodT many hues tb) (h : ds ∈ tb) (m0 : 0 ≤ many) : GoodT many hues (List.replicate many.toNat ds) := by
  refine ⟨by rw [List.length_replicate]; omega, fun x hx => ?_, fun x hx => ?_, fun x hx => ?_⟩
  · rw [(List.mem_replicate.mp hx).2]; exact g.one ds h
  · rw [(List.mem_replicate.mp hx).2]; exact g.few ds h
  · rw [(List.mem_replicate.mp hx).2]; exact g.hue ds h
end Rd

set_option Elab.async false
set_option linter.all false
set_option maxRecDepth 100000
set_option maxHeartbeats 4000000
/-! tuple.index of whole numbers; sorted of a tuple of tuples -/
namespace Rd
open PySem PySem.Spec PyProof.Rows L2 Dt
def rIdxT (K : PySem.W.Frag) : V → List V → Hp → VK → Prop := fun x xs H Q => ∃ (a : Addr) (ns : List Int) (k : Int), x = .ref a ∧ xs = [.int k] ∧ SqT K H a (ns.map V.int) ∧ k ∈ ns ∧ Q (.int (ns.idxOf k : Nat)) H
theorem mt_indexT {X : Cx} : MtR X "tuple.index" (rIdxT X.K) := by
  intro pins s σ H x xs v us Q I rx rxs h
  obtain ⟨a, ns, k, rfl, rfl, hs, hk, q⟩ := h
  cases rx
  obtain ⟨u, rfl, ru⟩ := rxs.one
  obtain ⟨t, rfl⟩ := ru
  obtain ⟨its, rv, ht, hz⟩ := I.tuple hs
  exact PySem.SeqAt.tuple_index_ints ht rv.ints hk ⟨.int (ns.idxOf k : Nat), H, I.tok _, ⟨_, rfl⟩, q⟩
section
variable {prog : Program} {w : World} {A : Around} {E : Value → Shared → Prop} {s : Shared}
theorem coll_tup {l : Addr} {vs : List Value} {Q : List Value → Shared → Prop} (hz : vs.length ≤ sizeLine) (hl : s.heap.IsTuple l vs.toArray) (h : Q vs { s with heap := (s.heap.push (seqObj "list" #[] 0)).update s.heap.objs.size (Obj.mapSeq (· ++ vs.toArray)) }) : wpAny (model prog w) A (collect (.ref l)) Q E s := by
  obtain ⟨o, he, hc, n, hd⟩ := id hl; unfold collect; refine wpAny_bind (wpAny_runValue (codeAny_builtin entry_proto_collect' ?_)); show wpAny _ _ (do again (.builtin "list.__iadd__" ⟨[← newList [], .ref l], []⟩)) _ _ s; refine wpAny_bind (wpAny_newList (wpAny_pure ⟨Code.quiet_builtin _ (by decide +kernel), codeAny_builtin entry_list_iadd' ?_⟩)); show wpAny _ _ (Builtin.List.listExtendWith (.ref s.heap.objs.size) (.ref l) (.ref s.heap.objs.size)) _ _ { s with heap := s.heap.push (seqObj "list" #[] 0) }; unfold Builtin.List.listExtendWith; have he2 : (s.heap.push (seqObj "list" #[] 0)).get? l = some o := Heap.get?_push_of_some _ he; refine wpAny_bind (wpAny_typeOf (T := "tuple") ⟨o, he2, hc⟩ ?_); have hy : (Value.type "tuple" == Value.type "tuple") = true := (by rfl); rw [if_pos (by rw [hy]; simp)]; refine wpAny_bind (listItems_at he2 hd ?_); refine wpAny_bind (listItems_at (xs := #[]) (n := 0) (Heap.get?_push_size _ rfl) rfl ?_); rw [if_neg (by simp)]; refine wpAny_bind (listUpdate_at (xs := #[]) (n := 0) (Heap.get?_push_size _ rfl) rfl ?_ (Nat.zero_le _) (by show (#[] ++ vs.toArray).size ≤ sizeLine + 1; simp only [Array.size_append, List.size_toArray, List.length_nil]; omega)); refine wpAny_pure ?_; show wpAny (model prog w) A (load s.heap.objs.size >>= fun ob => match ob.data with | .seq ys _ => pure ys.toList | _ => unsupported "internal:collect") Q E { s with heap := (s.heap.push (seqObj "list" #[] 0)).update s.heap.objs.size (Obj.mapSeq (· ++ vs.toArray)) }; refine wpAny_bind (wpAny_load (get?_update_seq (Heap.get?_push_size _ rfl) _) ?_); show wpAny _ _ (pure ((#[] : Array Value) ++ vs.toArray).toList) Q E _; rw [show ((#[] : Array Value) ++ vs.toArray).toList = vs by simp]; exact wpAny_pure h
theorem sorted_tup {l : Addr} {vs : List Value} {ltv : Value → Value → Bool} {Q : Value → Shared → Prop} (O : SrtO.Swo ltv) (hl : s.heap.IsTuple l vs.toArray) (hz : vs.length ≤ sizeLine)
    (hS : 2 ≤ vs.length → ∀ (h₁ : Heap) (a : Addr), h₁.get? a = some (seqObj "list" vs.toArray 0) → (∀ b o, s.heap.get? b = some o → b ≠ a ∧ h₁.get? b = some o) → SrtO.SortableO prog w A.in1.in1 { s with heap := h₁ } a vs ltv)
    (h : ∀ out : List Value, SrtO.Srtd ltv out → SrtO.Stb ltv out vs → Q (.ref (s.heap.objs.size + 1)) { s with heap := sortedAll s.heap vs out.toArray }) : wpAny (model prog w) A (call (.builtin "sorted") [.ref l]) Q E s := by
  refine Calls.call_function_entry kind_sorted plain_sorted entry_sorted (args_sorted1 _) ?_; unfold Builtin.«sorted»; refine wpAny_bind (m := checkCount "sorted" 1 1 _) (wpAny_pure ?_); refine wpAny_bind (coll_tup hz hl (wpAny_bind (wpAny_newList ?_ hz))); have e1 : ((s.heap.push (seqObj "list" #[] 0)).update s.heap.objs.size (Obj.mapSeq (· ++ vs.toArray))).objs.size = s.heap.objs.size + 1 := (by rw [Heap.size_update, size_push']); have e2 : (((s.heap.push (seqObj "list" #[] 0)).update s.heap.objs.size (Obj.mapSeq (· ++ vs.toArray))).push (seqObj "list" vs.toArray 0)).get? (s.heap.objs.size + 1) = some (seqObj "list" vs.toArray 0) := (by rw [← e1]; exact Heap.get?_push_size _ rfl)
  have kp : ∀ b o, s.heap.get? b = some o → b ≠ s.heap.objs.size + 1 ∧ (((s.heap.push (seqObj "list" #[] 0)).update s.heap.objs.size (Obj.mapSeq (· ++ vs.toArray))).push (seqObj "list" vs.toArray 0)).get? b = some o := fun b o q => by
    have lt : b < s.heap.objs.size := Heap.lt_size q
    refine ⟨Nat.ne_of_lt (Nat.lt_succ_of_lt lt), Heap.get?_push_of_some _ ?_⟩
    rw [Heap.get?_update_ne _ _ _ _ (Nat.ne_of_lt lt)]
    exact Heap.get?_push_of_some _ q
  show wpAny _ _ _ _ _ { s with heap := ((s.heap.push (seqObj "list" #[] 0)).update s.heap.objs.size (Obj.mapSeq (· ++ vs.toArray))).push (seqObj "list" vs.toArray 0) }; rw [e1]; refine wpAny_bind (wpAny_holding (wpAny_call_entry slot_list_sort ⟨_, e2, rfl⟩ entry_list_sort (SrtO.list_sort_ord O e2 hz (fun h2 => hS h2 _ _ e2 kp) fun out hs hb => ⟨_, rfl, ?_⟩) (args_list_sort _))); exact wpAny_pure ⟨_, rfl, h out hs hb⟩
end
def rSortedU (K : PySem.W.Frag) : List V → Hp → VK → Prop := fun vs H Q => ∃ (a : Addr) (ts : List Addr) (k : Addr → List Int) (d : Nat) (B : Int), vs = [.ref a] ∧ SqT K H a (ts.map V.ref) ∧ 1 ≤ d ∧ (∀ t ∈ ts, H t = some (.tup ((k t).map V.int)) ∧ (k t).length = d ∧ TS.Bd B (k t)) ∧
  ∀ (ts' : List Addr) (p : Addr), ts'.Perm ts → H p = none → Q (.ref p) (upd H p (.lst (ts'.map V.ref)))
theorem cr_sortedU {X : Cx} : CallR X (.builtin "sorted") (rSortedU X.K) := by
  intro pins s σ H vs us Q I r h
  obtain ⟨a, ts, k, d, B, rfl, hs, hd, ht, q⟩ := h
  obtain ⟨its, rv, hl, hz⟩ := I.tuple hs
  obtain ⟨u, rfl, ru⟩ := vals1 r
  cases (show u = Value.ref a from ru)
  obtain rfl := Tt.vals_refs rv
  have tup : ∀ t ∈ ts, TS.TupInts s.heap (.ref t) (k t) := fun t hm => by
    obtain ⟨_, its, rr, hT⟩ := I.hok t _ (ht t hm).1
    exact ⟨t, its.toArray, rfl, hT, by simpa using rr.ints⟩
  have ok : TS.TupsOk s.heap d B (ts.map Value.ref) := fun v hv => by
    obtain ⟨t, hm, rfl⟩ := List.mem_map.mp hv
    exact ⟨k t, tup t hm, (ht t hm).2.1, (ht t hm).2.2⟩
  have rk_at : ∀ v ∈ ts.map Value.ref, ∀ ns, TS.TupInts s.heap v ns → Tt.rk s.heap B v = TS.code B ns := fun v _ ns t => by
    unfold Tt.rk
    rw [t.ints]
  refine sorted_tup (Tt.swo_rk (Tt.rk s.heap B)) hl (by rw [← rv.length]; exact hz) (fun h2 h₁ a' ha' kk => ?_) fun out so sb => ?_
  · have keep : ∀ b o, s.heap.get? b = some o → o.cls = .type "tuple" → h₁.get? b = some o := fun b o e _ => (kk b o e).2
    refine Tt.sortable (s := { s with heap := h₁ }) hd h2 (ok.keeps keep) (fun o e c => ?_) (Tt.rk s.heap B) fun v hv ns t => ?_
    · have e' := Option.some.inj (e.symm.trans ha')
      rw [e'] at c
      exact absurd (Value.type.inj c) (by decide)
    · obtain ⟨n0, t0, _⟩ := ok v hv
      rw [show ns = n0 from t.ints.symm.trans (t0.keeps keep).ints]
      exact rk_at v hv n0 t0
  · obtain ⟨ep, he⟩ := PyProof.Rows.sortedAll_at s.heap (ts.map Value.ref) out.toArray
    have pm := sb.perm
    obtain ⟨ts', rfl, pt⟩ : ∃ ts' : List Addr, out = ts'.map Value.ref ∧ ts'.Perm ts := by
      have back : ∀ v ∈ out, ∃ t, v = Value.ref t := fun v hv => by
        obtain ⟨t, _, e⟩ := List.mem_map.mp (pm.mem_iff.mp hv)
        exact ⟨t, e.symm⟩
      have g : ∀ l : List Value, (∀ v ∈ l, ∃ t, v = Value.ref t) → ∃ m : List Addr, l = m.map Value.ref := by
        intro l
        induction l with
        | nil => intro _; exact ⟨[], rfl⟩
        | cons v r ih =>
          intro hv
          obtain ⟨t, rfl⟩ := hv v List.mem_cons_self
          obtain ⟨m, rfl⟩ := ih fun z hz => hv z (List.mem_cons_of_mem _ hz)
          exact ⟨t :: m, rfl⟩
      obtain ⟨m, rfl⟩ := g out back
      let f : Value → Addr := fun v => match v with | .ref t => t | _ => 0
      have q2 := pm.map f
      rw [List.map_map, List.map_map] at q2
      have e1 : (f ∘ Value.ref) = id := by funext z; rfl
      rw [e1, List.map_id, List.map_id] at q2
      exact ⟨m, rfl, q2⟩
    refine ⟨.ref (s.heap.objs.size + 1), _, I.laid (t' := s.toks) (o := .lst (ts'.map V.ref)) (fun _ _ => PyProof.Rows.sortedAll_old) (Nat.le_succ _) ⟨?_, ts'.map Value.ref, ep, Tt.refs_vals ts', he⟩, rfl, q ts' _ pt (I.hok.fresh (Nat.le_succ _))⟩
    rw [List.length_map, pt.length_eq]
    rw [List.length_map] at hz
    exact hz
theorem for_enumL {K : PySem.W.Frag} {a : Addr} {xs : List V} {g : TG} {tb : TS} {D : Ends} {σ : L2.St} {H : Hp} (Pv : Nat → L2.St → Hp → Prop) (h0 : Pv 0 σ H) (hl : ∀ i σ H, i ≤ xs.length → Pv i σ H → SqL K H a xs)
    (hs : ∀ i x σ H T, xs[i]? = some x → Pv i σ H → H T = none → g (.ref T) σ (upd H T (.tup [.int (i : Nat), x])) fun σ2 H2 => tb { D with nx := Pv (i + 1), ct := Pv (i + 1), bk := D.nx } σ2 H2) (hd : ∀ σ H, Pv xs.length σ H → D.nx σ H) :
    ∃ W : Nat → Nat → L2.St → Hp → Prop, (∃ m, W 0 m σ H) ∧ ∀ i m σ H, W i m σ H →
      ((Ite K a).stop i H ∧ D.nx σ H) ∨ ((Ite K a).go i H ∧ ∃ N : L2.St → Hp → Prop, (∀ σ' H', N σ' H' → ∃ m', m' < m ∧ W (i + 1) m' σ' H') ∧ ∀ x H', (Ite K a).yld i H x H' → g x σ H' fun σ2 H2 => tb { D with nx := N, ct := N, bk := D.nx } σ2 H2) := by
  refine ⟨fun i m σ H => i + m = xs.length ∧ Pv i σ H, ⟨xs.length, by omega, h0⟩, ?_⟩
  rintro i m σ H ⟨e, p⟩
  have q := hl i σ H (by omega) p
  by_cases c : i < xs.length
  · refine .inr ⟨⟨xs, xs[i], q, List.getElem?_eq_getElem c⟩, Pv (i + 1), fun σ' H' p' => ⟨m - 1, by omega, by omega, p'⟩, fun v H' hy => ?_⟩
    obtain ⟨T, x, rfl, nT, rfl, fx⟩ := hy
    exact hs i x σ H T (fx xs q) p nT
  · have e2 : i = xs.length := by omega
    subst e2
    exact .inl ⟨⟨xs, q, Nat.le_refl _⟩, hd σ H p⟩
theorem ip_mul {X : Cx} : PIp X .Mult (fun x y H Q => ∃ i j, x = .int i ∧ y = .int j ∧ CMul i j ∧ Q (.int (i * j)) H) := by
  intro pins s σ H x y v u Q I r1 r2 h
  obtain ⟨i, j, e1, e2, hm, q⟩ := h
  subst e1; subst e2
  obtain ⟨t, rfl⟩ := r1
  obtain ⟨t', rfl⟩ := r2
  exact imul_int ⟨.int _, H, I.tok _, ⟨_, rfl⟩, q⟩ hm.ok
theorem pow_bd {n : Int} (h0 : 0 ≤ n) (h4 : n ≤ 4) {i : Nat} (hi : i ≤ 6) : 0 ≤ n ^ i ∧ n ^ i ≤ 4096 := by
  obtain ⟨m, rfl⟩ : ∃ m : Nat, n = m := ⟨n.toNat, by omega⟩
  have := pow_le_4096 (show m ≤ 4 by omega) hi
  constructor
  · exact Int.pow_nonneg h0
  · exact_mod_cast this
end Rd

set_option Elab.async false
set_option linter.all false
set_option maxRecDepth 100000
set_option maxHeartbeats 4000000
/-! fractions, weights, and what they show -/
namespace Gx
open PySem PySem.Spec PyProof.Rows L2
theorem all_enumL {K : PySem.W.Frag} {a : Addr} {xs : List V} {g : TG} {tt : TT} {te : TE} {vs : List Nat} {σ : L2.St} {d : Bool} {QT QF : Hp → Prop} {H2 : Hp} (Pv : Nat → Hp → Prop) (h0 : Pv 0 H2) (hl : ∀ i H, i ≤ xs.length → Pv i H → SqL K H a xs)
    (hs : ∀ i x H T, xs[i]? = some x → Pv i H → H T = none → g (.ref T) (wipe σ vs) (upd H T (.tup [.int (i : Nat), x])) fun σ2 H2 => wipe σ2 vs = wipe σ vs ∧ tt σ2 H2 fun b H3 => if b = true then te σ2 H3 fun y H4 => ∃ c, y = .bl c ∧ (if c = d then Pv (i + 1) H4 else QF H4) else Pv (i + 1) H3) (hd : ∀ H, Pv xs.length H → QT H) :
    ∃ W : Nat → Nat → Hp → Prop, (∃ m, W 0 m H2) ∧ Turns (Ite K a) g tt te vs σ d QT QF W := by
  refine ⟨fun i m H => m = xs.length - i ∧ i ≤ xs.length ∧ Pv i H, ⟨xs.length, by simp, Nat.zero_le _, h0⟩, ?_⟩
  rintro i m H ⟨rfl, hi, p⟩
  have q := hl i H hi p
  by_cases hlt : i < xs.length
  · refine .inr ⟨⟨xs, xs[i], q, by simp [hlt]⟩, Pv (i + 1), fun H' p' => ⟨xs.length - (i + 1), by omega, rfl, hlt, p'⟩, fun v H' hy => ?_⟩
    obtain ⟨T, x, rfl, nT, rfl, fx⟩ := hy
    exact hs i x H T (fx xs q) p nT
  · have e : i = xs.length := by omega
    subst e
    exact .inl ⟨⟨xs, q, Nat.le_refl _⟩, hd H p⟩
end Gx
namespace Rd
open PySem PySem.Spec PyProof.Rows L2 Dt
abbrev Fc := Int × Int
def gcdI (a b : Int) : Int := ((Nat.gcd a.toNat b.toNat : Nat) : Int)
def lowI (a b : Int) : Fc := (a / gcdI a b, b / gcdI a b)
theorem gcdI_step {a b : Int} (ha : 0 ≤ a) (hb : 0 < b) : gcdI b (a % b) = gcdI a b := by
  obtain ⟨m, rfl⟩ : ∃ m : Nat, a = m := ⟨a.toNat, by omega⟩
  obtain ⟨n, rfl⟩ : ∃ n : Nat, b = n := ⟨b.toNat, by omega⟩
  unfold gcdI
  rw [← Int.natCast_emod, Int.toNat_natCast, Int.toNat_natCast, Int.toNat_natCast, Nat.gcd_comm m n, Nat.gcd_rec n m, Nat.gcd_comm]
theorem gcdI_zero {a : Int} (ha : 0 ≤ a) : gcdI a 0 = a := by
  unfold gcdI
  rw [show (0 : Int).toNat = 0 from rfl, Nat.gcd_zero_right]
  omega
theorem gcdI_pos {a b : Int} (hb : 1 ≤ b) : 1 ≤ gcdI a b := by
  unfold gcdI
  have := Nat.gcd_pos_of_pos_right a.toNat (show 0 < b.toNat by omega)
  omega
theorem gcdI_le {a b : Int} (hb : 1 ≤ b) : gcdI a b ≤ b := by
  unfold gcdI
  have := Nat.le_of_dvd (show 0 < b.toNat by omega) (Nat.gcd_dvd_right a.toNat b.toNat)
  omega
theorem low_mul {a b : Int} (ha : 0 ≤ a) (hb : 1 ≤ b) : a = gcdI a b * (lowI a b).1 ∧ b = gcdI a b * (lowI a b).2 := by
  unfold lowI
  dsimp only
  have d1 : gcdI a b ∣ a := by
    have := Int.natCast_dvd_natCast.mpr (Nat.gcd_dvd_left a.toNat b.toNat)
    rw [Int.toNat_of_nonneg ha] at this
    exact this
  have d2 : gcdI a b ∣ b := by
    have := Int.natCast_dvd_natCast.mpr (Nat.gcd_dvd_right a.toNat b.toNat)
    rw [Int.toNat_of_nonneg (show 0 ≤ b by omega)] at this
    exact this
  exact ⟨(Int.mul_ediv_cancel' d1).symm, (Int.mul_ediv_cancel' d2).symm⟩
theorem pos_of_mul {g x : Int} (hg : 1 ≤ g) (h : 1 ≤ g * x) : 1 ≤ x := by
  by_cases c : 1 ≤ x
  · exact c
  · have : g * x ≤ g * 0 := Int.mul_le_mul_of_nonneg_left (by omega) (by omega)
    omega
theorem lt_of_mul {g x y : Int} (hg : 1 ≤ g) (h : g * x < g * y) : x < y := by
  by_cases c : x < y
  · exact c
  · have : g * y ≤ g * x := Int.mul_le_mul_of_nonneg_left (by omega) (by omega)
    omega
theorem le_mul {g x : Int} (hg : 1 ≤ g) (h : 0 ≤ x) : x ≤ g * x := by
  have : 1 * x ≤ g * x := Int.mul_le_mul_of_nonneg_right hg h
  omega
theorem low_ok {a b : Int} (ha : 0 ≤ a) (hb : 1 ≤ b) : 0 ≤ (lowI a b).1 ∧ 1 ≤ (lowI a b).2 ∧ (lowI a b).2 ≤ b ∧ (lowI a b).1 ≤ a := by
  have g1 := gcdI_pos (a := a) hb
  obtain ⟨e1, e2⟩ := low_mul ha hb
  have p1 : 0 ≤ (lowI a b).1 := Int.ediv_nonneg ha (by omega)
  have p2 : 1 ≤ (lowI a b).2 := pos_of_mul g1 (by omega)
  have l1 := le_mul g1 p1
  have l2 := le_mul g1 (show 0 ≤ (lowI a b).2 by omega)
  omega
theorem low_lt {a b : Int} (ha : 1 ≤ a) (h : a < b) : 1 ≤ (lowI a b).1 ∧ (lowI a b).1 < (lowI a b).2 := by
  have g1 := gcdI_pos (a := a) (show 1 ≤ b by omega)
  obtain ⟨e1, e2⟩ := low_mul (show 0 ≤ a by omega) (show 1 ≤ b by omega)
  exact ⟨pos_of_mul g1 (by omega), lt_of_mul g1 (by omega)⟩
theorem low_le {r e A B : Int} (hr : 0 ≤ r) (he : 1 ≤ e) (hA : 0 ≤ A) (hB : 1 ≤ B) : (lowI r e).1 * (lowI A B).2 ≤ (lowI A B).1 * (lowI r e).2 ↔ r * B ≤ A * e := by
  have g1 := gcdI_pos (a := r) he
  have k1 := gcdI_pos (a := A) hB
  obtain ⟨e1, e2⟩ := low_mul hr he
  obtain ⟨e3, e4⟩ := low_mul hA hB
  generalize gcdI r e = g at *
  generalize gcdI A B = k at *
  generalize (lowI r e).1 = r', (lowI r e).2 = e', (lowI A B).1 = A', (lowI A B).2 = B' at *
  subst e1 e2 e3 e4
  have gk : 0 < g * k := Int.mul_pos (by omega) (by omega)
  have x1 : g * r' * (k * B') = g * k * (r' * B') := by
    rw [Int.mul_assoc, Int.mul_assoc, Int.mul_left_comm r' k B']
  have x2 : k * A' * (g * e') = g * k * (A' * e') := by
    rw [Int.mul_assoc, Int.mul_comm g k, Int.mul_assoc, Int.mul_left_comm A' g e']
  rw [x1, x2]
  constructor
  · exact fun h => Int.mul_le_mul_of_nonneg_left h (by omega)
  · exact fun h => Int.le_of_mul_le_mul_left h gk
/-! ### weights -/
def wAt (ws : List Fc) (i : Nat) : Fc := ws.getD i (1, 2)
structure GoodW (B : Int) (ws : List Fc) : Prop where
  each : ∀ x ∈ ws, 1 ≤ x.1 ∧ x.1 < x.2 ∧ x.2 ≤ B
def IsFrs (H : Hp) (l : Addr) (ws : List Fc) : Prop := ∃ ts : List Addr, H l = some (.lst (ts.map V.ref)) ∧ Paired (IsPr H) ts ws
theorem IsFrs.mono {H H' : Hp} {l : Addr} {ws : List Fc} (h : IsFrs H l ws) (t : Tups H H') (k : ∀ xs, H l = some (.lst xs) → H' l = some (.lst xs)) : IsFrs H' l ws := let ⟨ts, h1, h2⟩ := h; ⟨ts, k _ h1, pairedMap (fun _ _ e => t _ _ e) h2⟩
theorem IsFrs.seqs {H H' : Hp} {l : Addr} {ws : List Fc} (h : IsFrs H l ws) (s : Seqs H H') : IsFrs H' l ws := h.mono s.1 fun xs e => s.2 _ _ e
def frD (x : Fc) : PyData := .tuple [.int x.1, .int x.2]
def frsD (ws : List Fc) : PyData := .list (ws.map frD)
theorem dpFrL {K : PySem.W.Frag} {H : Hp} : ∀ {ts : List Addr} {ws : List Fc}, Paired (IsPr H) ts ws → DpAll K H (ts.map V.ref) (ws.map frD)
  | _, _, .nil => .nil
  | _, _, .cons h t => .cons (.tup (.inl (.inl h)) (.cons (.int _) (.cons (.int _) .nil))) (dpFrL t)
theorem dpFrs {K : PySem.W.Frag} {H : Hp} {l : Addr} {ws : List Fc} (h : IsFrs H l ws) : Dp K H (.ref l) (frsD ws) := let ⟨ts, h1, h2⟩ := h; .lst (.inl (.inl h1)) (dpFrL h2)
theorem fine_intX {i : Int} (h0 : 0 ≤ i) (h1 : i < 10 ^ 9) : Fine (.int i) 1 34 := by
  obtain ⟨n, rfl⟩ : ∃ n : Nat, i = n := ⟨i.toNat, by omega⟩
  have hn : n < 10 ^ 9 := by omega
  have hl : n.log2 ≤ 29 := by
    by_cases e : n = 0
    · subst e; decide
    · have := (Nat.log2_lt e).mpr (show n < 2 ^ 30 by omega)
      omega
  refine ⟨rfl, by simp [PyData.depth], ?_, ?_, rfl, short_int n (by omega)⟩
  · simp only [PyData.weight]
    split
    · omega
    · have e : ((n : Int)).natAbs = n := by omega
      rw [e]
      omega
  · simp only [PyData.showable]
    have e : ((n : Int)).natAbs = n := by omega
    rw [e]
    exact decide_eq_true (by omega)
theorem fine_fr {x : Fc} (h1 : 0 ≤ x.1) (h2 : x.1 < 10 ^ 9) (h3 : 0 ≤ x.2) (h4 : x.2 < 10 ^ 9) : Fine (frD x) 2 80 :=
  (Fine.tuple (.cons (fine_intX h1 h2) (.cons (fine_intX h3 h4) (.nil _)))).mono (by omega) (by omega)
theorem fine_frs {B : Int} {ws : List Fc} (hB : B < 10 ^ 9) (g : GoodW B ws) (hl : ws.length ≤ 100) : Fine (frsD ws) 3 9000 := by
  refine (Fine.list (fineAll_map (n := 2) (w := 80) ws fun x hx => ?_)).mono (by omega) (by omega)
  have := g.each x hx
  exact fine_fr (by omega) (by omega) (by omega) (by omega)
theorem wAt_get {ws : List Fc} {i : Nat} (h : i < ws.length) : ws[i]? = some (wAt ws i) := by
  unfold wAt
  rw [List.getD_eq_getElem?_getD, List.getElem?_eq_getElem h]
  rfl
theorem wAt_ok {B : Int} {ws : List Fc} {i : Nat} (g : GoodW B ws) (h : i < ws.length) : 1 ≤ (wAt ws i).1 ∧ (wAt ws i).1 < (wAt ws i).2 ∧ (wAt ws i).2 ≤ B := g.each _ (List.mem_of_getElem? (wAt_get h))
/-! ### the room of a wish -/
def stepW (ws : List Fc) (i : Nat) (p : Fc) (z : Int) : Fc := if z = (i : Int) then p else (p.1 * ((wAt ws z.toNat).2 - (wAt ws z.toNat).1), p.2 * (wAt ws z.toNat).2)
def roomF (ws : List Fc) (i : Nat) (l : List Int) : Fc := l.foldl (stepW ws i) (wAt ws i)
theorem room_snoc (ws : List Fc) (i : Nat) (l : List Int) (z : Int) : roomF ws i (l ++ [z]) = stepW ws i (roomF ws i l) z := by
  unfold roomF
  rw [List.foldl_append]
  rfl
theorem mul_pos1 {x y : Int} (h : 1 ≤ x) (k : 1 ≤ y) : 1 ≤ x * y := by
  have := Int.mul_pos (show 0 < x by omega) (show 0 < y by omega)
  omega
theorem step_ok {B : Int} {ws : List Fc} {i : Nat} {p : Fc} {z : Int} (g : GoodW B ws) (hz : 0 ≤ z) (hz2 : z.toNat < ws.length) (h1 : 1 ≤ p.1) (h2 : 1 ≤ p.2) : 1 ≤ (stepW ws i p z).1 ∧ 1 ≤ (stepW ws i p z).2 := by
  unfold stepW
  have := wAt_ok g hz2
  split
  · exact ⟨h1, h2⟩
  · exact ⟨mul_pos1 h1 (by omega), mul_pos1 h2 (by omega)⟩
theorem room_ok {B : Int} {ws : List Fc} {i : Nat} (g : GoodW B ws) (hi : i < ws.length) (hB : 1 ≤ B) : ∀ (l : List Int), (∀ z ∈ l, 0 ≤ z ∧ z.toNat < ws.length) → ∀ p : Fc, 1 ≤ p.1 → 1 ≤ p.2 → 1 ≤ (l.foldl (stepW ws i) p).1 ∧ 1 ≤ (l.foldl (stepW ws i) p).2 ∧ (l.foldl (stepW ws i) p).2 ≤ p.2 * B ^ l.length
  | [], _, p, h1, h2 => ⟨h1, h2, by simp⟩
  | z :: r, h, p, h1, h2 => by
    have hz := h z List.mem_cons_self
    obtain ⟨s1, s2⟩ := step_ok (i := i) g hz.1 hz.2 h1 h2
    have ih := room_ok g hi hB r (fun y hy => h y (List.mem_cons_of_mem _ hy)) (stepW ws i p z) s1 s2
    rw [List.foldl_cons]
    refine ⟨ih.1, ih.2.1, Int.le_trans ih.2.2 ?_⟩
    have hw := wAt_ok g hz.2
    have e : (stepW ws i p z).2 ≤ p.2 * B := by
      unfold stepW
      split
      · have : p.2 * 1 ≤ p.2 * B := Int.mul_le_mul_of_nonneg_left hB (by omega)
        omega
      · exact Int.mul_le_mul_of_nonneg_left hw.2.2 (by omega)
    have pp : (0 : Int) ≤ B ^ r.length := Int.pow_nonneg (by omega)
    have := Int.mul_le_mul_of_nonneg_right e pp
    rw [List.length_cons, Int.pow_succ, Int.mul_comm (B ^ r.length) B, ← Int.mul_assoc]
    exact this
theorem log_big {x : Int} (h0 : 1 ≤ x) (h : x < 2 ^ 250) : x.natAbs.log2 < 9000 := by
  have hz : x.natAbs ≠ 0 := by omega
  have h2 : x.natAbs < 2 ^ 250 := by
    have e : ((x.natAbs : Nat) : Int) = x := by omega
    have : ((x.natAbs : Nat) : Int) < ((2 ^ 250 : Nat) : Int) := by rw [e]; exact_mod_cast h
    exact_mod_cast this
  have := (Nat.log2_lt hz).mpr h2
  omega
theorem room_log {ws : List Fc} {i : Nat} {l : List Int} (g : GoodW 20000 ws) (hi : i < ws.length) (hl : l.length ≤ 8) (h : ∀ z ∈ l, 0 ≤ z ∧ z.toNat < ws.length) : 1 ≤ (roomF ws i l).1 ∧ 1 ≤ (roomF ws i l).2 ∧ (roomF ws i l).2.natAbs.log2 < 9000 := by
  have hw := wAt_ok g hi
  obtain ⟨a, b, c⟩ := room_ok g hi (by decide) l h (wAt ws i) (by omega) (by omega)
  refine ⟨a, b, log_big b (Int.lt_of_le_of_lt c ?_)⟩
  have p1 : (20000 : Int) ^ l.length ≤ 20000 ^ 8 := by
    have := Nat.pow_le_pow_right (show 0 < 20000 by decide) hl
    exact_mod_cast this
  have p2 : (wAt ws i).2 * (20000 : Int) ^ l.length ≤ 20000 * 20000 ^ 8 := Int.mul_le_mul hw.2.2 p1 (Int.pow_nonneg (by decide)) (by decide)
  refine Int.lt_of_le_of_lt p2 ?_
  have : (20000 * 20000 ^ 8 : Nat) < 2 ^ 250 := by
    refine Nat.lt_of_lt_of_le (show (20000 * 20000 ^ 8 : Nat) < 2 ^ 200 by decide) (Nat.pow_le_pow_right (by decide) (by decide))
  exact_mod_cast this
/-! ### what is shown -/
def everyI (wd : WD) (hues : Int) : Int := hues ^ wd.1.length
def okW (wds : List WD) (hues : Int) (ws : List Fc) (i : Nat) : Bool := match wds[i]? with
  | some wd => decide ((wd.2.length : Int) * (roomF ws i (clsL wds wd wds.length)).2 ≤ (roomF ws i (clsL wds wd wds.length)).1 * everyI wd hues)
  | none => true
def shownB (wds : List WD) (hues : Int) (ws : List Fc) : Bool := (List.range wds.length).all (okW wds hues ws)
theorem okW_of {wds : List WD} {hues : Int} {ws : List Fc} {i : Nat} {wd : WD} (h : wds[i]? = some wd) : okW wds hues ws i = decide ((wd.2.length : Int) * (roomF ws i (clsL wds wd wds.length)).2 ≤ (roomF ws i (clsL wds wd wds.length)).1 * everyI wd hues) := by
  unfold okW
  rw [h]
theorem shown_yes {wds : List WD} {hues : Int} {ws : List Fc} (h : ∀ i, i < wds.length → okW wds hues ws i = true) : shownB wds hues ws = true := by
  unfold shownB
  rw [List.all_eq_true]
  exact fun i hi => h i (List.mem_range.mp hi)
theorem shown_no {wds : List WD} {hues : Int} {ws : List Fc} {i : Nat} (hi : i < wds.length) (h : okW wds hues ws i = false) : shownB wds hues ws = false := by
  unfold shownB
  rw [List.all_eq_false]
  exact ⟨i, List.mem_range.mpr hi, by rw [h]; decide⟩
theorem every_pos {wd : WD} {hues : Int} (h : 2 ≤ hues) : 1 ≤ everyI wd hues := by
  unfold everyI
  have : 0 < hues ^ wd.1.length := Int.pow_pos (by omega)
  omega
theorem every_le {wd : WD} {hues : Int} (h2 : 2 ≤ hues) (h4 : hues ≤ 4) (l3 : wd.1.length ≤ 3) : everyI wd hues ≤ 64 := by
  unfold everyI
  obtain ⟨n, rfl⟩ : ∃ n : Nat, hues = n := ⟨hues.toNat, by omega⟩
  have : n ^ wd.1.length ≤ 64 := Nat.le_trans (Nat.pow_le_pow_left (show n ≤ 4 by omega) _) (Nat.le_trans (Nat.pow_le_pow_right (by decide) l3) (by decide))
  exact_mod_cast this
end Rd

set_option Elab.async false
set_option linter.all false
set_option maxRecDepth 100000
set_option maxHeartbeats 4000000
/-! runs step by step, and the draws told back -/
namespace Dt
open PySem PySem.Spec PyProof.Rows L2
inductive Steps (wds : List WD) (tb : List (List Int)) (ord : List Int) : List Int → Log → List Int → Log → Prop
  | refl (tk : List Int) (log : Log) : Steps wds tb ord tk log tk log
  | step {tk tk' : List Int} {log log' : Log} {k : Int} : firstB (stand tb tk) wds ord = some k → canN tb tk (plc wds k) = true → Steps wds tb ord (bumpA tk (plc wds k)) (log ++ [(k, huesA (stand tb tk) (plc wds k))]) tk' log' → Steps wds tb ord tk log tk' log'
/-- how a run ends -/
structure EndsAt (wds : List WD) (tb : List (List Int)) (ord : List Int) (tk : List Int) (b : Bool) : Prop where
  kept : b = true → firstB (stand tb tk) wds ord = none
  spent : b = false → ∃ k, firstB (stand tb tk) wds ord = some k ∧ canN tb tk (plc wds k) = false
theorem goR_steps {wds : List WD} {tb : List (List Int)} {ord : List Int} {R : Res} : ∀ (n : Nat) (tk : List Int) (log : Log), goR wds tb ord n tk log = some R → ∃ tkE, Steps wds tb ord tk log tkE R.2.2 ∧ R.2.1 = stand tb tkE ∧ EndsAt wds tb ord tkE R.1
  | 0, _, _, h => nomatch h
  | n + 1, tk, log, h => by
    rw [goR] at h
    cases e : firstB (stand tb tk) wds ord with
    | none =>
      rw [e] at h
      have z := Option.some.inj h
      rw [← z]
      exact ⟨tk, .refl _ _, rfl, fun _ => e, fun z => nomatch z⟩
    | some k =>
      rw [e] at h
      dsimp only at h
      cases c : canN tb tk (plc wds k) with
      | false =>
        rw [c, if_neg (by decide)] at h
        have z := Option.some.inj h
        rw [← z]
        exact ⟨tk, .refl _ _, rfl, (fun z => nomatch z), fun _ => ⟨k, e, c⟩⟩
      | true =>
        rw [c, if_pos rfl] at h
        obtain ⟨tkE, h1, h2, h3⟩ := goR_steps n _ _ h
        exact ⟨tkE, .step e c h1, h2, h3⟩
theorem steps_goR {wds : List WD} {tb : List (List Int)} {ord : List Int} {tk tk' : List Int} {log log' : Log} (s : Steps wds tb ord tk log tk' log') : ∃ c : Nat, ∀ m, goR wds tb ord (m + c) tk log = goR wds tb ord m tk' log' := by
  induction s with
  | refl tk log => exact ⟨0, fun m => rfl⟩
  | @step tk tk' log log' k e c s ih =>
    obtain ⟨n, hn⟩ := ih
    refine ⟨n + 1, fun m => ?_⟩
    show goR wds tb ord (m + n + 1) tk log = _
    rw [goR, e]
    dsimp only
    rw [c, if_pos rfl]
    exact hn m
theorem ends_goR {wds : List WD} {tb : List (List Int)} {ord : List Int} {tk : List Int} {b : Bool} (h : EndsAt wds tb ord tk b) (m : Nat) (log : Log) : goR wds tb ord (m + 1) tk log = some (b, stand tb tk, log) := by
  rw [goR]
  cases b with
  | true => rw [h.kept rfl]
  | false =>
    obtain ⟨k, h1, h2⟩ := h.spent rfl
    rw [h1]
    dsimp only
    rw [h2, if_neg (by decide)]
theorem goR_more {wds : List WD} {tb : List (List Int)} {ord : List Int} {R : Res} : ∀ (n : Nat) (tk : List Int) (log : Log) (m : Nat), goR wds tb ord n tk log = some R → goR wds tb ord (n + m) tk log = some R
  | 0, _, _, _, h => nomatch h
  | n + 1, tk, log, m, h => by
    rw [show n + 1 + m = (n + m) + 1 by omega]
    rw [goR] at h ⊢
    cases e : firstB (stand tb tk) wds ord with
    | none => rw [e] at h; exact h
    | some k =>
      rw [e] at h
      dsimp only at h ⊢
      cases c : canN tb tk (plc wds k) with
      | false => rw [c, if_neg (by decide)] at h; rw [if_neg (by decide)]; exact h
      | true =>
        rw [c, if_pos rfl] at h
        rw [if_pos rfl]
        exact goR_more n _ _ m h
theorem goR_one {wds : List WD} {tb : List (List Int)} {ord : List Int} {R R' : Res} {n n' : Nat} {tk : List Int} {log : Log} (h : goR wds tb ord n tk log = some R) (h' : goR wds tb ord n' tk log = some R') : R = R' := by
  have a := goR_more n tk log n' h
  have b := goR_more n' tk log n h'
  rw [Nat.add_comm] at b
  exact Option.some.inj (a.symm.trans b)
/-- a run by its steps -/
theorem runOf_of {many hues : Int} {wds : List WD} {tb : List (List Int)} {ord : List Int} (gr : GoodR many hues wds) (nd : ∀ wd ∈ wds, wd.1.Nodup) (gt : GoodT many hues tb) (go : GoodO wds.length ord) {tk : List Int} {log : Log} {b : Bool} (s : Steps wds tb ord (zerosI tb.length) [] tk log) (e : EndsAt wds tb ord tk b) : runOf wds tb ord = some (b, stand tb tk, log) := by
  obtain ⟨R, hR, _⟩ := runOf_some gr nd gt go
  obtain ⟨c, hc⟩ := steps_goR s
  have z := ends_goR e 0 log
  rw [← hc (0 + 1)] at z
  rw [hR]
  exact congrArg some (goR_one hR z)
theorem runOf_steps {wds : List WD} {tb : List (List Int)} {ord : List Int} {R : Res} (h : runOf wds tb ord = some R) : ∃ tkE, Steps wds tb ord (zerosI tb.length) [] tkE R.2.2 ∧ R.2.1 = stand tb tkE ∧ EndsAt wds tb ord tkE R.1 := goR_steps _ _ _ h
/-! ### what stays along steps -/
structure Fit (many hues : Int) (wds : List WD) (tb : List (List Int)) (ord : List Int) : Prop where
  gr : GoodR many hues wds
  nd : ∀ wd ∈ wds, wd.1.Nodup
  len : (tb.length : Int) = many
  go : GoodO wds.length ord
theorem can_fit {many hues : Int} {wds : List WD} {tb : List (List Int)} {tk : List Int} {ord : List Int} {k : Int} (f : Fit many hues wds tb ord) (e : firstB (stand tb tk) wds ord = some k) (h : canN tb tk (plc wds k) = true) : Can tb tk (plc wds k) ∧ ∃ wd, wds[k.toNat]? = some wd ∧ plc wds k = wd.1 ∧ brkAt (stand tb tk) wds k.toNat = true ∧ 0 ≤ k ∧ k < (wds.length : Int) := by
  obtain ⟨hk, hb⟩ := first_some e
  obtain ⟨k0, k1⟩ := f.go.mem k hk
  obtain ⟨wd, hw, he⟩ := wd_of k0 k1
  refine ⟨⟨?_, fun p hp => ?_, fun p hp => of_decide_eq_true (List.all_eq_true.mp h p hp)⟩, wd, hw, he, hb, k0, k1⟩
  · rw [he]; exact f.nd wd (List.mem_of_getElem? hw)
  · rw [he] at hp
    have := (f.gr.each wd (List.mem_of_getElem? hw)).pl p hp
    have := f.len
    omega
theorem steps_good {many hues : Int} {wds : List WD} {tb : List (List Int)} {ord : List Int} (f : Fit many hues wds tb ord) {tk tk' : List Int} {log log' : Log} (s : Steps wds tb ord tk log tk' log') (g : GoodK tb tk) : GoodK tb tk' := by
  induction s with
  | refl => exact g
  | step e c s ih => exact ih (bumpA_good g (can_fit f e c).1).1
theorem atF_bump (tk : List Int) (p q : Int) (h0 : 0 ≤ p) (h1 : p < (tk.length : Int)) (hq : 0 ≤ q) : atF (bump tk p.toNat) q = atF tk q + (if q = p then 1 else 0) := by
  unfold atF
  rw [bump_get]
  by_cases e : q = p
  · subst e
    rw [if_pos ⟨rfl, by omega⟩, if_pos rfl]
  · rw [if_neg (fun z => e (by omega)), if_neg e, Int.add_zero]
theorem atF_bumpA : ∀ (ps : List Int) (tk : List Int) (q : Int), ps.Nodup → (∀ p ∈ ps, 0 ≤ p ∧ p < (tk.length : Int)) → 0 ≤ q → atF (bumpA tk ps) q = atF tk q + (if q ∈ ps then 1 else 0)
  | [], tk, q, _, _, _ => by simp [bumpA]
  | p :: r, tk, q, nd, h, hq => by
    have hp := h p List.mem_cons_self
    have nd2 := List.nodup_cons.mp nd
    show atF (bumpA (bump tk p.toNat) r) q = _
    rw [atF_bumpA r (bump tk p.toNat) q nd2.2 (fun x hx => by rw [bump_len]; exact h x (List.mem_cons_of_mem _ hx)) hq, atF_bump tk p q hp.1 hp.2 hq]
    by_cases e : q = p
    · subst e
      rw [if_pos rfl, if_neg nd2.1, if_pos List.mem_cons_self]
      omega
    · rw [if_neg e, Int.add_zero]
      by_cases e2 : q ∈ r
      · rw [if_pos e2, if_pos (List.mem_cons_of_mem _ e2)]
      · rw [if_neg e2, if_neg (fun z => (List.mem_cons.mp z).elim e e2)]
def cntP (wds : List WD) (log : Log) (p : Int) : Nat := (log.filter fun e => decide (p ∈ plc wds e.1)).length
theorem cntP_snoc (wds : List WD) (log : Log) (e : Int × List Int) (p : Int) : cntP wds (log ++ [e]) p = cntP wds log p + (if p ∈ plc wds e.1 then 1 else 0) := by
  unfold cntP
  rw [List.filter_append, List.length_append]
  by_cases h : p ∈ plc wds e.1
  · simp [h]
  · simp [h]
theorem steps_cnt {many hues : Int} {wds : List WD} {tb : List (List Int)} {ord : List Int} (f : Fit many hues wds tb ord) {tk tk' : List Int} {log log' : Log} (s : Steps wds tb ord tk log tk' log') (g : GoodK tb tk) (h : ∀ p, 0 ≤ p → p < (tb.length : Int) → atF tk p = cntP wds log p) : ∀ p, 0 ≤ p → p < (tb.length : Int) → atF tk' p = cntP wds log' p := by
  induction s with
  | refl => exact h
  | @step tk tk' log log' k e c s ih =>
    have cf := (can_fit f e c).1
    refine ih (bumpA_good g cf).1 fun p p0 p1 => ?_
    rw [atF_bumpA _ _ _ cf.nd (fun x hx => by rw [g.len]; exact cf.pl x hx) p0, cntP_snoc, h p p0 p1]
    by_cases e2 : p ∈ plc wds k
    · rw [if_pos e2, if_pos e2]; rfl
    · rw [if_neg e2, if_neg e2]; rfl
theorem steps_le {many hues : Int} {wds : List WD} {tb : List (List Int)} {ord : List Int} (f : Fit many hues wds tb ord) {tk tk' : List Int} {log log' : Log} (s : Steps wds tb ord tk log tk' log') (g : GoodK tb tk) : ∀ p, 0 ≤ p → atF tk p ≤ atF tk' p := by
  induction s with
  | refl => exact fun _ _ => Int.le_refl _
  | @step tk tk' log log' k e c s ih =>
    intro p p0
    have cf := (can_fit f e c).1
    have a := ih (bumpA_good g cf).1 p p0
    rw [atF_bumpA _ _ _ cf.nd (fun x hx => by rw [g.len]; exact cf.pl x hx) p0] at a
    split at a <;> omega
theorem steps_pre {wds : List WD} {tb : List (List Int)} {ord : List Int} {tk tk' : List Int} {log log' : Log} (s : Steps wds tb ord tk log tk' log') : ∃ more, log' = log ++ more := by
  induction s with
  | refl => exact ⟨[], by rw [List.append_nil]⟩
  | step e c s ih =>
    obtain ⟨more, h⟩ := ih
    exact ⟨_, by rw [h, List.append_assoc]⟩
/-! ### tables that agree so far -/
structure Agree (tb tb' : List (List Int)) (tk : List Int) : Prop where
  len : tb'.length = tb.length
  long : ∀ p : Nat, p < tb.length → tk.getD p 0 < ((tb'.getD p []).length : Int)
  eq : ∀ p : Nat, p < tb.length → (tb'.getD p []).take ((tk.getD p 0).toNat + 1) = (tb.getD p []).take ((tk.getD p 0).toNat + 1)
theorem take_at {a b : List Int} {n j : Nat} (h : a.take (n + 1) = b.take (n + 1)) (hj : j ≤ n) : a.getD j 0 = b.getD j 0 := by
  have z := congrArg (fun l : List Int => l[j]?) h
  simp only [List.getElem?_take] at z
  rw [if_pos (by omega), if_pos (by omega)] at z
  rw [List.getD_eq_getElem?_getD, List.getD_eq_getElem?_getD, z]
theorem Agree.stand {tb tb' : List (List Int)} {tk tkE : List Int} (a : Agree tb tb' tkE) (g : GoodK tb tk) (h : ∀ p, 0 ≤ p → atF tk p ≤ atF tkE p) : stand tb' tk = stand tb tk := by
  have g' : GoodK tb' tk := by
    refine ⟨by rw [a.len]; exact g.len, fun p hp => ?_⟩
    rw [a.len] at hp
    have b := g.at_ p hp
    have c := a.long p hp
    have d := h p (by omega)
    unfold atF at d
    rw [Int.toNat_natCast] at d
    omega
  refine List.ext_getElem? fun i => ?_
  by_cases hi : i < tb.length
  · rw [stand_get g' (by rw [a.len]; exact hi), stand_get g hi]
    have b := g.at_ i hi
    have d := h i (by omega)
    unfold atF at d ⊢
    rw [Int.toNat_natCast] at d
    rw [take_at (a.eq i hi) (by omega)]
  · rw [List.getElem?_eq_none (by rw [stand_len g', a.len]; omega), List.getElem?_eq_none (by rw [stand_len g]; omega)]
theorem agree_good {tb tb' : List (List Int)} {tk tkE : List Int} (a : Agree tb tb' tkE) (g : GoodK tb tk) (h : ∀ p, 0 ≤ p → atF tk p ≤ atF tkE p) : GoodK tb' tk := by
  refine ⟨by rw [a.len]; exact g.len, fun p hp => ?_⟩
  rw [a.len] at hp
  have b := g.at_ p hp
  have c := a.long p hp
  have d := h p (by omega)
  unfold atF at d
  rw [Int.toNat_natCast] at d
  omega
theorem steps_agree {many hues : Int} {wds : List WD} {tb tb' : List (List Int)} {ord : List Int} (f : Fit many hues wds tb ord) {tk tkE : List Int} {log log' : Log} (s : Steps wds tb ord tk log tkE log') (g : GoodK tb tk) (a : Agree tb tb' tkE) : Steps wds tb' ord tk log tkE log' := by
  induction s with
  | refl => exact .refl _ _
  | @step tk tkE log log' k e c s ih =>
    have cf := (can_fit f e c).1
    have g2 := (bumpA_good g cf).1
    have le2 := steps_le f s g2
    have le1 := steps_le f (.step e c s) g
    have es := a.stand g le1
    have ih2 := ih g2 a
    refine .step (k := k) (by rw [es]; exact e) ?_ (by rw [es]; exact ih2)
    refine List.all_eq_true.mpr fun p hp => decide_eq_true ?_
    have pp := cf.pl p hp
    have b := le2 p pp.1
    rw [atF_bumpA _ _ _ cf.nd (fun x hx => by rw [g.len]; exact cf.pl x hx) pp.1, if_pos hp] at b
    have d := a.long p.toNat (by omega)
    unfold atF lenAt at *
    omega
/-! ### the draws told back -/
def app1 (tb : List (List Int)) (p : Nat) (h : Int) : List (List Int) := tb.set p (tb.getD p [] ++ [h])
def appA (tb : List (List Int)) (ps row : List Int) : List (List Int) := (ps.zip row).foldl (fun t x => app1 t x.1.toNat x.2) tb
def toldL (wds : List WD) (n : Nat) (log : Log) : List (List Int) := log.foldl (fun t e => appA t (plc wds e.1) e.2) (List.replicate n [])
def finA (tb : List (List Int)) (fs : List Int) (i : Nat) : List (List Int) := (List.range i).foldl (fun t j => app1 t j (fs.getD j 0)) tb
def toldT (wds : List WD) (fs : List Int) (log : Log) : List (List Int) := finA (toldL wds fs.length log) fs fs.length
def takes (tb : List (List Int)) (tk : List Int) : List (List Int) := List.zipWith (fun ds k => ds.take k.toNat) tb tk
def firsts (tb : List (List Int)) (tk : List Int) : List (List Int) := List.zipWith (fun ds k => ds.take (k.toNat + 1)) tb tk
theorem app1_len (tb : List (List Int)) (p : Nat) (h : Int) : (app1 tb p h).length = tb.length := by simp [app1]
theorem app1_get (tb : List (List Int)) (p i : Nat) (h : Int) : (app1 tb p h).getD i [] = if i = p ∧ p < tb.length then tb.getD p [] ++ [h] else tb.getD i [] := by
  unfold app1
  rw [List.getD_eq_getElem?_getD, List.getElem?_set]
  by_cases e : p = i
  · subst e
    by_cases h2 : p < tb.length
    · rw [if_pos rfl, if_pos h2, if_pos ⟨rfl, h2⟩]; rfl
    · rw [if_pos rfl, if_neg h2, if_neg (fun z => h2 z.2), List.getD_eq_getElem?_getD, List.getElem?_eq_none (by omega)]
  · rw [if_neg e, if_neg (fun z => e z.1.symm), List.getD_eq_getElem?_getD]
theorem appA_len : ∀ (ps row : List Int) (tb : List (List Int)), (appA tb ps row).length = tb.length
  | [], _, _ => rfl
  | _ :: _, [], _ => rfl
  | p :: r, h :: q, tb => by
    show (appA (app1 tb p.toNat h) r q).length = _
    rw [appA_len r q, app1_len]
theorem toldL_len (wds : List WD) (n : Nat) : ∀ log : Log, (toldL wds n log).length = n := fun log => by
  unfold toldL
  have : ∀ (log : Log) (tb : List (List Int)), (log.foldl (fun t e => appA t (plc wds e.1) e.2) tb).length = tb.length := by
    intro log
    induction log with
    | nil => intro _; rfl
    | cons e r ih => intro tb; rw [List.foldl_cons, ih, appA_len]
  rw [this, List.length_replicate]
theorem toldL_snoc (wds : List WD) (n : Nat) (log : Log) (e : Int × List Int) : toldL wds n (log ++ [e]) = appA (toldL wds n log) (plc wds e.1) e.2 := by
  unfold toldL
  rw [List.foldl_append]
  rfl
theorem finA_succ (tb : List (List Int)) (fs : List Int) (i : Nat) : finA tb fs (i + 1) = app1 (finA tb fs i) i (fs.getD i 0) := by
  unfold finA
  rw [List.range_succ, List.foldl_append]
  rfl
theorem finA_len (tb : List (List Int)) (fs : List Int) : ∀ i : Nat, (finA tb fs i).length = tb.length
  | 0 => rfl
  | i + 1 => by rw [finA_succ, app1_len, finA_len tb fs i]
theorem finA_get (tb : List (List Int)) (fs : List Int) : ∀ (i q : Nat), i ≤ tb.length → (finA tb fs i).getD q [] = if q < i then tb.getD q [] ++ [fs.getD q 0] else tb.getD q []
  | 0, q, _ => by rw [if_neg (Nat.not_lt_zero _)]; rfl
  | i + 1, q, h => by
    rw [finA_succ, app1_get, finA_len, finA_get tb fs i q (by omega), finA_get tb fs i i (by omega)]
    by_cases e : q = i
    · subst e
      rw [if_pos ⟨rfl, by omega⟩, if_neg (Nat.lt_irrefl _), if_pos (Nat.lt_succ_self _)]
    · rw [if_neg (fun z => e z.1)]
      by_cases e2 : q < i
      · rw [if_pos e2, if_pos (by omega)]
      · rw [if_neg e2, if_neg (by omega)]
theorem toldT_len (wds : List WD) (fs : List Int) (log : Log) : (toldT wds fs log).length = fs.length := by
  rw [toldT, finA_len, toldL_len]
theorem toldT_get (wds : List WD) (fs : List Int) (log : Log) {q : Nat} (h : q < fs.length) : (toldT wds fs log).getD q [] = (toldL wds fs.length log).getD q [] ++ [fs.getD q 0] := by
  rw [toldT, finA_get _ _ _ _ (by rw [toldL_len]; exact Nat.le_refl _), if_pos h]
theorem takes_len {tb : List (List Int)} {tk : List Int} (g : GoodK tb tk) : (takes tb tk).length = tb.length := by
  unfold takes
  rw [List.length_zipWith, g.len, Nat.min_self]
theorem takes_get {tb : List (List Int)} {tk : List Int} (g : GoodK tb tk) {p : Nat} (hp : p < tb.length) : (takes tb tk)[p]? = some ((tb.getD p []).take (tk.getD p 0).toNat) := by
  have h2 : p < tk.length := by rw [g.len]; exact hp
  unfold takes
  rw [List.getElem?_zipWith, List.getElem?_eq_getElem hp, List.getElem?_eq_getElem h2, getD_get hp, getD_get h2]
theorem firsts_len {tb : List (List Int)} {tk : List Int} (g : GoodK tb tk) : (firsts tb tk).length = tb.length := by
  unfold firsts
  rw [List.length_zipWith, g.len, Nat.min_self]
theorem firsts_get {tb : List (List Int)} {tk : List Int} (g : GoodK tb tk) {p : Nat} (hp : p < tb.length) : (firsts tb tk)[p]? = some ((tb.getD p []).take ((tk.getD p 0).toNat + 1)) := by
  have h2 : p < tk.length := by rw [g.len]; exact hp
  unfold firsts
  rw [List.getElem?_zipWith, List.getElem?_eq_getElem hp, List.getElem?_eq_getElem h2, getD_get hp, getD_get h2]
theorem getD_of {α : Type} {l : List α} {i : Nat} {a d : α} (h : l[i]? = some a) : l.getD i d = a := by
  rw [List.getD_eq_getElem?_getD, h]
  rfl
theorem take1 {tb : List (List Int)} {tk : List Int} {p : Nat} (g : GoodK tb tk) (hp : p < tb.length) (h : tk.getD p 0 + 1 < ((tb.getD p []).length : Int)) : app1 (takes tb tk) p (atF (tb.getD p []) (tk.getD p 0)) = takes tb (bump tk p) := by
  have g2 := good_bump g hp h
  have a := g.at_ p hp
  refine List.ext_getElem? fun i => ?_
  unfold app1
  rw [List.getElem?_set]
  by_cases hi : i < tb.length
  · rw [takes_get g2 hi, bump_get]
    by_cases e : p = i
    · subst e
      rw [if_pos rfl, if_pos (by rw [takes_len g]; exact hp), if_pos ⟨rfl, by rw [g.len]; exact hp⟩, getD_of (takes_get g hp)]
      have en : (tk.getD p 0 + 1).toNat = (tk.getD p 0).toNat + 1 := by omega
      have hl : (tk.getD p 0).toNat < (tb.getD p []).length := by omega
      rw [en, List.take_add_one, atF, getD_get hl, List.getElem?_eq_getElem hl]
      rfl
    · rw [if_neg e, if_neg (fun z => e z.1.symm), takes_get g hi]
  · rw [if_neg (by omega), List.getElem?_eq_none (by rw [takes_len g]; omega), List.getElem?_eq_none (by rw [takes_len g2]; omega)]
theorem takeA : ∀ (ps : List Int) {tb : List (List Int)} {tk : List Int} (w : Int → Int), GoodK tb tk → Can tb tk ps → (∀ p ∈ ps, w p = atF (tb.getD p.toNat []) (atF tk p)) → appA (takes tb tk) ps (ps.map w) = takes tb (bumpA tk ps)
  | [], _, _, _, _, _, _ => rfl
  | p :: r, tb, tk, w, g, c, h => by
    have hp := c.pl p List.mem_cons_self
    have hn := c.nx p List.mem_cons_self
    have hpn : p.toNat < tb.length := by omega
    show appA (app1 (takes tb tk) p.toNat (w p)) r (r.map w) = takes tb (bumpA (bump tk p.toNat) r)
    rw [h p List.mem_cons_self, show atF tk p = tk.getD p.toNat 0 from rfl, take1 g hpn hn]
    refine takeA r w (good_bump g hpn hn) c.tail fun q hq => ?_
    have hq2 := c.pl q (List.mem_cons_of_mem _ hq)
    have hne : q ≠ p := fun z => (List.nodup_cons.mp c.nd).1 (z ▸ hq)
    rw [h q (List.mem_cons_of_mem _ hq), atF_bump tk p q hp.1 (by rw [g.len]; exact hp.2) hq2.1, if_neg hne, Int.add_zero]
theorem steps_told {many hues : Int} {wds : List WD} {tb : List (List Int)} {ord : List Int} (f : Fit many hues wds tb ord) {tk tk' : List Int} {log log' : Log} (s : Steps wds tb ord tk log tk' log') (g : GoodK tb tk) (h : toldL wds tb.length log = takes tb tk) : toldL wds tb.length log' = takes tb tk' := by
  induction s with
  | refl => exact h
  | @step tk tk' log log' k e c s ih =>
    have cf := (can_fit f e c).1
    refine ih (bumpA_good g cf).1 ?_
    rw [toldL_snoc, h]
    refine takeA _ _ g cf fun p hp => ?_
    have pp := cf.pl p hp
    have hpn : p.toNat < tb.length := by omega
    show atF (stand tb tk) p = _
    rw [atF, getD_of (stand_get g hpn)]
    rfl
theorem told_end {wds : List WD} {tb : List (List Int)} {tk : List Int} {log : Log} (g : GoodK tb tk) (h : toldL wds tb.length log = takes tb tk) : toldT wds (stand tb tk) log = firsts tb tk := by
  refine List.ext_getElem? fun i => ?_
  by_cases hi : i < tb.length
  · have hs : i < (stand tb tk).length := by rw [stand_len g]; exact hi
    have e := toldT_get wds (stand tb tk) log hs
    rw [stand_len g, h, getD_of (takes_get g hi), getD_of (stand_get g hi)] at e
    have hl : i < (toldT wds (stand tb tk) log).length := by rw [toldT_len]; exact hs
    rw [getD_get hl] at e
    rw [List.getElem?_eq_getElem hl, e, firsts_get g hi]
    have a := g.at_ i hi
    have hl2 : (tk.getD i 0).toNat < (tb.getD i []).length := by omega
    rw [List.take_add_one, atF, getD_get hl2, List.getElem?_eq_getElem hl2]
    rfl
  · rw [List.getElem?_eq_none (by rw [toldT_len, stand_len g]; omega), List.getElem?_eq_none (by rw [firsts_len g]; omega)]
theorem takes_zero {tb : List (List Int)} : toldL wds tb.length [] = takes tb (zerosI tb.length) := by
  show List.replicate tb.length [] = _
  unfold takes zerosI
  refine List.ext_getElem? fun i => ?_
  rw [List.getElem?_zipWith, List.getElem?_replicate, List.getElem?_replicate]
  by_cases hi : i < tb.length
  · rw [if_pos hi, if_pos hi, List.getElem?_eq_getElem hi]
    rfl
  · rw [if_neg hi, if_neg hi, List.getElem?_eq_none (by omega)]
/-- all of a run -/
structure RunEnd (many hues : Int) (wds : List WD) (tb : List (List Int)) (ord : List Int) (R : Res) (tk : List Int) : Prop where
  gk : GoodK tb tk
  st : Steps wds tb ord (zerosI tb.length) [] tk R.2.2
  fs : R.2.1 = stand tb tk
  en : EndsAt wds tb ord tk R.1
  told : toldT wds R.2.1 R.2.2 = firsts tb tk
  cnt : ∀ p, 0 ≤ p → p < (tb.length : Int) → atF tk p = cntP wds R.2.2 p
theorem runEnd_of {many hues : Int} {wds : List WD} {tb : List (List Int)} {ord : List Int} {R : Res} (gr : GoodR many hues wds) (nd : ∀ wd ∈ wds, wd.1.Nodup) (gt : GoodT many hues tb) (go : GoodO wds.length ord) (h : runOf wds tb ord = some R) : ∃ tk, RunEnd many hues wds tb ord R tk := by
  obtain ⟨tk, s, e, en⟩ := runOf_steps h
  have f : Fit many hues wds tb ord := ⟨gr, nd, gt.len, go⟩
  have g0 := zeros_good gt
  have gk := steps_good f s g0
  refine ⟨tk, gk, s, e, en, ?_, steps_cnt f s g0 fun p p0 _ => ?_⟩
  · rw [e]
    exact told_end gk (steps_told f s g0 takes_zero)
  · unfold atF
    rw [zeros_get]
    rfl
theorem firsts_good {many hues : Int} {tb : List (List Int)} {tk : List Int} (gt : GoodT many hues tb) (g : GoodK tb tk) : GoodT many hues (firsts tb tk) := by
  have key : ∀ ds ∈ firsts tb tk, ∃ d ∈ tb, ∃ n, ds = d.take (n + 1) := fun ds h => by
    obtain ⟨i, hi, e⟩ := List.getElem_of_mem h
    rw [firsts_len g] at hi
    have z := firsts_get g hi
    rw [List.getElem?_eq_getElem (by rw [firsts_len g]; exact hi), e] at z
    exact ⟨_, getD_mem hi, _, Option.some.inj z⟩
  refine ⟨by rw [firsts_len g]; exact gt.len, fun ds h => ?_, fun ds h => ?_, fun ds h z hz => ?_⟩
  · obtain ⟨d, hd, n, rfl⟩ := key ds h
    have := gt.one d hd
    rw [List.length_take]
    omega
  · obtain ⟨d, hd, n, rfl⟩ := key ds h
    have := gt.few d hd
    rw [List.length_take]
    omega
  · obtain ⟨d, hd, n, rfl⟩ := key ds h
    exact gt.hue d hd z (List.mem_of_mem_take hz)
theorem firsts_agree {tb : List (List Int)} {tk : List Int} (g : GoodK tb tk) : Agree tb (firsts tb tk) tk := by
  refine ⟨firsts_len g, fun p hp => ?_, fun p hp => ?_⟩
  · rw [getD_of (firsts_get g hp), List.length_take]
    have := g.at_ p hp
    omega
  · rw [getD_of (firsts_get g hp), List.take_take, Nat.min_self]
/-- the run of the draws taken alone -/
theorem run_firsts {many hues : Int} {wds : List WD} {tb : List (List Int)} {ord : List Int} {R : Res} {tk : List Int} (gr : GoodR many hues wds) (nd : ∀ wd ∈ wds, wd.1.Nodup) (gt : GoodT many hues tb) (go : GoodO wds.length ord) (e : RunEnd many hues wds tb ord R tk) : runOf wds (firsts tb tk) ord = some R := by
  have f : Fit many hues wds tb ord := ⟨gr, nd, gt.len, go⟩
  have ag := firsts_agree e.gk
  have s' := steps_agree f e.st (zeros_good gt) ag
  have es : stand (firsts tb tk) tk = stand tb tk := ag.stand e.gk fun _ _ => Int.le_refl _
  have s2 : Steps wds (firsts tb tk) ord (zerosI (firsts tb tk).length) [] tk R.2.2 := by rw [firsts_len e.gk]; exact s'
  have z := runOf_of gr nd (firsts_good gt e.gk) go (b := R.1) s2 ⟨fun b => by rw [es]; exact e.en.kept b, fun b => by
    obtain ⟨k, h1, h2⟩ := e.en.spent b
    refine ⟨k, by rw [es]; exact h1, ?_⟩
    obtain ⟨hk, hb⟩ := first_some h1
    obtain ⟨k0, k1⟩ := go.mem k hk
    obtain ⟨wd, hw, he⟩ := wd_of k0 k1
    have gw := gr.each wd (List.mem_of_getElem? hw)
    obtain ⟨p, hp⟩ := List.exists_mem_of_length_pos (show 0 < wd.1.length from gw.one)
    rw [canN, List.all_eq_false]
    refine ⟨p, by rw [he]; exact hp, ?_⟩
    have pp := gw.pl p hp
    have hl := gt.len
    have hpn : p.toNat < tb.length := by omega
    have a := e.gk.at_ _ hpn
    rw [decide_eq_true_eq, lenAt, getD_of (firsts_get e.gk hpn), List.length_take]
    unfold atF
    omega⟩
  rw [z, es, ← e.fs]
/-- the run of a table that goes on -/
theorem run_longer {many hues : Int} {wds : List WD} {tb tb' : List (List Int)} {ord : List Int} {R R' : Res} {tk : List Int} (gr : GoodR many hues wds) (nd : ∀ wd ∈ wds, wd.1.Nodup) (gt : GoodT many hues tb) (gt' : GoodT many hues tb') (go : GoodO wds.length ord) (e : RunEnd many hues wds tb ord R tk) (hR' : runOf wds tb' ord = some R')
    (pre : ∀ p : Nat, p < tb.length → ∃ more, tb'.getD p [] = tb.getD p [] ++ more) : (R.1 = true → R' = R) ∧ ∃ more, R'.2.2 = R.2.2 ++ more := by
  have f : Fit many hues wds tb ord := ⟨gr, nd, gt.len, go⟩
  have hl := gt.len
  have hl' := gt'.len
  have ag : Agree tb tb' tk := by
    refine ⟨by omega, fun p hp => ?_, fun p hp => ?_⟩
    · obtain ⟨more, hm⟩ := pre p hp
      have a := e.gk.at_ p hp
      rw [hm, List.length_append]
      omega
    · obtain ⟨more, hm⟩ := pre p hp
      have a := e.gk.at_ p hp
      rw [hm, List.take_append_of_le_length (by omega)]
  have s' := steps_agree f e.st (zeros_good gt) ag
  have es : stand tb' tk = stand tb tk := ag.stand e.gk fun _ _ => Int.le_refl _
  rw [← ag.len] at s'
  refine ⟨fun b => ?_, ?_⟩
  · have z := runOf_of gr nd gt' go (b := R.1) s' ⟨fun b => by rw [es]; exact e.en.kept b, fun z => by rw [b] at z; cases z⟩
    rw [hR', es, ← e.fs] at z
    exact Option.some.inj z
  · obtain ⟨c, hc⟩ := steps_goR s'
    have a := goR_more _ _ _ c hR'
    rw [hc] at a
    obtain ⟨tkE, s2, _⟩ := goR_steps _ _ _ a
    exact steps_pre s2
end Dt

set_option Elab.async false
set_option linter.all false
set_option maxRecDepth 100000
set_option maxHeartbeats 4000000
namespace Rd
open PySem PySem.Spec PyProof.Rows L2 Dt
/-- a statement that is never come to -/
theorem ps_never {X : Cx} {st : Stmt} : PS X st (fun _ _ _ => False) := ⟨fun _ _ _ _ _ _ h => h.elim⟩
/-! ### lists within one that are changed -/
theorem paired_mod {H : Hp} {d : Addr} {l' : List Int} : ∀ {das : List Addr} {T : List (List Int)} {p : Nat}, Paired (IsInts H) das T → das.Nodup → das[p]? = some d → Paired (IsInts (upd H d (.lst (l'.map V.int)))) das (T.set p l')
  | _, _, p, .nil, _, h => by simp at h
  | a :: r, l :: q, 0, .cons h t, nd, e => by
    have ea : a = d := Option.some.inj e
    subst ea
    have nd2 := List.nodup_cons.mp nd
    exact .cons (by show upd H a _ a = _; exact upd_same) (paired_upd t fun x hx (z : x = a) => nd2.1 (by rw [← z]; exact hx))
  | a :: r, l :: q, p + 1, .cons h t, nd, e => by
    have nd2 := List.nodup_cons.mp nd
    have hm : d ∈ r := List.mem_of_getElem? (show r[p]? = some d from e)
    exact .cons (by show upd H d _ a = _; rw [upd_ne (fun z : a = d => nd2.1 (by rw [z]; exact hm))]; exact h) (paired_mod t nd2.2 e)
theorem paired_len_upd {H : Hp} {D : Addr} {o : HO} {das : List Addr} {T : List (List Int)} (p : Paired (IsInts H) das T) (n : D ∉ das) : Paired (IsInts (upd H D o)) das T := paired_upd p fun d hd (z : d = D) => n (by rw [← z]; exact hd)
/-- a new list of new lists, no two one -/
structure NewTab (H H' : Hp) (ta : Addr) (das : List Addr) (T : List (List Int)) : Prop where
  ht : H' ta = some (.lst (das.map V.ref))
  nt : H ta = none
  nd : das.Nodup
  new : ∀ d ∈ das, H d = none ∧ d ≠ ta
  pr : Paired (IsInts H') das T
theorem NewTab.tab {H H' : Hp} {ta : Addr} {das : List Addr} {T : List (List Int)} (h : NewTab H H' ta das T) : IsTab (Old H) H' ta T := ⟨das, h.ht, fun z => z h.nt, fun d hd z => z (h.new d hd).1, h.pr⟩
theorem NewTab.app {H H' : Hp} {ta : Addr} {das : List Addr} {T : List (List Int)} {p : Nat} {d : Addr} {l : List Int} {x : Int} (h : NewTab H H' ta das T) (hd : das[p]? = some d) (hl : T[p]? = some l) : NewTab H (upd H' d (.lst ((l ++ [x]).map V.int))) ta das (app1 T p x) := by
  have hm := List.mem_of_getElem? hd
  refine ⟨by rw [upd_ne (h.new d hm).2.symm]; exact h.ht, h.nt, h.nd, h.new, ?_⟩
  unfold app1
  rw [getD_of hl]
  exact paired_mod h.pr h.nd hd
theorem NewTab.mono {H H' H2 : Hp} {ta : Addr} {das : List Addr} {T : List (List Int)} (h : NewTab H H' ta das T) (s : Seqs H' H2) : NewTab H H2 ta das T := ⟨s.2 _ _ h.ht, h.nt, h.nd, h.new, pairedMap (fun _ _ e => s.2 _ _ e) h.pr⟩
/-! ### how long told draws are -/
theorem app1_le (T : List (List Int)) (p q : Nat) (h : Int) : ((app1 T p h).getD q []).length ≤ (T.getD q []).length + 1 := by
  rw [app1_get]
  split
  · rename_i e
    rw [e.1, List.length_append]
    exact Nat.le_refl _
  · omega
theorem appA_le : ∀ (ps row : List Int) (T : List (List Int)) (q : Nat), ((appA T ps row).getD q []).length ≤ (T.getD q []).length + ps.length
  | [], _, _, _ => Nat.le_refl _
  | _ :: _, [], _, _ => Nat.le_add_right _ _
  | p :: r, h :: s, T, q => by
    have a := appA_le r s (app1 T p.toNat h) q
    have b := app1_le T p.toNat q h
    show ((appA (app1 T p.toNat h) r s).getD q []).length ≤ _
    rw [List.length_cons]
    omega
theorem appA_snoc (T : List (List Int)) : ∀ {ps row : List Int} {j : Nat} {p h : Int}, ps[j]? = some p → row[j]? = some h → appA T (ps.take (j + 1)) (row.take (j + 1)) = app1 (appA T (ps.take j) (row.take j)) p.toNat h := by
  intro ps row j p h hp hh
  unfold appA
  have e : (ps.take (j + 1)).zip (row.take (j + 1)) = (ps.take j).zip (row.take j) ++ [(p, h)] := by
    rw [take_snoc hp, take_snoc hh]
    rw [List.zip_append]
    · rfl
    · rw [List.length_take, List.length_take]
      have a := (List.getElem?_eq_some_iff.mp hp).1
      have b := (List.getElem?_eq_some_iff.mp hh).1
      omega
  rw [e, List.foldl_append]
  rfl
theorem toldL_le {wds : List WD} (h3 : ∀ wd ∈ wds, wd.1.length ≤ 3) (n q : Nat) : ∀ log : Log, ((toldL wds n log).getD q []).length ≤ 3 * log.length := by
  have pl3 : ∀ k : Int, (plc wds k).length ≤ 3 := fun k => by
    unfold plc
    rw [List.getD_eq_getElem?_getD]
    cases e : wds[k.toNat]? with
    | none => simp
    | some wd => exact h3 wd (List.mem_of_getElem? e)
  have key : ∀ (log : Log) (T : List (List Int)), ((log.foldl (fun t e => appA t (plc wds e.1) e.2) T).getD q []).length ≤ (T.getD q []).length + 3 * log.length := by
    intro log
    induction log with
    | nil => intro T; exact Nat.le_refl _
    | cons e r ih =>
      intro T
      rw [List.foldl_cons, List.length_cons]
      have a := ih (appA T (plc wds e.1) e.2)
      have b := appA_le (plc wds e.1) e.2 T q
      have c := pl3 e.1
      omega
  intro log
  have a := key log (List.replicate n [])
  have b : ((List.replicate n ([] : List Int)).getD q []).length = 0 := by
    rw [List.getD_eq_getElem?_getD, List.getElem?_replicate]
    split <;> rfl
  unfold toldL
  omega
/-! ### logs looked at -/
def entB (wds : List WD) (x : Int × List Int) : Bool := decide (0 ≤ x.1 ∧ x.1 < (wds.length : Int) ∧ x.2 ∈ (wds.getD x.1.toNat ([], [])).2)
def logB (wds : List WD) (log : Log) : Bool := log.all (entB wds)
theorem logB_ok {wds : List WD} {log : Log} (h : logB wds log = true) : LogOk wds log := fun e he => by
  obtain ⟨h0, h1, h2⟩ := of_decide_eq_true (List.all_eq_true.mp h e he)
  have hk : e.1.toNat < wds.length := by omega
  rw [getD_get hk] at h2
  exact ⟨h0, h1, _, List.getElem?_eq_getElem hk, h2⟩
theorem logB_of {wds : List WD} {log : Log} (h : LogOk wds log) : logB wds log = true := List.all_eq_true.mpr fun e he => by
  obtain ⟨h0, h1, wd, hw, hr⟩ := h e he
  exact decide_eq_true ⟨h0, h1, by rw [getD_of hw]; exact hr⟩
theorem shaped_row (r : Dt.Row) : SeqAt.shaped (rowD r) = true := by
  have a : ∀ l : List Int, PyData.canLayAll0 (l.map .int) = true := Gv.canAll_ints
  have b : ∀ l : List Int, PyData.depthAll (l.map .int) ≤ 1 := fun l => by
    induction l with
    | nil => simp [PyData.depthAll]
    | cons x q ih => simp only [List.map_cons, PyData.depthAll, PyData.depth]; omega
  show ((rowD r).canLay0 && decide ((rowD r).depth ≤ 64)) = true
  have d : (rowD r).depth ≤ 64 := by
    unfold rowD
    simp only [PyData.depth]
    have := b r
    omega
  have c : (rowD r).canLay0 = true := by
    unfold rowD
    simp only [PyData.canLay0]
    exact a r
  rw [c, decide_eq_true d]
  rfl
theorem row_hue {many hues : Int} {wds : List WD} (gr : GoodR many hues wds) {log : Log} (h : LogOk wds log) : ∀ e ∈ log, ∀ z ∈ e.2, 0 ≤ z ∧ z < hues := fun e he z hz => by
  obtain ⟨_, _, wd, hw, hr⟩ := h e he
  exact ((gr.each wd (List.mem_of_getElem? hw)).row _ hr).2 z hz
theorem app1_all {Pz : Int → Prop} {T : List (List Int)} {p : Nat} {x : Int} (h : ∀ l ∈ T, ∀ z ∈ l, Pz z) (hx : Pz x) : ∀ l ∈ app1 T p x, ∀ z ∈ l, Pz z := fun l hl z hz => by
  rcases List.mem_or_eq_of_mem_set hl with e | e
  · exact h l e z hz
  · rw [e] at hz
    rcases List.mem_append.mp hz with q | q
    · by_cases hp : p < T.length
      · exact h _ (getD_mem (d := []) hp) z q
      · rw [List.getD_eq_getElem?_getD, List.getElem?_eq_none (by omega)] at q
        cases q
    · rw [List.mem_singleton.mp q]; exact hx
theorem appA_all {Pz : Int → Prop} : ∀ (ps row : List Int) (T : List (List Int)), (∀ l ∈ T, ∀ z ∈ l, Pz z) → (∀ z ∈ row, Pz z) → ∀ l ∈ appA T ps row, ∀ z ∈ l, Pz z
  | [], _, _, h, _ => h
  | _ :: _, [], _, h, _ => h
  | p :: r, x :: s, T, h, hr => appA_all r s (app1 T p.toNat x) (app1_all h (hr x List.mem_cons_self)) fun z hz => hr z (List.mem_cons_of_mem _ hz)
theorem toldL_all {Pz : Int → Prop} (wds : List WD) (n : Nat) : ∀ log : Log, (∀ e ∈ log, ∀ z ∈ e.2, Pz z) → ∀ l ∈ toldL wds n log, ∀ z ∈ l, Pz z := by
  have key : ∀ (log : Log) (T : List (List Int)), (∀ l ∈ T, ∀ z ∈ l, Pz z) → (∀ e ∈ log, ∀ z ∈ e.2, Pz z) → ∀ l ∈ log.foldl (fun t e => appA t (plc wds e.1) e.2) T, ∀ z ∈ l, Pz z := by
    intro log
    induction log with
    | nil => intro T h _; exact h
    | cons e r ih =>
      intro T h hl
      rw [List.foldl_cons]
      exact ih _ (appA_all _ _ _ h (hl e List.mem_cons_self)) fun x hx => hl x (List.mem_cons_of_mem _ hx)
  intro log h
  refine key log _ (fun l hl z hz => ?_) h
  rw [(List.mem_replicate.mp hl).2] at hz
  cases hz
theorem told_good {many hues : Int} {wds : List WD} (gr : GoodR many hues wds) {fs : List Int} {log : Log} (gf : GoodF many hues fs) (h : LogOk wds log) (few : ∀ ds ∈ toldT wds fs log, ds.length ≤ 1000) : GoodT many hues (toldT wds fs log) := by
  have each : ∀ ds ∈ toldT wds fs log, ∃ q, q < fs.length ∧ ds = (toldL wds fs.length log).getD q [] ++ [fs.getD q 0] := fun ds hd => by
    obtain ⟨i, hi, e⟩ := List.getElem_of_mem hd
    rw [toldT_len] at hi
    refine ⟨i, hi, ?_⟩
    rw [← toldT_get wds fs log hi, getD_get (by rw [toldT_len]; exact hi), e]
  refine ⟨by rw [toldT_len]; exact gf.len, fun ds hd => ?_, few, fun ds hd z hz => ?_⟩
  · obtain ⟨q, _, e⟩ := each ds hd
    rw [e, List.length_append]
    exact Nat.le_add_left _ _
  · obtain ⟨q, hq, e⟩ := each ds hd
    rw [e] at hz
    rcases List.mem_append.mp hz with y | y
    · have hq2 : q < (toldL wds fs.length log).length := by rw [toldL_len]; exact hq
      exact toldL_all (Pz := fun z => 0 ≤ z ∧ z < hues) wds _ log (row_hue gr h) _ (getD_mem hq2) z y
    · rw [List.mem_singleton.mp y]
      exact gf.hue _ (Dt.getD_mem hq)
/-! ### equality of what is told -/
theorem eqv_ent (x y : Int × List Int) : PyData.eqv (entD x) (entD y) = decide (x = y) := by
  obtain ⟨a, r⟩ := x
  obtain ⟨b, s⟩ := y
  unfold entD
  have e := eqv_row r s
  simp only [PyData.eqv, PyData.eqvAll, e, Bool.and_true]
  by_cases h : a = b
  · subst h
    by_cases h2 : r = s
    · subst h2; simp
    · simp [h2]
  · simp [h]
theorem eqvAll_ents : ∀ a b : Log, PyData.eqvAll (a.map entD) (b.map entD) = decide (a = b)
  | [], [] => by simp [PyData.eqvAll]
  | [], _ :: _ => by simp [PyData.eqvAll]
  | _ :: _, [] => by simp [PyData.eqvAll]
  | x :: r, y :: q => by
    simp only [List.map_cons, PyData.eqvAll, eqv_ent, eqvAll_ents r q]
    by_cases h : x = y
    · subst h; simp
    · simp [h]
theorem eqv_log (a b : Log) : PyData.eqv (logD a) (logD b) = decide (a = b) := by
  unfold logD
  rw [PyData.eqv]
  exact eqvAll_ents a b
theorem eqv_endS (a b : Bool) : PyData.eqv (.str (endS a)) (.str (endS b)) = decide (a = b) := by
  cases a <;> cases b <;> decide +kernel
theorem eqv_res (R S : Res) : PyData.eqv (resD R) (resD S) = decide (R = S) := by
  obtain ⟨a, f, l⟩ := R
  obtain ⟨b, g, m⟩ := S
  unfold resD
  have e1 := eqv_endS a b
  have e2 := eqv_row f g
  have e3 := eqv_log l m
  rw [PyData.eqv]
  simp only [PyData.eqvAll, e1, e2, e3, Bool.and_true]
  by_cases h1 : a = b
  · by_cases h2 : f = g
    · by_cases h3 : l = m
      · subst h1; subst h2; subst h3; simp
      · simp [h3]
    · simp [h2]
  · simp [h1]
def isRunB (wds : List WD) (ord : List Int) (b : Bool) (fs : List Int) (log : Log) : Bool := logB wds log && decide (runOf wds (toldT wds fs log) ord = some (b, fs, log))
/-! ### frames but for the tape and some tables -/
structure FrT (tp : Addr) (Ps : List Addr) (H H' : Hp) : Prop where
  keep : ∀ b o, b ≠ tp → b ∉ Ps → H b = some o → H' b = some o
  tape : Tape H' tp
  tabs : Tabs Ps H'
theorem FrT.frs {tp : Addr} {Ps : List Addr} {H H' : Hp} (t : Tape H tp) (tt : Tabs Ps H) (f : FrS Ps H H') : FrT tp Ps H H' := ⟨fun b o _ n e => f.1 b o n e, t.seqs (f.seqs tt), f.2⟩
theorem FrT.taped {tp : Addr} {Ps : List Addr} {H H' : Hp} (t : Tape H tp) (tt : Tabs Ps H) (f : Taped tp H H') : FrT tp Ps H H' := ⟨fun b o n _ e => f.1 b o n e, f.2, f.tabs t tt⟩
theorem FrT.trans {tp : Addr} {Ps : List Addr} {H H1 H2 : Hp} (a : FrT tp Ps H H1) (b : FrT tp Ps H1 H2) : FrT tp Ps H H2 := ⟨fun x o n m e => b.keep x o n m (a.keep x o n m e), b.tape, b.tabs⟩
theorem FrT.refl {tp : Addr} {Ps : List Addr} {H : Hp} (t : Tape H tp) (tt : Tabs Ps H) : FrT tp Ps H H := ⟨fun _ _ _ _ e => e, t, tt⟩
theorem FrT.same {tp : Addr} {Ps : List Addr} {H H1 H2 : Hp} (a : FrT tp Ps H H1) (s : Same H1 H2) : FrT tp Ps H H2 := ⟨fun x o n m e => s _ _ (a.keep x o n m e), a.tape.same s, a.tabs.same s⟩
theorem FrT.put {tp : Addr} {Ps : List Addr} {H H1 : Hp} {b : Addr} {o : HO} (a : FrT tp Ps H H1) (n : H b = none) (nt : b ≠ tp) (np : b ∉ Ps) : FrT tp Ps H (upd H1 b o) := ⟨fun x u m k e => by rw [upd_ne (ne_of_none e n)]; exact a.keep x u m k e, a.tape.put nt, a.tabs.put np⟩
theorem FrT.tups {tp : Addr} {Ps : List Addr} {H H' : Hp} (t : Tape H tp) (tt : Tabs Ps H) (f : FrT tp Ps H H') : Tups H H' := fun b xs e => f.keep b _ (fun z => by
  obtain ⟨_, _, h1, _⟩ := t
  rw [z, h1] at e
  cases e) (tt.tup e) e
theorem FrT.lst {tp : Addr} {Ps : List Addr} {H H' : Hp} (tt : Tabs Ps H) (f : FrT tp Ps H H') {b : Addr} {xs : List V} (n : b ≠ tp) (e : H b = some (.lst xs)) : H' b = some (.lst xs) := f.keep b _ n (tt.lst e) e
theorem FrT.free {tp : Addr} {Ps : List Addr} {H H' : Hp} {b : Addr} (f : FrT tp Ps H H') (h : H' b = none) : H b = none := by
  cases e : H b with
  | none => rfl
  | some o =>
    have h1 := f.tape.new h
    have h2 := f.tabs.new h
    rw [f.keep b o h1 h2 e] at h
    cases h
theorem LI.frt {K : PySem.W.Frag} {a : Addr} {xs : List V} {Ps : List Addr} {tp : Addr} {H H' : Hp} (h : LI K a xs Ps tp H) (f : FrT tp Ps H H') : LI K a xs Ps tp H' := by
  refine ⟨f.tape, f.tabs, ?_, h.far⟩
  by_cases e : a = tp
  · exact h.far e H'
  · rcases h.scr with (z | ⟨o, z⟩) | z
    · exact .inl (.inl (f.lst h.tabs e z))
    · exact .inl (.inr ⟨o, f.keep a _ e (fun y => by obtain ⟨ps, q, _⟩ := h.tabs a y; rw [z] at q; cases q) z⟩)
    · exact .inr z
theorem IsTab.frt {tp : Addr} {Ps : List Addr} {H H' : Hp} {ta : Addr} {tb : List (List Int)} (h : IsTab (· = tp) H ta tb) (tt : Tabs Ps H) (f : FrT tp Ps H H') : IsTab (· = tp) H' ta tb := h.mono fun b xs n e => f.lst tt n e
/-- a list of the items of two lists -/
theorem lc_zipL {K : PySem.W.Frag} {a b : Addr} {xs ys : List V} {g : TG} {tt : TT} {te : TE} {vs : List Nat} {σ : L2.St} {H1 : Hp} {D : Addr} {Qd : Hp → Prop} (hl : xs.length = ys.length) (Pv : Nat → Hp → Prop) (h0 : Pv 0 (upd H1 D (.lst []))) (hq : ∀ i H, Pv i H → SqL K H a xs ∧ SqL K H b ys)
    (hs : ∀ i x y T H, xs[i]? = some x → ys[i]? = some y → Pv i H → H T = none → g (.ref T) (wipe σ vs) (upd H T (.tup [x, y])) fun σ2 H2 => wipe σ2 vs = wipe σ vs ∧ tt σ2 H2 fun b H3 =>
      if b = true then te σ2 H3 fun y H4 => ∃ acc, H4 D = some (.lst acc) ∧ acc.length < sizeLine ∧ Pv (i + 1) (upd H4 D (.lst (acc ++ [y]))) else Pv (i + 1) H3) (hd : ∀ H, Pv xs.length H → Qd H) :
    ∃ W : Nat → Nat → Hp → Prop, (∃ m, W 0 m (upd H1 D (.lst []))) ∧ ∀ i m H, W i m H →
      ((Itz K a b).stop i H ∧ Qd H) ∨ ((Itz K a b).go i H ∧ ∃ Nx : Hp → Prop, (∀ H', Nx H' → ∃ m', m' < m ∧ W (i + 1) m' H') ∧ ∀ x H', (Itz K a b).yld i H x H' → g x (wipe σ vs) H' fun σ2 H2 => wipe σ2 vs = wipe σ vs ∧ tt σ2 H2 fun b H3 =>
        if b = true then te σ2 H3 fun y H4 => ∃ acc, H4 D = some (.lst acc) ∧ acc.length < sizeLine ∧ Nx (upd H4 D (.lst (acc ++ [y]))) else Nx H3) := by
  refine ⟨fun i m H => m = xs.length - i ∧ i ≤ xs.length ∧ Pv i H, ⟨xs.length, by simp, Nat.zero_le _, h0⟩, ?_⟩
  rintro i m H ⟨rfl, hi, p⟩
  obtain ⟨qx, qy⟩ := hq i H p
  by_cases hlt : i < xs.length
  · have hx : xs[i]? = some xs[i] := List.getElem?_eq_getElem hlt
    have hlt2 : i < ys.length := by omega
    have hy : ys[i]? = some ys[i] := List.getElem?_eq_getElem hlt2
    refine .inr ⟨⟨xs, ys, _, _, qx, qy, hx, hy⟩, Pv (i + 1), fun H' p' => ⟨xs.length - (i + 1), by omega, rfl, hlt, p'⟩, fun v H' y => ?_⟩
    obtain ⟨T, x', y', rfl, hT, rfl, f1, f2⟩ := y
    exact hs i x' y' T H (f1 xs qx) (f2 ys qy) p hT
  · have e : i = xs.length := by omega
    subst e
    exact .inl ⟨⟨xs, ys, qx, qy, Or.inl (Nat.le_refl _)⟩, hd H p⟩
theorem pairedTake {α β : Type} {F : α → β → Prop} : ∀ {l : List α} {m : List β} (n : Nat), Paired F l m → Paired F (l.take n) (m.take n)
  | _, _, 0, _ => by rw [List.take_zero, List.take_zero]; exact .nil
  | _, _, _ + 1, .nil => .nil
  | _, _, n + 1, .cons h t => .cons h (pairedTake n t)
theorem pairedDrop {α β : Type} {F : α → β → Prop} : ∀ {l : List α} {m : List β} (n : Nat), Paired F l m → Paired F (l.drop n) (m.drop n)
  | _, _, 0, h => h
  | _, _, _ + 1, .nil => .nil
  | _, _, n + 1, .cons _ t => pairedDrop n t
end Rd

set_option Elab.async false
set_option linter.all false
set_option maxRecDepth 100000
set_option maxHeartbeats 4000000
/-! a tuple times an int from 1 on -/
namespace L2
open PySem PySem.Spec PyProof.Rows
theorem tuple_mul1 (l : Addr) (items : Array Value) (n : Nat) (sl : Array (Option Value)) (dd : Option Addr) (u : Tok) :
    Meets (Builtin.«tuple.__mul__» ⟨[.ref l, .int 1 u], []⟩) (fun _ R s => s.heap.get? l = some { cls := .type "tuple", dict := dd, data := .seq items n, slots := sl } ∧ R (.ok (.ret (Value.ref l))) s) :=
  .of_wp fun prog w A R s h => by
    obtain ⟨hp, g, d, tk, os⟩ := s
    obtain ⟨hl, h⟩ := h
    have f1 := AutoSeq1.idx_int
    have c1 : (items.isEmpty || (1 : Int) == 1) = true := by simp
    wp_walk using wpAny_loadPart' hl
    repeat (first
      | (refine wpAny_ite_false (decide_eq_false (by decide)) ?_; wp_walk using wpAny_loadPart' hl)
      | (refine wpAny_ite_true (decide_eq_true (by rw [c1])) ?_; wp_walk using wpAny_loadPart' hl))
    exact ⟨_, rfl, h⟩
def rRep1 (K : PySem.W.Frag) : R2 := fun x y H Q => ∃ l xs, x = .ref l ∧ y = .int 1 ∧ SqT K H l xs ∧ Q (.ref l) H
theorem op_rep1 {X : Cx} : OpR X (binaryOp .Mult) (rRep1 X.K) := by
  intro pins s σ H x y v u Q I rx ry h
  obtain ⟨l, xs, rfl, rfl, hT, q⟩ := h
  cases rx
  obtain ⟨t, rfl⟩ := ry
  obtain ⟨its, r, ⟨⟨cls, dd, data, sl⟩, ho, hc, n, hd⟩, hs⟩ := I.tuple hT
  simp only at hc hd
  subst hc hd
  refine wpAny_binaryOp_repeat_ref (T := "tuple") (U := "int") (by decide) ⟨_, ho, rfl⟩ (fun s' => typeIs_int s' 1 t) noFill_tuple_mul F.fills_int_mul F.slot_int_rmul repeat_tuple F.slot_int_index.lookup
    (call_meets F.slot_int_rmul (typeIs_int s 1 t) F.entry_int_rmul (F.args_int_rmul_2 _ _) (int_rmul_tuple 1 t l its.toArray n dd sl)
      ⟨ho, rfl, ⟨_, ho, rfl⟩, call_meets F.slot_tuple_mul ⟨_, ho, rfl⟩ F.entry_tuple_mul (F.args_tuple_mul_2 _ _) (tuple_mul1 l its.toArray n sl dd t) ⟨ho, ?_⟩⟩)
  exact ⟨.ref l, H, I, rfl, q⟩
def rRepU (K : PySem.W.Frag) : R2 := fun x y H Q => rRepT K x y H Q ∨ rRep1 K x y H Q
theorem op_repU {X : Cx} : OpR X (binaryOp .Mult) (rRepU X.K) := OpR.or op_repT op_rep1
end L2

set_option Elab.async false
set_option linter.all false
set_option maxRecDepth 100000
set_option maxHeartbeats 4000000
/-! what an expression comes to, while the tape is drawn from -/
namespace Rd
open PySem PySem.Spec PyProof.Rows L2 Dt
def Tr (tp : Addr) (te : TE) (σ : L2.St) (H : Hp) (Φ : V → Hp → Prop) : Prop := ∀ Q : VK, (∀ v H', Taped tp H H' → Φ v H' → Q v H') → te σ H Q
def TrO (tp : Addr) (t : TO) (σ : L2.St) (H : Hp) : Prop := ∀ Q : Option Int → Hp → Prop, (∀ o H', Taped tp H H' → Q o H') → t σ H Q
/-- what stays while the tape is drawn from -/
def Stays (tp : Addr) (Φ : V → Hp → Prop) : Prop := ∀ v H H', Tape H tp → Taped tp H H' → Φ v H → Φ v H'
theorem tr_var {tp : Addr} {i : Nat} {σ : L2.St} {H : Hp} {Φ : V → Hp → Prop} {v : V} (t : Tape H tp) (h : σ[i]? = some (some v)) (p : Φ v H) : Tr tp (tVar i) σ H Φ := fun Q k => ⟨v, h, k v H (Taped.refl t) p⟩
theorem tr_c {tp : Addr} {v : V} {σ : L2.St} {H : Hp} {Φ : V → Hp → Prop} (t : Tape H tp) (p : Φ v H) : Tr tp (tC v) σ H Φ := fun Q k => k v H (Taped.refl t) p
theorem tr_mono {tp : Addr} {te : TE} {σ : L2.St} {H : Hp} {Φ Ψ : V → Hp → Prop} (h : Tr tp te σ H Φ) (k : ∀ v H', Taped tp H H' → Φ v H' → Ψ v H') : Tr tp te σ H Ψ := fun Q q => h Q fun v H' d p => q v H' d (k v H' d p)
theorem seq_tr {tp : Addr} {te : TE} {i : Nat} {u : TS} {D : Ends} {σ : L2.St} {H : Hp} {Φ : V → Hp → Prop} (h : Tr tp te σ H Φ) (k : ∀ v H', Taped tp H H' → Φ v H' → u D (σ.set i (some v)) H') : tSeq (tAsg te (gName i)) u D σ H := h _ k
theorem seq_trg {tp : Addr} {te : TE} {g : TG} {u : TS} {D : Ends} {σ : L2.St} {H : Hp} {Φ : V → Hp → Prop} (h : Tr tp te σ H Φ) (k : ∀ v H', Taped tp H H' → Φ v H' → g v σ H' (u D)) : tSeq (tAsg te g) u D σ H := h _ k
theorem ret_tr {tp : Addr} {te : TE} {D : Ends} {σ : L2.St} {H : Hp} {Φ : V → Hp → Prop} (h : Tr tp te σ H Φ) (k : ∀ v H', Taped tp H H' → Φ v H' → D.rt v H') : tRet te D σ H := h _ k
/-! ### ints -/
def isI : V → Hp → Prop := fun v _ => ∃ i, v = .int i
theorem tr_add {tp : Addr} {ta tb : TE} {σ : L2.St} {H : Hp} (a : Tr tp ta σ H isI) (b : ∀ H1, Taped tp H H1 → Tr tp tb σ H1 isI) : Tr tp (tOp (rI0 fun i j => .int (i + j)) ta tb) σ H isI := fun Q k => a _ fun x H1 d1 ⟨i, e1⟩ => b H1 d1 _ fun y H2 d2 ⟨j, e2⟩ => ⟨i, j, e1, e2, k _ _ (d1.trans d2) ⟨_, rfl⟩⟩
theorem tro_none {tp : Addr} {σ : L2.St} {H : Hp} (t : Tape H tp) : TrO tp tNoPart σ H := fun Q k => k none H (Taped.refl t)
theorem tro_some {tp : Addr} {te : TE} {σ : L2.St} {H : Hp} (a : Tr tp te σ H isI) : TrO tp (tPart te) σ H := fun Q k => a _ fun x H1 d ⟨i, e⟩ => ⟨i, e, k _ _ d⟩
theorem tr_dig {tp : Addr} {ta tb : TE} {sp : Sp} {σ : L2.St} {H : Hp} {lo hi : Int} (hsp : ∀ (Hx : Hp) (Q : VK) (E : XK) (m : Int), Tape Hx tp → lo ≤ m → m ≤ hi → (∀ H' d, Taped tp Hx H' → 0 ≤ d → d < m → Q (.int d) H') → sp [.ref tp, .int m] Hx Q E)
    (a : Tr tp ta σ H fun v _ => v = .ref tp) (b : ∀ H1, Taped tp H H1 → Tr tp tb σ H1 fun v _ => ∃ m, v = .int m ∧ lo ≤ m ∧ m ≤ hi) : Tr tp (tCall sp [] E0 (tCons ta (tCons tb tNil))) σ H fun v _ => ∃ d, v = .int d ∧ 0 ≤ d ∧ d < hi := fun Q k => a _ fun x H1 d1 e1 => b H1 d1 _ fun y H2 d2 ⟨m, e2, l1, l2⟩ => by
  subst e1
  subst e2
  exact hsp H2 _ _ m d2.2 l1 l2 fun H' d d3 d0 dm => k _ _ ((d1.trans d2).trans d3) ⟨d, rfl, d0, by omega⟩
/-! ### lists of pairs -/
structure EntW (x : Int × List Int) : Prop where
  num : x.1.natAbs < 10 ^ 31
  few : x.2.length ≤ 10
  hue : ∀ z ∈ x.2, -10 < z ∧ z < 10
def WEnt (H : Hp) (e : Addr) : Prop := ∃ x, IsEnt H e x ∧ EntW x
theorem WEnt.mono {H H' : Hp} {e : Addr} (h : WEnt H e) (t : Tups H H') : WEnt H' e := let ⟨x, a, b⟩ := h; ⟨x, a.mono t, b⟩
/-- a list of pairs, not the tape -/
def EntL (tp : Addr) (n : Nat) : V → Hp → Prop := fun v H => ∃ (l : Addr) (es : List Addr), v = .ref l ∧ l ≠ tp ∧ H l = some (.lst (es.map V.ref)) ∧ es.length ≤ n ∧ ∀ e ∈ es, WEnt H e
theorem entL_stays (tp : Addr) (n : Nat) : Stays tp (EntL tp n) := fun v H H' t f ⟨l, es, h1, h2, h3, h4, h5⟩ => ⟨l, es, h1, h2, f.1 _ _ h2 h3, h4, fun e he => (h5 e he).mono (f.tups t)⟩
theorem EntL.up {tp : Addr} {n m : Nat} {v : V} {H : Hp} (h : EntL tp n v H) (k : n ≤ m) : EntL tp m v H := let ⟨l, es, h1, h2, h3, h4, h5⟩ := h; ⟨l, es, h1, h2, h3, Nat.le_trans h4 k, h5⟩
theorem cut_mem {α : Type} {f : α → V} {l : List α} {lo hi : Option Int} : ∃ l' : List α, cutV (l.map f) lo hi = l'.map f ∧ l'.length ≤ l.length ∧ ∀ x ∈ l', x ∈ l := by
  unfold cutV
  refine ⟨(l.drop (HT.sIx (l.map f).length 0 lo)).take (HT.sIx (l.map f).length (l.map f).length hi - HT.sIx (l.map f).length 0 lo), by rw [List.map_take, List.map_drop], ?_, fun x hx => List.mem_of_mem_drop (List.mem_of_mem_take hx)⟩
  rw [List.length_take, List.length_drop]
  omega
theorem tr_sl {K : PySem.W.Frag} {tp : Addr} {ta : TE} {tl th : TO} {σ : L2.St} {H : Hp} {n : Nat} (t : Tape H tp) (a : Tr tp ta σ H (EntL tp n)) (b : ∀ H1, Taped tp H H1 → TrO tp tl σ H1) (c : ∀ H1, Taped tp H H1 → TrO tp th σ H1) : Tr tp (tSl (rSlL K) ta tl th) σ H (EntL tp n) := fun Q k => a _ fun x H1 d1 p1 => b H1 d1 _ fun lo H2 d2 => c H2 (d1.trans d2) _ fun hi H3 d3 => by
  obtain ⟨l, es, rfl, h2, h3, h4, h5⟩ := entL_stays tp n x H1 H3 d1.2 (d2.trans d3) p1
  obtain ⟨es', e1, e2, e3⟩ := cut_mem (f := V.ref) (l := es) (lo := lo) (hi := hi)
  refine ⟨l, _, rfl, .inl (.inl h3), fun p np => ?_⟩
  rw [e1]
  have sp := same_upd (o := .lst (es'.map V.ref)) np
  exact k _ _ ((d1.trans (d2.trans d3)).same sp) ⟨p, es', rfl, d3.2.new np, upd_same, by omega, fun e he => (h5 e (e3 e he)).mono (tups_same sp)⟩
theorem tr_rev {K : PySem.W.Frag} {tp : Addr} {ta : TE} {σ : L2.St} {H : Hp} {n : Nat} (a : Tr tp ta σ H (EntL tp n)) : Tr tp (tRevL K ta) σ H (EntL tp n) := fun Q k => a _ fun x H1 d1 p1 => by
  obtain ⟨l, es, rfl, h2, h3, h4, h5⟩ := p1
  refine ⟨l, _, rfl, .inl (.inl h3), fun p np => ?_⟩
  rw [← List.map_reverse]
  have sp := same_upd (o := .lst (es.reverse.map V.ref)) np
  exact k _ _ (d1.same sp) ⟨p, es.reverse, rfl, d1.2.new np, upd_same, by rw [List.length_reverse]; exact h4, fun e he => (h5 e (List.mem_reverse.mp he)).mono (tups_same sp)⟩
theorem tr_cat {tp : Addr} {ta tb : TE} {σ : L2.St} {H : Hp} {n m : Nat} (hn : n + m ≤ 1000) (a : Tr tp ta σ H (EntL tp n)) (b : ∀ H1, Taped tp H H1 → Tr tp tb σ H1 (EntL tp m)) : Tr tp (tOp rCat ta tb) σ H (EntL tp (n + m)) := fun Q k => a _ fun x H1 d1 p1 => b H1 d1 _ fun y H2 d2 p2 => by
  obtain ⟨l, es, rfl, h2, h3, h4, h5⟩ := entL_stays tp n x H1 H2 d1.2 d2 p1
  obtain ⟨l', es', rfl, g2, g3, g4, g5⟩ := p2
  refine ⟨l, l', _, _, rfl, rfl, h3, g3, by rw [List.length_map, List.length_map]; exact Nat.le_of_lt (small1000 (by omega)), fun p np => ?_⟩
  rw [← List.map_append]
  have sp := same_upd (o := .lst ((es ++ es').map V.ref)) np
  refine k _ _ ((d1.trans d2).same sp) ⟨p, es ++ es', rfl, d2.2.new np, upd_same, by rw [List.length_append]; omega, fun e he => ?_⟩
  rcases List.mem_append.mp he with q | q
  · exact (h5 e q).mono (tups_same sp)
  · exact (g5 e q).mono (tups_same sp)
/-- a row that may stand in a pair -/
def RowW : V → Hp → Prop := fun v H => ∃ (r : Addr) (row : List Int), v = .ref r ∧ IsRow H r row ∧ row.length ≤ 10 ∧ ∀ z ∈ row, -10 < z ∧ z < 10
theorem rowW_stays (tp : Addr) : Stays tp RowW := fun v H H' t f ⟨r, row, h1, h2, h3⟩ => ⟨r, row, h1, f.tups t _ _ h2, h3⟩
def numW : V → Hp → Prop := fun v _ => ∃ i, v = .int i ∧ i.natAbs < 10 ^ 31
theorem tr_pair {tp : Addr} {ta tb : TE} {σ : L2.St} {H : Hp} (a : Tr tp ta σ H numW) (b : ∀ H1, Taped tp H H1 → Tr tp tb σ H1 RowW) : Tr tp (tTup (tCons ta (tCons tb tNil))) σ H fun v H' => ∃ e, v = .ref e ∧ WEnt H' e := fun Q k => a _ fun x H1 d1 ⟨i, e1, hi⟩ => b H1 d1 _ fun y H2 d2 ⟨r, row, e2, h2, h3, h4⟩ => by
  subst e1
  subst e2
  refine ⟨(by show 2 ≤ sizeLine; decide), fun t nt => ?_⟩
  have st := same_upd (o := .tup [.int i, .ref r]) nt
  exact k _ _ ((d1.trans d2).same st) ⟨t, rfl, (i, row), ⟨r, upd_same, st _ _ h2⟩, ⟨hi, h3, h4⟩⟩
theorem tr_one {tp : Addr} {ta : TE} {σ : L2.St} {H : Hp} (a : Tr tp ta σ H fun v H' => ∃ e, v = .ref e ∧ WEnt H' e) : Tr tp (tLst (tCons ta tNil)) σ H (EntL tp 1) := fun Q k => a _ fun x H1 d1 ⟨e, e1, w⟩ => by
  subst e1
  refine ⟨(by show 1 ≤ sizeLine; decide), fun l nl => ?_⟩
  have st := same_upd (o := .lst [.ref e]) nl
  refine k _ _ (d1.same st) ⟨l, [e], rfl, d1.2.new nl, upd_same, Nat.le_refl _, fun b hb => ?_⟩
  rw [List.mem_singleton.mp hb]
  exact w.mono (tups_same st)
/-! ### wide data -/
structure FineW (d : PyData) (n w : Nat) : Prop where
  lay : d.canLay0 = true
  dep : d.depth ≤ n
  wei : d.weight ≤ w
  sho : d.showable = true
  noD : d.hasDict = false
  sh : d.intsShort 40 = true
structure FineWA (ds : List PyData) (n w : Nat) : Prop where
  lay : PyData.canLayAll0 ds = true
  dep : PyData.depthAll ds ≤ n
  wei : PyData.weightAll ds ≤ w
  sho : PyData.showableAll ds = true
  noD : PyData.hasDictAll ds = false
  sh : PyData.intsShortAll 40 ds = true
theorem FineWA.nil (n : Nat) : FineWA [] n 0 := ⟨rfl, Nat.zero_le _, Nat.le_refl _, rfl, rfl, rfl⟩
theorem FineWA.cons {d : PyData} {ds : List PyData} {n w u : Nat} (h : FineW d n w) (t : FineWA ds n u) : FineWA (d :: ds) n (w + 1 + u) := by
  refine ⟨?_, ?_, ?_, ?_, ?_, ?_⟩
  · simp only [PyData.canLayAll0, h.lay, t.lay, Bool.and_self]
  · have a := h.dep
    have b := t.dep
    simp only [PyData.depthAll]
    omega
  · have a := h.wei
    have b := t.wei
    simp only [PyData.weightAll]
    omega
  · simp only [PyData.showableAll, h.sho, t.sho, Bool.and_self]
  · simp only [PyData.hasDictAll, h.noD, t.noD, Bool.or_self]
  · simp only [PyData.intsShortAll, h.sh, t.sh, Bool.and_self]
theorem FineW.tuple {ds : List PyData} {n w : Nat} (t : FineWA ds n w) : FineW (.tuple ds) (n + 1) w := by
  refine ⟨by simp only [PyData.canLay0]; exact t.lay, ?_, by simp only [PyData.weight]; exact t.wei, by simp only [PyData.showable]; exact t.sho, by simp only [PyData.hasDict]; exact t.noD, by simp only [PyData.intsShort]; exact t.sh⟩
  have a := t.dep
  simp only [PyData.depth]
  omega
theorem FineW.list {ds : List PyData} {n w : Nat} (t : FineWA ds n w) : FineW (.list ds) (n + 1) w := by
  refine ⟨by simp only [PyData.canLay0]; exact t.lay, ?_, by simp only [PyData.weight]; exact t.wei, by simp only [PyData.showable]; exact t.sho, by simp only [PyData.hasDict]; exact t.noD, by simp only [PyData.intsShort]; exact t.sh⟩
  have a := t.dep
  simp only [PyData.depth]
  omega
theorem FineW.mono {d : PyData} {n w n' w' : Nat} (h : FineW d n w) (a : n ≤ n') (b : w ≤ w') : FineW d n' w' := ⟨h.lay, Nat.le_trans h.dep a, Nat.le_trans h.wei b, h.sho, h.noD, h.sh⟩
theorem fineWA_map {α : Type} {f : α → PyData} {n w : Nat} : ∀ (l : List α), (∀ x ∈ l, FineW (f x) n w) → FineWA (l.map f) n (l.length * (w + 1))
  | [], _ => by
    have z := FineWA.nil n
    exact ⟨z.lay, z.dep, Nat.le_trans z.wei (Nat.zero_le _), z.sho, z.noD, z.sh⟩
  | x :: r, h => by
    have t := fineWA_map r fun y hy => h y (List.mem_cons_of_mem _ hy)
    have z := FineWA.cons (h x List.mem_cons_self) t
    refine ⟨z.lay, z.dep, ?_, z.sho, z.noD, z.sh⟩
    have := z.wei
    rw [List.length_cons, Nat.succ_mul]
    show PyData.weightAll (f x :: r.map f) ≤ _
    omega
theorem fineW_int {i : Int} (h : i.natAbs < 10 ^ 31) : FineW (.int i) 1 110 := by
  have hl : i.natAbs.log2 ≤ 102 := by
    by_cases e : i.natAbs = 0
    · rw [e]; decide
    · have := (Nat.log2_lt e).mpr (show i.natAbs < 2 ^ 103 from Nat.lt_trans h (by decide))
      omega
  refine ⟨rfl, by simp [PyData.depth], ?_, ?_, rfl, ?_⟩
  · simp only [PyData.weight]
    split <;> omega
  · simp only [PyData.showable]
    exact decide_eq_true (by omega)
  · have e := PySem.int_text_length_le10 (k := 31) (by decide) h
    show decide ((Str.ofString (toString i)).length ≤ 40) = true
    rw [PySem.ofString_length]
    exact decide_eq_true (by omega)
theorem fineW_small {i : Int} (h0 : -100 < i) (h1 : i < 100) : FineW (.int i) 1 110 := fineW_int (Nat.lt_trans (show i.natAbs < 100 by omega) (by decide))
theorem fineW_row {r : List Int} (h : ∀ z ∈ r, -100 < z ∧ z < 100) : FineW (rowD r) 2 (r.length * 111) := FineW.tuple (fineWA_map r fun z hz => fineW_small (h z hz).1 (h z hz).2)
theorem fineW_ent {x : Int × List Int} (h : EntW x) : FineW (entD x) 3 1400 := by
  have a := fineW_int h.num
  have b : FineW (rowD x.2) 2 1110 := (fineW_row fun z hz => by have := h.hue z hz; omega).mono (Nat.le_refl _) (by have := h.few; omega)
  exact (FineW.tuple (FineWA.cons (a.mono (by omega) (Nat.le_refl _)) (FineWA.cons b (FineWA.nil _)))).mono (Nat.le_refl _) (by omega)
theorem fineW_log {log : Log} (h : ∀ e ∈ log, EntW e) (hl : log.length ≤ 200) : FineW (logD log) 4 290000 :=
  (FineW.list (fineWA_map log fun x hx => fineW_ent (h x hx))).mono (Nat.le_refl _) (by omega)
theorem FineW.shows {d : PyData} {n w : Nat} (h : FineW d n w) (hw : w ≤ 380000) : d.shown.length ≤ sizeLine := by
  have a := PyData.shown_le 40 (by decide) d (PyData.leavesShort_of_canLay0 40 d h.lay h.sh)
  have b := h.wei
  have c : (40 + 2) * d.weight + 40 ≤ 16000000 := by omega
  exact Nat.le_trans a (Nat.le_trans c (by decide))
theorem FineW.shaped {d : PyData} {n w : Nat} (h : FineW d n w) (hn : n ≤ 64) : SeqAt.shaped d = true := by
  show (d.canLay0 && decide (d.depth ≤ 64)) = true
  rw [h.lay, decide_eq_true (Nat.le_trans h.dep hn)]
  rfl
/-- the log that a list of pairs is -/
theorem entL_log {H : Hp} : ∀ {es : List Addr}, (∀ e ∈ es, WEnt H e) → ∃ log : Log, Paired (IsEnt H) es log ∧ ∀ x ∈ log, EntW x
  | [], _ => ⟨[], .nil, fun _ h => nomatch h⟩
  | e :: r, h => by
    obtain ⟨x, a, b⟩ := h e List.mem_cons_self
    obtain ⟨log, c, d⟩ := entL_log (es := r) fun y hy => h y (List.mem_cons_of_mem _ hy)
    refine ⟨x :: log, .cons a c, fun y hy => ?_⟩
    rcases List.mem_cons.mp hy with z | z
    · rw [z]; exact b
    · exact d y z
end Rd
namespace Rd
open PySem PySem.Spec PyProof.Rows L2 Dt
def rNotInT (K : PySem.W.Frag) : R2 := fun x y H Q => ∃ d ds, Dp K H x d ∧ Dp K H y (.tuple ds) ∧ SeqAt.shaped d = true ∧ SeqAt.shaped (.tuple ds) = true ∧ Q (.bl (!ds.any fun z => PyData.eqv z d)) H
theorem op_notInT {X : Cx} (hu : X.A.units + 65 < cLine) : OpR X (compareOp .NotIn) (rNotInT X.K) := by
  intro pins s σ H x y v u Q I rx ry h
  obtain ⟨d, ds, hd, he, sd, se, q⟩ := h
  obtain ⟨as, r1⟩ := Dp.reads I d x v hd rx
  obtain ⟨bs, r2⟩ := Dp.reads I (.tuple ds) y u he ry
  exact SeqAt.notIn_tuple_reads r2 r1 (SeqAt.canLay_of_shaped se) (SeqAt.canLay_of_shaped sd) (room_in_shaped sd hu) ⟨.bl _, H, I, rfl, q⟩
end Rd
namespace Rd
open PySem PySem.Spec PyProof.Rows L2 Dt
theorem one_tr {tp : Addr} {te : TE} {σ : L2.St} {H : Hp} {Φ : V → Hp → Prop} {Q : List V → Hp → Prop} (h : Tr tp te σ H Φ) (k : ∀ v H', Taped tp H H' → Φ v H' → Q [v] H') : tCons te tNil σ H Q := h _ k
/-- a new list of pairs -/
def EntN (tp : Addr) (n : Nat) (H0 : Hp) : V → Hp → Prop := fun v H => EntL tp n v H ∧ ∃ l, v = .ref l ∧ H0 l = none
theorem tr_catN {tp : Addr} {ta tb : TE} {σ : L2.St} {H : Hp} {n m : Nat} (hn : n + m ≤ 1000) (a : Tr tp ta σ H (EntL tp n)) (b : ∀ H1, Taped tp H H1 → Tr tp tb σ H1 (EntL tp m)) : Tr tp (tOp rCat ta tb) σ H (EntN tp (n + m) H) := fun Q k => a _ fun x H1 d1 p1 => b H1 d1 _ fun y H2 d2 p2 => by
  obtain ⟨l, es, rfl, h2, h3, h4, h5⟩ := entL_stays tp n x H1 H2 d1.2 d2 p1
  obtain ⟨l', es', rfl, g2, g3, g4, g5⟩ := p2
  refine ⟨l, l', _, _, rfl, rfl, h3, g3, by rw [List.length_map, List.length_map]; exact Nat.le_of_lt (small1000 (by omega)), fun p np => ?_⟩
  rw [← List.map_append]
  have sp := same_upd (o := .lst ((es ++ es').map V.ref)) np
  refine k _ _ ((d1.trans d2).same sp) ⟨⟨p, es ++ es', rfl, d2.2.new np, upd_same, by rw [List.length_append]; omega, fun e he => ?_⟩, p, rfl, (d1.trans d2).free np⟩
  rcases List.mem_append.mp he with q | q
  · exact (h5 e q).mono (tups_same sp)
  · exact (g5 e q).mono (tups_same sp)
theorem EntN.l {tp : Addr} {n : Nat} {H0 H : Hp} {v : V} (h : EntN tp n H0 v H) : EntL tp n v H := h.1
/-- lists of pairs in a list that is no other one of them -/
structure EntLs (tp : Addr) (n : Nat) (H : Hp) (l : Addr) (vs : List V) : Prop where
  nt : l ≠ tp
  hl : H l = some (.lst vs)
  each : ∀ x ∈ vs, EntL tp n x H ∧ x ≠ .ref l
theorem EntLs.stays {tp : Addr} {n : Nat} {H H' : Hp} {l : Addr} {vs : List V} (h : EntLs tp n H l vs) (t : Tape H tp) (f : Taped tp H H') : EntLs tp n H' l vs := ⟨h.nt, f.1 _ _ h.nt h.hl, fun x hx => ⟨entL_stays tp n x H H' t f (h.each x hx).1, (h.each x hx).2⟩⟩
theorem EntL.put {tp : Addr} {n : Nat} {H : Hp} {l : Addr} {vs : List V} {o : HO} {x : V} (h : EntL tp n x H) (hl : H l = some (.lst vs)) (ne : x ≠ .ref l) : EntL tp n x (upd H l o) := by
  obtain ⟨l', es, rfl, h2, h3, h4, h5⟩ := h
  have n' : l' ≠ l := fun z => ne (by rw [z])
  exact ⟨l', es, rfl, h2, by rw [upd_ne n']; exact h3, h4, fun e he => (h5 e he).mono (tups_upd fun xs z => by rw [hl] at z; cases z)⟩
theorem EntLs.snoc {tp : Addr} {n : Nat} {H : Hp} {l : Addr} {vs : List V} {v : V} (h : EntLs tp n H l vs) (hv : EntL tp n v H) (ne : v ≠ .ref l) : EntLs tp n (upd H l (.lst (vs ++ [v]))) l (vs ++ [v]) := by
  refine ⟨h.nt, upd_same, fun x hx => ?_⟩
  rcases List.mem_append.mp hx with z | z
  · exact ⟨(h.each x z).1.put h.hl (h.each x z).2, (h.each x z).2⟩
  · rw [List.mem_singleton.mp z]
    exact ⟨hv.put h.hl ne, ne⟩
theorem tr_rowcat {K : PySem.W.Frag} {tp : Addr} {ta tb : TE} {σ : L2.St} {H : Hp} {n m : Nat} (hn : n + m ≤ 10) (a : Tr tp ta σ H fun v H' => ∃ (r : Addr) (row : List Int), v = .ref r ∧ IsRow H' r row ∧ row.length ≤ n ∧ ∀ z ∈ row, -10 < z ∧ z < 10) (b : ∀ H1, Taped tp H H1 → Tr tp tb σ H1 fun v H' => ∃ (r : Addr) (row : List Int), v = .ref r ∧ IsRow H' r row ∧ row.length ≤ m ∧ ∀ z ∈ row, -10 < z ∧ z < 10) : Tr tp (tOp (rCatA K) ta tb) σ H RowW := fun Q k => a _ fun x H1 d1 ⟨r, row, e1, h1, h2, h3⟩ => b H1 d1 _ fun y H2 d2 ⟨r', row', e2, g1, g2, g3⟩ => by
  subst e1
  subst e2
  have h1' : IsRow H2 r row := d2.tups d1.2 _ _ h1
  have d12 := d1.trans d2
  have hb : ∀ z ∈ row ++ row', -10 < z ∧ z < 10 := fun z hz => by
    rcases List.mem_append.mp hz with q | q
    · exact h3 z q
    · exact g3 z q
  refine ⟨r, r', _, _, rfl, rfl, .inl (.inl h1'), .inl (.inl g1), by rw [List.length_map, List.length_map]; exact Nat.le_of_lt (small1000 (by omega)), fun z => ?_, fun _ z => ?_, fun _ _ p np => ?_⟩
  · exact k _ _ d12 ⟨r', row', rfl, g1, by omega, g3⟩
  · exact k _ _ d12 ⟨r, row, rfl, h1', by omega, h3⟩
  · have sp := same_upd (o := .tup (row.map V.int ++ row'.map V.int)) np
    exact k _ _ (d12.same sp) ⟨p, row ++ row', rfl, by show upd _ p _ p = _; rw [upd_same, List.map_append], by rw [List.length_append]; omega, hb⟩
end Rd
namespace Rd
open PySem PySem.Spec PyProof.Rows L2 Dt
/-- pairs, one after the other -/
def EntA (tp : Addr) (m : Nat) (ta : TA) (σ : L2.St) (H : Hp) : Prop := ∀ Q : List V → Hp → Prop, (∀ (es : List Addr) H', Taped tp H H' → es.length = m → (∀ e ∈ es, WEnt H' e) → Q (es.map V.ref) H') → ta σ H Q
theorem enta_nil {tp : Addr} {σ : L2.St} {H : Hp} (t : Tape H tp) : EntA tp 0 tNil σ H := fun Q k => k [] H (Taped.refl t) rfl fun _ h => nomatch h
theorem enta_cons {tp : Addr} {m : Nat} {te : TE} {ta : TA} {σ : L2.St} {H : Hp} (a : Tr tp te σ H fun v H' => ∃ e, v = .ref e ∧ WEnt H' e) (b : ∀ H1, Taped tp H H1 → EntA tp m ta σ H1) : EntA tp (m + 1) (tCons te ta) σ H := fun Q k => a _ fun v H1 d1 ⟨e, ev, w⟩ => b H1 d1 _ fun es H2 d2 hl hw => by
  subst ev
  refine k (e :: es) H2 (d1.trans d2) (by rw [List.length_cons, hl]) fun x hx => ?_
  rcases List.mem_cons.mp hx with z | z
  · rw [z]; exact w.mono (d2.tups d1.2)
  · exact hw x z
theorem tr_ents {tp : Addr} {m : Nat} {ta : TA} {σ : L2.St} {H : Hp} (hm : m ≤ 1000) (a : EntA tp m ta σ H) : Tr tp (tLst ta) σ H (EntN tp m H) := fun Q k => a _ fun es H1 d1 hl hw => by
  refine ⟨by rw [List.length_map, hl]; exact Nat.le_of_lt (small1000 hm), fun l nl => ?_⟩
  have sl := same_upd (o := .lst (es.map V.ref)) nl
  exact k _ _ (d1.same sl) ⟨⟨l, es, rfl, d1.2.new nl, upd_same, by omega, fun e he => (hw e he).mono (tups_same sl)⟩, l, rfl, d1.free nl⟩
/-- a row of at most so many -/
def RowN (n : Nat) : V → Hp → Prop := fun v H => ∃ (r : Addr) (row : List Int), v = .ref r ∧ IsRow H r row ∧ row.length ≤ n ∧ ∀ z ∈ row, -10 < z ∧ z < 10
theorem rowN_stays (tp : Addr) (n : Nat) : Stays tp (RowN n) := fun v H H' t f ⟨r, row, h1, h2, h3⟩ => ⟨r, row, h1, f.tups t _ _ h2, h3⟩
theorem RowN.w {n : Nat} {v : V} {H : Hp} (h : RowN n v H) (hn : n ≤ 10) : RowW v H := let ⟨r, row, h1, h2, h3, h4⟩ := h; ⟨r, row, h1, h2, by omega, h4⟩
theorem tr_slrow {K : PySem.W.Frag} {tp : Addr} {ta : TE} {tl th : TO} {σ : L2.St} {H : Hp} {n : Nat} (a : Tr tp ta σ H (RowN n)) (b : ∀ H1, Taped tp H H1 → TrO tp tl σ H1) (c : ∀ H1, Taped tp H H1 → TrO tp th σ H1) : Tr tp (tSl (rSlA K) ta tl th) σ H (RowN n) := fun Q k => a _ fun x H1 d1 p1 => b H1 d1 _ fun lo H2 d2 => c H2 (d1.trans d2) _ fun hi H3 d3 => by
  obtain ⟨r, row, rfl, h2, h3, h4⟩ := rowN_stays tp n x H1 H3 d1.2 (d2.trans d3) p1
  obtain ⟨row', e1, e2, e3⟩ := cut_mem (f := V.int) (l := row) (lo := lo) (hi := hi)
  have d := d1.trans (d2.trans d3)
  refine ⟨r, _, rfl, .inl (.inl h2), fun _ => k _ _ d ⟨r, row, rfl, h2, h3, h4⟩, fun _ p np => ?_⟩
  rw [e1]
  exact k _ _ (d.same (same_upd np)) ⟨p, row', rfl, upd_same, by omega, fun z hz => h4 z (e3 z hz)⟩
theorem tr_rowcatN {K : PySem.W.Frag} {tp : Addr} {ta tb : TE} {σ : L2.St} {H : Hp} {n m : Nat} (hn : n + m ≤ 10) (a : Tr tp ta σ H (RowN n)) (b : ∀ H1, Taped tp H H1 → Tr tp tb σ H1 (RowN m)) : Tr tp (tOp (rCatA K) ta tb) σ H RowW := tr_rowcat hn a b
theorem tr_tup1 {tp : Addr} {ta : TE} {σ : L2.St} {H : Hp} (a : Tr tp ta σ H fun v _ => ∃ i, v = .int i ∧ -10 < i ∧ i < 10) : Tr tp (tTup (tCons ta tNil)) σ H (RowN 1) := fun Q k => a _ fun v H1 d1 ⟨i, e, i0, i1⟩ => by
  subst e
  refine ⟨(by show 1 ≤ sizeLine; decide), fun t nt => ?_⟩
  exact k _ _ (d1.same (same_upd nt)) ⟨t, [i], rfl, upd_same, Nat.le_refl _, fun z hz => by rw [List.mem_singleton.mp hz]; exact ⟨i0, i1⟩⟩
theorem tr_tup0 {tp : Addr} {σ : L2.St} {H : Hp} (t : Tape H tp) : Tr tp (tTup tNil) σ H (RowN 0) := fun Q k => by
  refine ⟨(by show 0 ≤ sizeLine; decide), fun p np => ?_⟩
  exact k _ _ ((Taped.refl t).same (same_upd np)) ⟨p, [], rfl, upd_same, Nat.le_refl _, fun _ h => nomatch h⟩
theorem tr_neg {tp : Addr} {c : Int} {σ : L2.St} {H : Hp} {Φ : V → Hp → Prop} (t : Tape H tp) (p : Φ (.int (-c)) H) : Tr tp (tUn (rU fun i => .int (-i)) (tC (.int c))) σ H Φ := fun Q k => ⟨c, rfl, k _ _ (Taped.refl t) p⟩
end Rd
namespace Rd
open PySem PySem.Spec PyProof.Rows L2 Dt
/-- a list of pairs, one at least, new since H -/
def SomeAt (H : Hp) (c : Nat) : V → Hp → Prop := fun v Hc => ∃ (l : Addr) (es : List Addr), v = .ref l ∧ H l = none ∧ Hc l = some (.lst (es.map V.ref)) ∧ 1 ≤ es.length ∧ es.length ≤ c ∧ ∀ e ∈ es, WEnt Hc e
theorem some_stays {tp : Addr} {H Hc Hd : Hp} {c : Nat} {v : V} (t : Tape H tp) (tc : Tape Hc tp) (d : Taped tp Hc Hd) (h : SomeAt H c v Hc) : SomeAt H c v Hd := by
  obtain ⟨l, es, h1, h2, h3, h4, h5, h6⟩ := h
  exact ⟨l, es, h1, h2, d.1 _ _ (t.new h2) h3, h4, h5, fun e he => (h6 e he).mono (d.tups tc)⟩
theorem SomeAt.up {H Hc : Hp} {c c' : Nat} {v : V} (h : SomeAt H c v Hc) (k : c ≤ c') : SomeAt H c' v Hc := let ⟨l, es, h1, h2, h3, h4, h5, h6⟩ := h; ⟨l, es, h1, h2, h3, h4, Nat.le_trans h5 k, h6⟩
theorem tr_some {tp : Addr} {m : Nat} {ta : TA} {σ : L2.St} {H Hc : Hp} (hm : m + 1 ≤ 1000) (dc : Taped tp H Hc) (a : EntA tp (m + 1) ta σ Hc) : Tr tp (tLst ta) σ Hc (SomeAt H (m + 1)) := fun Q k => a _ fun es H1 d1 hl hw => by
  refine ⟨by rw [List.length_map, hl]; exact Nat.le_of_lt (small1000 hm), fun l nl => ?_⟩
  have sl := same_upd (o := .lst (es.map V.ref)) nl
  exact k _ _ (d1.same sl) ⟨l, es, rfl, dc.free (d1.free nl), upd_same, by omega, by omega, fun e he => (hw e he).mono (tups_same sl)⟩
theorem some_cat {tp : Addr} {tb : TE} {i : Nat} {σ : L2.St} {H Hc : Hp} {c m : Nat} {v : V} (t : Tape H tp) (dc : Taped tp H Hc) (hσ : σ[i]? = some (some v)) (hs : SomeAt H c v Hc) (hn : c + m ≤ 1000) (b : ∀ H1, Taped tp Hc H1 → Tr tp tb σ H1 (EntL tp m)) : Tr tp (tOp rCat (tVar i) tb) σ Hc (SomeAt H (c + m)) := fun Q k => ⟨v, hσ, b Hc (Taped.refl dc.2) _ fun y H2 d2 p2 => by
  obtain ⟨l, es, rfl, h2, h3, h4, h5, h6⟩ := some_stays t dc.2 d2 hs
  obtain ⟨l', es', rfl, g2, g3, g4, g5⟩ := p2
  refine ⟨l, l', _, _, rfl, rfl, h3, g3, by rw [List.length_map, List.length_map]; exact Nat.le_of_lt (small1000 (by omega)), fun p np => ?_⟩
  rw [← List.map_append]
  have sp := same_upd (o := .lst ((es ++ es').map V.ref)) np
  refine k _ _ (d2.same sp) ⟨p, es ++ es', rfl, dc.free (d2.free np), upd_same, by rw [List.length_append]; omega, by rw [List.length_append]; omega, fun e he => ?_⟩
  rcases List.mem_append.mp he with q | q
  · exact (h6 e q).mono (tups_same sp)
  · exact (g5 e q).mono (tups_same sp)⟩
end Rd

set_option Elab.async false
set_option linter.all false
set_option maxRecDepth 100000
set_option maxHeartbeats 4000000
/-! the least weights, and what weights tell -/
namespace Rd
open PySem PySem.Spec PyProof.Rows L2 Dt
/-! ### repr of a number, of None, of data -/
def rRep3 (K : PySem.W.Frag) : List V → Hp → VK → Prop := fun xs H Q => (∃ i, xs = [.int i] ∧ i.natAbs.log2 < 1920 ∧ Q (.str (toString i)) H) ∨ (xs = [.non] ∧ Q (.str "None") H) ∨
  ∃ (a : Addr) (d : PyData), xs = [.ref a] ∧ Dp K H (.ref a) d ∧ d.showable = true ∧ d.hasDict = false ∧ d.depth < 63 ∧ d.shown.length ≤ sizeLine ∧ Q (.str d.shown) H
theorem call_repr3 {X : Cx} (hg : X.A.guards = some []) (hu : X.A.units + 64 < cLine) : CallR X (.builtin "repr") (rRep3 X.K) := by
  intro pins s σ H xs us Q I r h
  rcases h with h | ⟨rfl, q⟩ | h
  · exact SkE.call_repr_int pins s σ H xs us Q I r h
  · obtain ⟨u, rfl, ru⟩ := vals1 r
    cases (show u = Value.none from ru)
    exact PySem.P.repr_of_none ⟨.str "None", H, I.tok _, ⟨_, rfl⟩, q⟩
  · exact Lg.call_repr hg hu pins s σ H xs us Q I r h
/-! ### alike weights -/
def alk (n : Nat) (a : Int) : List Fc := List.replicate n (lowI a 64)
theorem alk_good {n : Nat} {a : Int} (h1 : 1 ≤ a) (h2 : a < 64) : GoodW 20000 (alk n a) := by
  obtain ⟨lo1, lo2⟩ := low_lt h1 h2
  obtain ⟨lo3, lo4, lo5, lo6⟩ := low_ok (a := a) (b := 64) (by omega) (by decide)
  exact ⟨fun x hx => by rw [(List.mem_replicate.mp hx).2]; exact ⟨lo1, lo2, by omega⟩⟩
def Lst (wds : List WD) (hues : Int) : Option Int → Prop
  | none => ∀ a : Int, 1 ≤ a → a < 64 → shownB wds hues (alk wds.length a) = false
  | some a => 1 ≤ a ∧ a < 64 ∧ shownB wds hues (alk wds.length a) = true ∧ ∀ b : Int, 1 ≤ b → b < a → shownB wds hues (alk wds.length b) = false
theorem Lst.one {wds : List WD} {hues : Int} : ∀ {r r' : Option Int}, Lst wds hues r → Lst wds hues r' → r = r'
  | none, none, _, _ => rfl
  | none, some a, h, ⟨h1, h2, h3, _⟩ => by rw [h a h1 h2] at h3; cases h3
  | some a, none, ⟨h1, h2, h3, _⟩, h => by rw [h a h1 h2] at h3; cases h3
  | some a, some b, ⟨a1, a2, a3, a4⟩, ⟨b1, b2, b3, b4⟩ => by
    have x1 : ¬ a < b := fun z => by rw [b4 a a1 z] at a3; cases a3
    have x2 : ¬ b < a := fun z => by rw [a4 b b1 z] at b3; cases b3
    rw [show a = b by omega]
def vOI : Option Int → V
  | none => .non
  | some a => .int a
/-! ### folds -/
def kSt (p x : Fc) : Fc := (p.1 * (x.2 - x.1), p.2 * x.2)
def mSt (p x : Fc) : Fc := (p.1 * (x.2 - x.1) + x.1 * p.2, p.2 * (x.2 - x.1))
def keptF (N : Int) (ws : List Fc) : Fc := ws.foldl kSt (N, 1)
def mendF (ws : List Fc) : Fc := ws.foldl mSt (0, 1)
theorem fold_snoc {α β : Type} (f : β → α → β) (b : β) {l : List α} {i : Nat} {x : α} (h : l[i]? = some x) : (l.take (i + 1)).foldl f b = f ((l.take i).foldl f b) x := by
  rw [take_snoc h, List.foldl_append]
  rfl
theorem kept_ok {ws : List Fc} (g : GoodW 150 ws) : ∀ (l : List Fc), (∀ x ∈ l, x ∈ ws) → ∀ p : Fc, 1 ≤ p.1 → 1 ≤ p.2 → 1 ≤ (l.foldl kSt p).1 ∧ 1 ≤ (l.foldl kSt p).2 ∧ (l.foldl kSt p).1 ≤ p.1 * 150 ^ l.length ∧ (l.foldl kSt p).2 ≤ p.2 * 150 ^ l.length
  | [], _, p, h1, h2 => ⟨h1, h2, by simp, by simp⟩
  | x :: r, h, p, h1, h2 => by
    have gx := g.each x (h x List.mem_cons_self)
    have s1 : 1 ≤ (kSt p x).1 := mul_pos1 h1 (by omega)
    have s2 : 1 ≤ (kSt p x).2 := mul_pos1 h2 (by omega)
    have ih := kept_ok g r (fun y hy => h y (List.mem_cons_of_mem _ hy)) (kSt p x) s1 s2
    rw [List.foldl_cons]
    have pp : (0 : Int) ≤ 150 ^ r.length := Int.pow_nonneg (by decide)
    have e1 : (kSt p x).1 ≤ p.1 * 150 := Int.mul_le_mul_of_nonneg_left (show x.2 - x.1 ≤ 150 by omega) (by omega)
    have e2 : (kSt p x).2 ≤ p.2 * 150 := Int.mul_le_mul_of_nonneg_left (show x.2 ≤ 150 by omega) (by omega)
    have f1 := Int.mul_le_mul_of_nonneg_right e1 pp
    have f2 := Int.mul_le_mul_of_nonneg_right e2 pp
    rw [List.length_cons, Int.pow_succ, Int.mul_comm ((150 : Int) ^ r.length) 150, ← Int.mul_assoc, ← Int.mul_assoc]
    exact ⟨ih.1, ih.2.1, Int.le_trans ih.2.2.1 f1, Int.le_trans ih.2.2.2 f2⟩
theorem mend_ok {ws : List Fc} (g : GoodW 150 ws) : ∀ (l : List Fc), (∀ x ∈ l, x ∈ ws) → ∀ p : Fc, 0 ≤ p.1 → 1 ≤ p.2 → 0 ≤ (l.foldl mSt p).1 ∧ 1 ≤ (l.foldl mSt p).2 ∧ (l.foldl mSt p).1 + (l.foldl mSt p).2 ≤ (p.1 + p.2) * 150 ^ l.length
  | [], _, p, h1, h2 => ⟨h1, h2, by simp⟩
  | x :: r, h, p, h1, h2 => by
    have gx := g.each x (h x List.mem_cons_self)
    have a1 : 0 ≤ p.1 * (x.2 - x.1) := Int.mul_nonneg h1 (by omega)
    have a2 : 0 ≤ x.1 * p.2 := Int.mul_nonneg (by omega) (by omega)
    have s1 : 0 ≤ (mSt p x).1 := by show 0 ≤ p.1 * (x.2 - x.1) + x.1 * p.2; omega
    have s2 : 1 ≤ (mSt p x).2 := mul_pos1 h2 (by omega)
    have ih := mend_ok g r (fun y hy => h y (List.mem_cons_of_mem _ hy)) (mSt p x) s1 s2
    rw [List.foldl_cons]
    have pp : (0 : Int) ≤ 150 ^ r.length := Int.pow_nonneg (by decide)
    have e1 : p.1 * (x.2 - x.1) ≤ p.1 * 150 := Int.mul_le_mul_of_nonneg_left (by omega) h1
    have e2 : p.2 * x.2 ≤ p.2 * 150 := Int.mul_le_mul_of_nonneg_left (by omega) (by omega)
    have e3 : x.1 * p.2 + p.2 * (x.2 - x.1) = p.2 * x.2 := by
      rw [Int.mul_comm x.1 p.2, ← Int.mul_add]
      congr 1
      omega
    have e4 : (mSt p x).1 + (mSt p x).2 ≤ (p.1 + p.2) * 150 := by
      show p.1 * (x.2 - x.1) + x.1 * p.2 + p.2 * (x.2 - x.1) ≤ (p.1 + p.2) * 150
      rw [Int.add_mul]
      omega
    have f1 := Int.mul_le_mul_of_nonneg_right e4 pp
    rw [List.length_cons, Int.pow_succ, Int.mul_comm ((150 : Int) ^ r.length) 150, ← Int.mul_assoc]
    exact ⟨ih.1, ih.2.1, Int.le_trans ih.2.2 f1⟩
theorem pow8 {n : Nat} (h : n ≤ 8) : (150 : Int) ^ n ≤ 150 ^ 8 := by
  have := Nat.pow_le_pow_right (show 0 < 150 by decide) h
  exact_mod_cast this
theorem kept_bd {ws : List Fc} {N : Int} (g : GoodW 150 ws) (h8 : ws.length ≤ 8) (n1 : 1 ≤ N) (n2 : N ≤ 4096) (i : Nat) : 1 ≤ ((ws.take i).foldl kSt (N, 1)).1 ∧ 1 ≤ ((ws.take i).foldl kSt (N, 1)).2 ∧ ((ws.take i).foldl kSt (N, 1)).1 < 10 ^ 30 ∧ ((ws.take i).foldl kSt (N, 1)).2 < 10 ^ 30 := by
  obtain ⟨a, b, c, d⟩ := kept_ok g (ws.take i) (fun x hx => List.mem_of_mem_take hx) (N, 1) n1 (Int.le_refl 1)
  have l8 : (ws.take i).length ≤ 8 := by rw [List.length_take]; omega
  have p := pow8 l8
  have q1 : N * 150 ^ (ws.take i).length ≤ 4096 * 150 ^ 8 := Int.mul_le_mul n2 p (Int.pow_nonneg (by decide)) (by decide)
  have q2 : (4096 * 150 ^ 8 : Int) < 10 ^ 30 := by decide
  dsimp only at c d
  exact ⟨a, b, by omega, by omega⟩
theorem mend_bd {ws : List Fc} (g : GoodW 150 ws) (h8 : ws.length ≤ 8) (i : Nat) : 0 ≤ ((ws.take i).foldl mSt (0, 1)).1 ∧ 1 ≤ ((ws.take i).foldl mSt (0, 1)).2 ∧ ((ws.take i).foldl mSt (0, 1)).1 < 10 ^ 30 ∧ ((ws.take i).foldl mSt (0, 1)).2 < 10 ^ 30 := by
  obtain ⟨a, b, c⟩ := mend_ok g (ws.take i) (fun x hx => List.mem_of_mem_take hx) (0, 1) (by decide) (by decide)
  have l8 : (ws.take i).length ≤ 8 := by rw [List.length_take]; omega
  have p := pow8 l8
  have q2 : (150 ^ 8 : Int) < 10 ^ 30 := by decide
  dsimp only at c
  exact ⟨a, b, by omega, by omega⟩
theorem log30 {x : Int} (h1 : 1 ≤ x) (h2 : x < 10 ^ 30) : x.natAbs.log2 < 9000 := log_big h1 (Int.lt_trans h2 (by decide))
theorem fineW_fr {x : Fc} (h1 : 0 ≤ x.1) (h2 : x.1 < 10 ^ 30) (h3 : 0 ≤ x.2) (h4 : x.2 < 10 ^ 30) : FineW (frD x) 2 222 :=
  (FineW.tuple (.cons (fineW_int (by omega)) (.cons (fineW_int (by omega)) (.nil _)))).mono (by omega) (by omega)
end Rd

set_option Elab.async false
set_option linter.all false
set_option maxRecDepth 100000
set_option maxHeartbeats 4000000
namespace Rd
open PySem PySem.Spec PyProof.Rows L2 Dt
def topS (i : Nat) : Stmt := PySem.Challenge.pw_redraw_k34_weights_and_bounds_told.main.body.getD i (.Pass ⟨0, 0, 0, 0⟩)
abbrev sTap : Stmt := topS 19
abbrev nTap : List Str := ["script", "start", "cell"]
theorem scTap : FnScope nTap ["script", "start"] (defScope sTap) := ⟨rfl, rfl, rfl, by decide +kernel, rfl, by decide +kernel, by decide +kernel⟩
abbrev sDig : Stmt := topS 20
abbrev nDig : List Str := ["tape", "many", "found", "more"]
theorem scDig : FnScope nDig ["tape", "many"] (defScope sDig) := ⟨rfl, rfl, rfl, by decide +kernel, rfl, by decide +kernel, by decide +kernel⟩
def spTap (K : PySem.W.Frag) : Sp := fun vs H Q _ => ∃ (a : Addr) (ns : List Int) (st : Int), vs = [.ref a, .int st] ∧ SqL K H a (ns.map V.int) ∧ ns.length ≤ 63 ∧ 0 ≤ st ∧ st ≤ 100 ∧
  ∀ H' tp, Same H H' → H tp = none → Tape H' tp → Q (.ref tp) H'
def spDig : Sp := fun vs H Q _ => ∃ (tp : Addr) (m : Int), vs = [.ref tp, .int m] ∧ Tape H tp ∧ 1 ≤ m ∧ m.natAbs.log2 < 9000 ∧
  ∀ H' d, Taped tp H H' → 0 ≤ d → d < m → Q (.int d) H'
structure TxtT (mg : Str → Option Value) : Prop where
  m_len : mg "len" = none
  m_abs : mg "abs" = none
theorem abs_nn (z : Int) : 0 ≤ (if z < 0 then -z else z) := by split <;> omega
section
variable {P : Program} {w : World} {K : PySem.W.Frag} {mg : Str → Option Value} {base : Heap}
theorem ok_tap {f : Addr} {fd : FuncData} {k : Nat} (F : Fun K "_law_tape" "_law_tape" sTap f fd) (T : TxtT mg) : FnOk P w K mg base CX0 (k + 1) f fd ["script", "start"] (spTap K) := by
  refine F.ok scTap (fun vs H Q E h => ?_) (fun cdv A outer s H vs Q E hr h => ?_)
  · obtain ⟨a, ns, st, rfl, _⟩ := h
    rfl
  · obtain ⟨a, ns, st, rfl, hS, hl, s0, s1, q⟩ := h
    refine ⟨_, (pss_cons (ps_set (i := 2) scTap.nd rfl (Or.inl rfl) pe_int)
  (C8.pss_cut (ps_if (pt_cmpR op_lt (pv 1) (pe_callB call_len_seq (by rfl) T.m_len (by decide +kernel) (pa_cons (pv 0) pa_nil)) (nomark _))
  (pss_one (ps_set (i := 2) scTap.nd rfl (Or.inl rfl) (pe_callB call_abs (by rfl) T.m_abs (by decide +kernel) (pa_cons (pe_ix ix_list (pv 0) (pv 1) (fun _ _ => rfl)) pa_nil)))) (pss_one (ps_if (pt_cmpR op_gt (pe_callB call_len_seq (by rfl) T.m_len (by decide +kernel) (pa_cons (pv 0) pa_nil)) pe_int (nomark _))
  (pss_one (ps_set (i := 2) scTap.nd rfl (Or.inl rfl) (pe_op op_add (pe_op op_mod (pe_callB call_abs (by rfl) T.m_abs (by decide +kernel) (pa_cons (pe_ix ix_list (pv 0) (pe_op op_mod (pv 1) (pe_callB call_len_seq (by rfl) T.m_len (by decide +kernel) (pa_cons (pv 0) pa_nil))) (fun _ _ => rfl)) pa_nil)) (pe_op op_pow pe_int pe_int)) (pe_op op_mul (pv 1) pe_int)))) pss_nil)))
  (pss_one (ps_ret (pe_lst (pa_cons (pv 2) (pa_cons (pe_op op_add (pe_op op_mod (pe_op op_add (pe_op op_mul (pv 1) pe_int) (pv 2)) pe_int) pe_int) pa_nil))))))), ?_⟩
    refine ⟨fun σ H' => H' = H ∧ ∃ c : Int, 0 ≤ c ∧ σ = [some (.ref a), some (.int st), some (.int c)], ?_, ?_⟩
    · refine ⟨.int st, rfl, .ref a, rfl, a, _, rfl, .inl hS, _, _, rfl, rfl, _, rfl, ite2 (fun e => ?_) (fun e => ?_)⟩
      · rw [List.length_map] at e
        have e1 : st < (ns.length : Int) := of_decide_eq_true e
        have hi : st.toNat < ns.length := by omega
        refine ⟨.ref a, rfl, .int st, rfl, a, _, st, _, rfl, rfl, hS, atI_of s0 (List.getElem?_eq_getElem hi), _, rfl, rfl, _, abs_nn _, rfl⟩
      · refine ⟨.ref a, rfl, a, _, rfl, .inl hS, _, _, rfl, rfl, _, rfl, ite2 (fun e2 => ?_) (fun e2 => ?_)⟩
        · rw [List.length_map] at e2
          have e3 : 0 < (ns.length : Int) := of_decide_eq_true e2
          have n0 := Int.emod_nonneg st (show (ns.length : Int) ≠ 0 by omega)
          have n1 := Int.emod_lt_of_pos st e3
          have hi : (st % (ns.length : Int)).toNat < ns.length := by omega
          refine ⟨.ref a, rfl, .int st, rfl, .ref a, rfl, a, _, rfl, .inl hS, _, _, rfl, rfl, (by rw [List.length_map]; exact e3), ?_⟩
          rw [List.length_map]
          refine ⟨a, _, _, _, rfl, rfl, hS, atI_of n0 (List.getElem?_eq_getElem hi), _, rfl, 10, 9, rfl, rfl, ⟨by decide, by decide, by decide⟩, _, _, rfl, rfl, (by show (0 : Int) < 10 ^ 9; decide), .int st, rfl, st, 1000003, rfl, rfl, .inl ⟨by omega, by omega⟩, _, _, rfl, rfl, rfl, _, ?_, rfl⟩
          have := Int.emod_nonneg (if ns[(st % (ns.length : Int)).toNat] < 0 then -ns[(st % (ns.length : Int)).toNat] else ns[(st % (ns.length : Int)).toNat]) (show (10 ^ (9 : Int).toNat : Int) ≠ 0 by decide)
          omega
        · exact ⟨rfl, 0, by decide, rfl⟩
    · rintro σ H1 ⟨rfl, c, c0, rfl⟩
      refine ⟨.int c, rfl, .int st, rfl, st, 7919, rfl, rfl, .inl ⟨by omega, by omega⟩, .int c, rfl, _, _, rfl, rfl, _, _, rfl, rfl, (by show (0 : Int) < 998244353; decide), _, _, rfl, rfl, (by show 2 ≤ sizeLine; decide), fun tp nt => ?_⟩
      have g1 := Int.emod_nonneg (st * 7919 + c) (by decide : (998244353 : Int) ≠ 0)
      have g2 := Int.emod_lt_of_pos (st * 7919 + c) (by decide : (0 : Int) < 998244353)
      exact q _ tp (same_upd nt) nt ⟨c, _, upd_same, c0, by omega, by omega⟩
theorem ok_dig {f : Addr} {fd : FuncData} {k : Nat} (F : Fun K "_law_digit" "_law_digit" sDig f fd) : FnOk P w K mg base CX0 (k + 1) f fd ["tape", "many"] spDig := by
  refine F.ok scDig (fun vs H Q E h => ?_) (fun cdv A outer s H vs Q E hr h => ?_)
  · obtain ⟨tp, m, rfl, _⟩ := h
    rfl
  · obtain ⟨tp, m, rfl, hT, m1, hlog, q⟩ := h
    obtain ⟨b, c, h1, b0, c0, c1⟩ := id hT
    refine ⟨_, (pss_cons (ps_if (pt_cmpR op_gt (pe_ix ix_list (pv 0) pe_int (fun _ _ => rfl)) pe_int (nomark _))
  (pss_cons (ps_set (i := 2) scDig.nd rfl (Or.inl rfl) (pe_op op_mod (pe_ix ix_list (pv 0) pe_int (fun _ _ => rfl)) (pv 1)))
  (pss_cons (ps_asg (pe_op op_fdivW (pe_ix ix_list (pv 0) pe_int (fun _ _ => rfl)) (pv 1)) (pg_sub (pv 0) pe_int set_list))
  (pss_one (ps_ret (pv 2))))) pss_nil)
  (pss_cons (ps_asg (pe_op op_mod (pe_op op_add (pe_op op_mul (pe_ix ix_list (pv 0) pe_int (fun _ _ => rfl)) pe_int) pe_int) pe_int) (pg_sub (pv 0) pe_int set_list))
  (pss_cons (ps_set (i := 3) scDig.nd rfl (Or.inl rfl) (pe_op op_mod (pe_op op_mul (pe_ix ix_list (pv 0) pe_int (fun _ _ => rfl)) pe_int) pe_int))
  (pss_one (ps_ret (pe_op op_mod (pe_op op_add (pe_op op_mul (pe_op op_mod (pe_op op_mul (pe_ix ix_list (pv 0) pe_int (fun _ _ => rfl)) (pe_ix ix_list (pv 0) pe_int (fun _ _ => rfl))) pe_int) pe_int) (pv 3)) (pv 1))))))), ?_⟩
    have q2 : ∀ (b' c' d : Int), 0 ≤ b' → 0 ≤ c' → c' ≤ 2147483647 → 0 ≤ d → d < m → Q (.int d) (upd H tp (.lst [.int b', .int c'])) := fun b' c' d x1 x2 x3 x4 x5 =>
      q _ _ ⟨fun a o n e => by rw [upd_ne n]; exact e, b', c', upd_same, x1, x2, x3⟩ x4 x5
    refine ⟨.ref tp, rfl, tp, _, 0, _, rfl, rfl, .inl (.inl h1), rfl, b, 0, rfl, rfl, _, rfl, ite2 (fun e => ?_) (fun e => ?_)⟩
    · refine ⟨.ref tp, rfl, tp, _, 0, _, rfl, rfl, .inl (.inl h1), rfl, .int m, rfl, b, m, rfl, rfl, (by show 0 < m; omega), ?_⟩
      refine ⟨.ref tp, rfl, tp, _, 0, _, rfl, rfl, .inl (.inl h1), rfl, .int m, rfl, b, m, rfl, rfl, ⟨by omega, hlog⟩, .ref tp, rfl, tp, _, 0, 0, rfl, rfl, h1, rfl, ?_⟩
      exact ⟨.int (b % m), rfl, q2 (b / m) c _ (Int.ediv_nonneg b0 (by omega)) c0 c1 (Int.emod_nonneg _ (by omega)) (Int.emod_lt_of_pos _ (by omega))⟩
    · refine ⟨.ref tp, rfl, tp, _, 1, _, rfl, rfl, .inl (.inl h1), rfl, c, 48271, rfl, rfl, .inl ⟨by omega, by omega⟩, _, _, rfl, rfl, _, _, rfl, rfl, (by show (0 : Int) < 2147483647; decide), .ref tp, rfl, tp, _, 1, 1, rfl, rfl, h1, rfl, ?_⟩
      have n1 := Int.emod_nonneg (c * 48271 + 11) (by decide : (2147483647 : Int) ≠ 0)
      have n2 := Int.emod_lt_of_pos (c * 48271 + 11) (by decide : (0 : Int) < 2147483647)
      generalize ec : (c * 48271 + 11) % 2147483647 = c' at n1 n2
      refine ⟨.ref tp, rfl, tp, _, 1, _, rfl, rfl, .inl (.inl upd_same), rfl, c', 40692, by rw [← ec], rfl, .inl ⟨by omega, by omega⟩, _, _, rfl, rfl, (by show (0 : Int) < 2147483399; decide), ?_⟩
      have k1 := Int.emod_nonneg (c' * c') (by decide : (2147483629 : Int) ≠ 0)
      have k2 := Int.emod_lt_of_pos (c' * c') (by decide : (0 : Int) < 2147483629)
      refine ⟨.ref tp, rfl, tp, _, 1, _, rfl, rfl, .inl (.inl upd_same), rfl, .ref tp, rfl, tp, _, 1, _, rfl, rfl, .inl (.inl upd_same), rfl, c', c', by rw [← ec], by rw [← ec], .inl ⟨by omega, by omega⟩, _, _, rfl, rfl, (by show (0 : Int) < 2147483629; decide), _, 2147483399, rfl, rfl, .inl ⟨by omega, by omega⟩, _, rfl, _, _, rfl, rfl, .int m, rfl, _, m, rfl, rfl, (by show 0 < m; omega), ?_⟩
      have z := q2 b c' ((c' * c' % 2147483629 * 2147483399 + c' * 40692 % 2147483399) % m) b0 n1 (by omega) (Int.emod_nonneg _ (by omega)) (Int.emod_lt_of_pos _ (by omega))
      rw [← ec] at z ⊢
      exact z
end
end Rd

set_option Elab.async false
set_option linter.all false
set_option maxRecDepth 100000
set_option maxHeartbeats 4000000
namespace Rd
open PySem PySem.Spec PyProof.Rows L2 Dt
abbrev sWis : Stmt := topS 21
abbrev nWis : List Str := ["tape", "many", "hues", "most", "size", "left", "places", "every", "place", "longer", "row", "count", "rows", "k", "hue"]
theorem scWis : FnScope nWis ["tape", "many", "hues", "most"] (defScope sWis) := ⟨rfl, rfl, rfl, by decide +kernel, rfl, by decide +kernel, by decide +kernel⟩
def spWis : Sp := fun vs H Q _ => ∃ (tp : Addr) (many hues most : Int), vs = [.ref tp, .int many, .int hues, .int most] ∧ Tape H tp ∧ 1 ≤ many ∧ many ≤ 6 ∧ 2 ≤ hues ∧ hues ≤ 4 ∧ 1 ≤ most ∧ most ≤ 100 ∧
  ∀ H' wa wd, Taped tp H H' → IsWish H' wa wd → Good many hues wd → Neat wd → Q (.ref wa) H'
structure TxtW (P : Program) (w : World) (K : PySem.W.Frag) (mg : Str → Option Value) (base : Heap) : Prop where
  m_range : mg "range" = none
  m_list : mg "list" = none
  m_min : mg "min" = none
  m_len : mg "len" = none
  m_sorted : mg "sorted" = none
  m_tuple : mg "tuple" = none
  c__law_digit : Cal P w K mg base 1 "_law_digit" ["tape", "many"] spDig
theorem pow64 {h s : Nat} (h4 : h ≤ 4) (s3 : s ≤ 3) : h ^ s ≤ 64 := Nat.le_trans (Nat.pow_le_pow_left h4 s) (Nat.le_trans (Nat.pow_le_pow_right (by decide) s3) (by decide))
section
variable {P : Program} {w : World} {K : PySem.W.Frag} {mg : Str → Option Value} {base : Heap}
set_option maxHeartbeats 16000000 in
theorem ok_wis {f : Addr} {fd : FuncData} {k : Nat} (F : Fun K "_law_wish" "_law_wish" sWis f fd) (T : TxtW P w K mg base) : FnOk P w K mg base CX0 (k + 2) f fd ["tape", "many", "hues", "most"] spWis := by
  refine F.ok scWis (fun vs H Q E h => ?_) (fun cdv A outer s H vs Q E hr h => ?_)
  · obtain ⟨tp, many, hues, most, rfl, _⟩ := h
    rfl
  · obtain ⟨tp, many, hues, most, rfl, hT, m1, m6, h2, h4, o1, o100, q⟩ := h
    refine ⟨_, (pss_cons (ps_set (i := 4) scWis.nd rfl (Or.inl rfl) (pe_callB (call_min2 rfl) (by rfl) T.m_min (by decide +kernel) (pa_cons (pv 1) (pa_cons (pe_op op_add pe_int (pe_cal T.c__law_digit (hr.mono (by omega)) (by rfl) (pa_cons (pv 0) (pa_cons pe_int pa_nil)))) pa_nil))))
  (pss_cons (ps_set (i := 5) scWis.nd rfl (Or.inr rfl) (pe_listRg rfl (by rfl) T.m_list (prg_1 (by rfl) T.m_range (pv 1))))
  (pss_cons (ps_set (i := 6) scWis.nd rfl (Or.inl rfl) (pe_callB cr_sorted (by rfl) T.m_sorted (by decide +kernel) (pa_cons (pe_lc (te := tBM K "list" rPopAt (tVar 5) (tCons (tCall spDig [] E0 (tCons (tVar 0) (tCons (tCB (rLen K) (tCons (tVar 5) tNil)) tNil))) tNil)) (own := [("k", 13)]) rfl scWis.nd  (pi_range1 (by rfl) T.m_range (pa_cons (pv 4) pa_nil)) (blkOk_by (own := [("k", 13)]) (N := nWis) (sc := defScope sWis) (by decide +kernel))
   (fun _ _ _ _ _ => (pg_name (i := 13) scWis.nd rfl (Or.inl rfl))) (fun _ _ _ _ _ => pts_nil) (fun _ _ _ _ _ => (pe_bm PySem.F.plainAttrs_list PySem.F.slot_list_pop PySem.F.type_list_pop mt_popAt (pv 5) (pa_cons (pe_cal T.c__law_digit (hr.mono (by omega)) (by rfl) (pa_cons (pv 0) (pa_cons (pe_callB call_len_seq (by rfl) T.m_len (by decide +kernel) (pa_cons (pv 5) pa_nil)) pa_nil))) pa_nil)))) pa_nil)))
  (pss_cons (ps_set (i := 7) scWis.nd rfl (Or.inr rfl) (pe_lst (pa_cons (pe_tup pa_nil) pa_nil)))
  (pss_cons (ps_for PassesOwn.never rfl (pi_list (pv 6)) (pg_name (i := 8) scWis.nd rfl (Or.inl rfl))
  (pss_cons (ps_set (i := 9) scWis.nd rfl (Or.inl rfl) (pe_lst pa_nil))
  (pss_cons (ps_for PassesOwn.never rfl (pi_list (pv 7)) (pg_name (i := 10) scWis.nd rfl (Or.inr rfl))
  (pss_one (ps_expr (pe_bm PySem.F.plainAttrs_list PySem.F.slot_list_extend PySem.F.type_list_extend mt_extend (pv 9) (pa_cons (pe_lc (te := tOp (rCatA K) (tVar 10) (tTup (tCons (tVar 14) tNil))) (own := [("hue", 14)]) rfl scWis.nd  (pi_range1 (by rfl) T.m_range (pa_cons (pv 2) pa_nil)) (blkOk_by (own := [("hue", 14)]) (N := nWis) (sc := defScope sWis) (by decide +kernel))
   (fun _ _ _ _ _ => (pg_name (i := 14) scWis.nd rfl (Or.inl rfl))) (fun _ _ _ _ _ => pts_nil) (fun _ _ _ _ _ => (pe_op op_catA (pv 10) (pe_tup (pa_cons (pv 14) pa_nil))))) pa_nil)))))
  (pss_one (ps_set (i := 7) scWis.nd rfl (Or.inr rfl) (pv 9))))))
  (pss_cons (ps_set (i := 11) scWis.nd rfl (Or.inl rfl) (pe_callB (call_min2 rfl) (by rfl) T.m_min (by decide +kernel) (pa_cons (pe_callB call_len_seq (by rfl) T.m_len (by decide +kernel) (pa_cons (pv 7) pa_nil)) (pa_cons (pe_op op_add pe_int (pe_cal T.c__law_digit (hr.mono (by omega)) (by rfl) (pa_cons (pv 0) (pa_cons (pv 3) pa_nil)))) pa_nil))))
  (C8.pss_cut (ps_if (pt_cmpR op_eq (pe_cal T.c__law_digit (hr.mono (by omega)) (by rfl) (pa_cons (pv 0) (pa_cons pe_int pa_nil))) pe_int (nomark _))
  (pss_one (ps_set (i := 11) scWis.nd rfl (Or.inl rfl) (pe_op op_add pe_int (pe_cal T.c__law_digit (hr.mono (by omega)) (by rfl) (pa_cons (pv 0) (pa_cons (pe_callB call_len_seq (by rfl) T.m_len (by decide +kernel) (pa_cons (pv 7) pa_nil)) pa_nil)))))) pss_nil)
  (pss_cons (ps_setLc (i := 12) (te := tBM K "list" rPopAt (tVar 7) (tCons (tCall spDig [] E0 (tCons (tVar 0) (tCons (tCB (rLen K) (tCons (tVar 7) tNil)) tNil))) tNil)) (own := [("k", 13)]) rfl scWis.nd rfl rfl (sw_true rfl rfl rfl (by decide +kernel)) (pi_range1 (by rfl) T.m_range (pa_cons (pv 11) pa_nil)) (blkOk_by (own := [("k", 13)]) (N := nWis) (sc := defScope sWis) (by decide +kernel))
   (fun _ _ _ _ _ => (pg_name (i := 13) scWis.nd rfl (Or.inl rfl))) (fun _ _ _ _ _ => pts_nil) (fun _ _ _ _ _ => (pe_bm PySem.F.plainAttrs_list PySem.F.slot_list_pop PySem.F.type_list_pop mt_popAt (pv 7) (pa_cons (pe_cal T.c__law_digit (hr.mono (by omega)) (by rfl) (pa_cons (pv 0) (pa_cons (pe_callB call_len_seq (by rfl) T.m_len (by decide +kernel) (pa_cons (pv 7) pa_nil)) pa_nil))) pa_nil))))
  (pss_one (ps_ret (pe_tup (pa_cons (pe_callTy call_tuple_of (by rfl) T.m_tuple (by decide +kernel) (pa_cons (pv 6) pa_nil)) (pa_cons (pe_callTy call_tuple_of (by rfl) T.m_tuple (by decide +kernel) (pa_cons (pe_callB Tt.cr_sortedT (by rfl) T.m_sorted (by decide +kernel) (pa_cons (pv 12) pa_nil)) pa_nil)) pa_nil))))))))))))), ?_⟩
    -- size
    refine ⟨.int many, rfl, .ref tp, rfl, tp, 3, rfl, hT, by decide, by decide, fun H1 sz D1 z0 z1 => ⟨1, sz, rfl, rfl, many, 1 + sz, rfl, ?_⟩⟩
    obtain ⟨u1, u3, um⟩ : 1 ≤ (if 1 + sz < many then 1 + sz else many) ∧ (if 1 + sz < many then 1 + sz else many) ≤ 3 ∧ (if 1 + sz < many then 1 + sz else many) ≤ many := by split <;> omega
    generalize (if 1 + sz < many then 1 + sz else many) = size at u1 u3 um
    -- left
    refine ⟨.int many, rfl, many, rfl, ⟨by omega, by omega, by omega, by omega, by omega⟩, fun l nl => ?_⟩
    have nlt := D1.2.new nl
    have nl0 : H l = none := D1.free nl
    have E3 := D1.put (o := .lst (rgV 0 many)) nl0 nlt
    have hl3 : upd H1 l (.lst (rgV 0 many)) l = some (.lst (rgV 0 many)) := upd_same
    generalize upd H1 l (.lst (rgV 0 many)) = H3 at E3 hl3
    -- places
    refine ⟨.int size, rfl, size, rfl, by omega, by omega, fun D nD => ?_⟩
    have nDt := E3.2.new nD
    have nD0 : H D = none := E3.free nD
    have nlD : l ≠ D := ne_of_none hl3 nD
    refine lc_range (lo := 0) (n := size.toNat) (fun i H5 => ∃ acc ls, Pops V.int tp H l D (rngI many) i H5 acc ls) ⟨[], rngI many, E3.put nD0 nDt, ?_, upd_same, rfl, by simp, List.Perm.refl _⟩ (fun i H5 hi p => ?_) (fun H5 p => ?_)
    · rw [upd_ne nlD, hl3, rgV_eq]
    · obtain ⟨acc, ls, p⟩ := p
      have ll := p.ll
      have rl := rngI_len many
      refine ⟨rfl, yes_if ?_⟩
      refine ⟨.ref l, rfl, .inl ⟨rfl, _, .inl (.inl p.hL)⟩, .ref tp, rfl, .ref l, rfl, l, _, rfl, .inl (.inl (.inl p.hL)), tp, _, rfl, p.fr.2, by rw [List.length_map]; omega, by rw [List.length_map]; exact log_small (by omega) (by omega), fun H6 d D6 d0 d1 => ?_⟩
      rw [List.length_map] at d1
      obtain ⟨y, y1, y2, y3, acc', y4, y5, acc2, ls2, y6⟩ := pop_step nl0 nlt nD0 nDt nlD (by omega) p D6 d0 d1
      exact ⟨l, ls.map V.int, d, d.toNat, y, rfl, rfl, y2, by omega, by omega, y3, y1, acc', y4, y5, acc2, ls2, y6⟩
    · obtain ⟨acc, ls, ⟨E5, hL, hD, la, ll, pm⟩⟩ := p
      refine ⟨D, acc, rfl, .inl (.inl hD), by omega, fun ps lp perm rising nlp => ?_⟩
      have anod : acc.Nodup := (List.nodup_append.mp (pm.nodup_iff.mpr (rngI_nodup many))).1
      have psn : ps.Nodup := perm.nodup_iff.mpr anod
      have accb : ∀ z ∈ acc, 0 ≤ z ∧ z < many := fun z hz => rngI_mem (pm.mem_iff.mp (List.mem_append_left _ hz))
      have psb : ∀ z ∈ ps, 0 ≤ z ∧ z < many := fun z hz => accb z (perm.mem_iff.mp hz)
      have psl : ps.length = size.toNat := by rw [perm.length_eq, la]
      have prise := rise_of rising psn
      have nlpt := E5.2.new nlp
      have nlp0 : H lp = none := E5.free nlp
      have E6 := E5.put (o := .lst (ps.map V.int)) nlp0 nlpt
      have hp6 : upd H5 lp (.lst (ps.map V.int)) lp = some (.lst (ps.map V.int)) := upd_same
      generalize upd H5 lp (.lst (ps.map V.int)) = H6 at E6 hp6
      clear hL hD la ll pm accb perm nD nDt nD0 nlD hl3
      -- every
      refine ⟨(by show 0 ≤ sizeLine; decide), fun t nt => ⟨(by show 1 ≤ sizeLine; decide), fun l1 nl1 => ?_⟩⟩
      have st := same_upd (o := .tup []) nt
      have sl := same_upd (o := .lst [.ref t]) nl1
      have hn6 : ∀ b, H6 b = none → H b = none := fun b e => E6.free e
      refine ⟨.ref lp, rfl, lp, rfl, ⟨_, .inl (.inl ((st.trans sl) _ _ hp6))⟩, for_list (K := K) (a := lp) (xs := ps.map V.int) (fun i σ H3 => Same H6 H3 ∧ ∃ l0, H6 l0 = none ∧ IsFills H3 l0 (fillL hues.toNat i) ∧ ∃ y8 y9 y10, σ = [some (.ref tp), some (.int many), some (.int hues), some (.int most), some (.int size), some (.ref l), some (.ref lp), some (.ref l0), y8, y9, y10, none, none, none, none]) ⟨st.trans sl, l1, st.free nl1, ⟨[t], upd_same, .cons (sl _ _ upd_same) .nil⟩, none, none, none, rfl⟩ (fun i σ H3 _ p => .inl (.inl (p.1 _ _ hp6))) (fun i x σ H3 hx p => ?_) (fun σ H3 p => ?_)⟩
      · obtain ⟨sm, l0, nl0', ⟨as, hl, pr⟩, y8, y9, y10, rfl⟩ := p
        have hi : i < ps.length := by
          have := (List.getElem?_eq_some_iff.mp hx).1
          rw [List.length_map] at this
          exact this
        have flen := fill_len hues.toNat i
        have p4 : hues.toNat ^ i ≤ 4096 := pow_le_4096 (by omega) (by omega)
        have alen := pairedLen pr
        refine ⟨(by show 0 ≤ sizeLine; decide), fun L nL => ?_⟩
        have nLH : H6 L = none := sm.free nL
        refine ⟨.ref l0, rfl, l0, rfl, ⟨_, .inl (.inl (same_upd nL _ _ hl))⟩, for_list (K := K) (a := l0) (xs := as.map V.ref) (fun i2 σ H5 => Same H3 H5 ∧ IsFills H5 L (((fillL hues.toNat i).take i2).flatMap (longer hues.toNat)) ∧ ∃ y8 y10, σ = [some (.ref tp), some (.int many), some (.int hues), some (.int most), some (.int size), some (.ref l), some (.ref lp), some (.ref l0), y8, some (.ref L), y10, none, none, none, none]) ⟨same_upd nL, ⟨[], upd_same, .nil⟩, _, _, rfl⟩ (fun i2 σ H5 _ pp => .inl (.inl (pp.1 _ _ hl))) (fun i2 x σ H5 hx pp => ?_) (fun σ H5 pp => ?_)⟩
        · obtain ⟨a, ea, rfl⟩ := map_get hx
          obtain ⟨fl, hfl, isr⟩ := pairedGetL pr ea
          obtain ⟨s5, ⟨bs, hL, pb⟩, z2, z4, rfl⟩ := pp
          have blen := pairedLen pb
          refine ⟨.ref L, rfl, .inl ⟨rfl, _, .inl (.inl hL)⟩, .int hues, rfl, hues, rfl, by omega, by omega, fun D nD => lc_range (lo := 0) (n := hues.toNat) (fun j H6 => Same H5 H6 ∧ IsFills H6 D ((longer hues.toNat fl).take j)) ⟨same_upd nD, [], upd_same, .nil⟩ (fun j H6 hj pp => ?_) (fun H6 pp => ?_)⟩
          · obtain ⟨s6, cs, hb, pc⟩ := pp
            have clen := pairedLen pc
            have fin : ∀ (H7 : Hp) (r : Addr), Same H6 H7 → H7 r = some (.tup ((fl ++ [(j : Int)]).map V.int)) → ∃ acc, H7 D = some (.lst acc) ∧ acc.length < sizeLine ∧ (Same H5 (upd H7 D (.lst (acc ++ [.ref r]))) ∧ IsFills (upd H7 D (.lst (acc ++ [.ref r]))) D ((longer hues.toNat fl).take (j + 1))) := fun H7 r s7 hr7 => by
              have hD7 := s7 _ _ hb
              have tu : Tups H7 (upd H7 D (.lst (cs.map V.ref ++ [.ref r]))) := tups_upd fun xs z => by rw [hD7] at z; cases z
              refine ⟨_, hD7, ?_, fun b o e => ?_, cs ++ [r], ?_, ?_⟩
              · rw [List.length_map, clen, List.length_take, longer_len]
                exact small1000 (by omega)
              · rw [upd_ne (ne_of_none e nD)]
                exact s7 _ _ (s6 b o e)
              · rw [upd_same, List.map_append]
                rfl
              · rw [take_snoc (longer_at fl hj)]
                exact pairedSnoc (pairedMap (fun _ _ e => tu _ _ (s7 _ _ e)) pc) (tu _ _ hr7)
            refine ⟨rfl, yes_if ?_⟩
            refine ⟨.ref a, rfl, .int (0 + (j : Int)), rfl, (by show 1 ≤ sizeLine; decide), fun t nt => ?_⟩
            have sT := same_upd (o := .tup [.int (0 + (j : Int))]) nt
            have ha : upd H6 t (.tup [.int (0 + (j : Int))]) a = some (.tup (fl.map V.int)) := sT _ _ (s6 _ _ (s5 _ _ isr))
            have e0 : (0 : Int) + (j : Int) = j := Int.zero_add _
            have flen2 := (fill_good (List.mem_of_getElem? hfl)).1
            refine ⟨a, t, _, _, rfl, rfl, .inl (.inl ha), .inl (.inl upd_same), ?_, fun z => ?_, (fun _ z => nomatch z), fun z _ p np => ?_⟩
            · rw [List.length_map, flen2]
              exact Nat.le_of_lt (small1000 (by show i + 1 ≤ 1000; omega))
            · have z2 : fl = [] := List.map_eq_nil_iff.mp z
              refine fin _ t sT ?_
              rw [upd_same, z2, e0]
              rfl
            · have sp := same_upd (o := .tup (fl.map V.int ++ [.int (0 + (j : Int))])) np
              refine fin _ p (sT.trans sp) ?_
              rw [upd_same, e0, List.map_append]
              rfl
          · obtain ⟨s6, cs, hb, pc⟩ := pp
            rw [List.take_of_length_le (by rw [longer_len]; exact Nat.le_refl _)] at pc
            have hL6 := s6 _ _ hL
            have clen := pairedLen pc
            have tu : Tups H6 (upd H6 L (.lst (bs.map V.ref ++ cs.map V.ref))) := tups_upd fun xs z => by rw [hL6] at z; cases z
            refine ⟨L, D, _, _, rfl, rfl, hL6, hb, ?_, fun b o e => ?_, ⟨bs ++ cs, ?_, ?_⟩, _, _, rfl⟩
            · rw [List.length_map, List.length_map, blen, clen, flat_len, List.length_take, longer_len, flen]
              have : min i2 (hues.toNat ^ i) * hues.toNat ≤ 4096 * 4 := Nat.mul_le_mul (by omega) (by omega)
              exact Nat.le_trans (show _ ≤ 20000 by omega) (by decide)
            · rw [upd_ne (ne_of_none e nL)]
              exact s6 _ _ (s5 b o e)
            · rw [upd_same, List.map_append]
            · rw [take_snoc hfl, List.flatMap_append]
              refine pairedApp (pairedMap (fun _ _ e => tu _ _ (s6 _ _ e)) pb) ?_
              have e : [fl].flatMap (longer hues.toNat) = longer hues.toNat fl := by simp
              rw [e]
              exact pairedMap (fun _ _ e => tu _ _ e) pc
        · obtain ⟨s5, fs5, z2, z4, rfl⟩ := pp
          refine ⟨.ref L, rfl, sm.trans s5, L, nLH, ?_, _, _, _, rfl⟩
          rw [List.length_map, alen, List.take_length] at fs5
          exact fs5
      · obtain ⟨sm, le, nle6, ⟨as, hle, pr⟩, y8, y9, y10, rfl⟩ := p
        rw [List.length_map, psl] at pr
        have E7 := E6.same sm
        have hp7 := sm _ _ hp6
        have nle0 := hn6 _ nle6
        have nlet : le ≠ tp := E6.2.new nle6
        have nlpe : lp ≠ le := ne_of_none hp6 nle6
        obtain ⟨zs0, ez1, ez2, hzs⟩ := pairedZip pr
        have zlen : zs0.length = hues.toNat ^ size.toNat := by
          have := congrArg List.length ez2
          rw [List.length_map, fill_len] at this
          exact this
        have z64 : zs0.length ≤ 64 := by rw [zlen]; exact pow64 (by omega) (by omega)
        have z1p : 1 ≤ zs0.length := by rw [zlen]; exact Nat.pow_pos (by omega)
        have asl : as.length = zs0.length := by rw [← ez1, List.length_map]
        -- count
        refine ⟨.ref le, rfl, le, _, rfl, .inl (.inl (.inl hle)), .ref tp, rfl, .int most, rfl, tp, most, rfl, E7.2, o1, log_small (by omega) (by omega), fun H8 ct D8 c0 c1 => ⟨1, ct, rfl, rfl, _, 1 + ct, rfl, ?_⟩⟩
        rw [List.length_map, asl]
        obtain ⟨v1, v2⟩ : 1 ≤ (if 1 + ct < (zs0.length : Int) then 1 + ct else (zs0.length : Int)) ∧ (if 1 + ct < (zs0.length : Int) then 1 + ct else (zs0.length : Int)) ≤ zs0.length := by split <;> omega
        generalize (if 1 + ct < (zs0.length : Int) then 1 + ct else (zs0.length : Int)) = cnt0 at v1 v2
        have E8 := E7.trans D8
        have hle8 := D8.1 le _ nlet hle
        have hp8 := D8.1 lp _ nlpt hp7
        have tu8 : Tups H3 H8 := D8.tups E7.2
        refine ⟨fun σ Hc => Taped tp H Hc ∧ Hc le = some (.lst (as.map V.ref)) ∧ Hc lp = some (.lst (ps.map V.int)) ∧ Tups H3 Hc ∧ ∃ cnt, 1 ≤ cnt ∧ cnt ≤ (zs0.length : Int) ∧ ∃ y8 y9 y10, σ = [some (.ref tp), some (.int many), some (.int hues), some (.int most), some (.int size), some (.ref l), some (.ref lp), some (.ref le), y8, y9, y10, some (.int cnt), none, none, none], ?_, ?_⟩
        · refine ⟨.ref tp, rfl, tp, 12, rfl, E8.2, by decide, by decide, fun H9 d D9 d0 d1 => ⟨rfl, _, rfl, ite2 (fun _ => ?_) (fun _ => ?_)⟩⟩
          · have E9 := E8.trans D9
            have hle9 := D9.1 le _ nlet hle8
            refine ⟨.ref tp, rfl, .ref le, rfl, le, _, rfl, .inl (.inl (.inl hle9)), tp, _, rfl, E9.2, by rw [List.length_map]; omega, by rw [List.length_map]; exact log_small (by omega) (by omega), fun H10 d2 D10 e0 e1 => ⟨1, d2, rfl, rfl, ?_⟩⟩
            rw [List.length_map] at e1
            exact ⟨E9.trans D10, D10.1 le _ nlet hle9, D10.1 lp _ nlpt (D9.1 lp _ nlpt hp8), tu8.trans ((D9.tups E8.2).trans (D10.tups E9.2)), 1 + d2, by omega, by omega, _, _, _, rfl⟩
          · exact ⟨E8.trans D9, D9.1 le _ nlet hle8, D9.1 lp _ nlpt hp8, tu8.trans (D9.tups E8.2), cnt0, v1, v2, _, _, _, rfl⟩
        · rintro σ Hc ⟨Ec, hlec, hpc, tuc, cnt, n1, n2, w8, w9, w10, rfl⟩
          -- rows
          refine ⟨.int cnt, rfl, cnt, rfl, by omega, by omega, fun D nD => ?_⟩
          have nDt := Ec.2.new nD
          have nD0 : H D = none := Ec.free nD
          have nlD : le ≠ D := ne_of_none hlec nD
          refine lc_range (lo := 0) (n := cnt.toNat) (fun i H5 => (∃ acc ls, Pops (fun z : Addr × List Int => V.ref z.1) tp H le D zs0 i H5 acc ls) ∧ Tups H3 H5 ∧ H5 lp = some (.lst (ps.map V.int))) ⟨⟨[], zs0, Ec.put nD0 nDt, ?_, upd_same, rfl, by simp, List.Perm.refl _⟩, tuc.trans (tups_same (same_upd nD)), same_upd nD _ _ hpc⟩ (fun i H5 hi p => ?_) (fun H5 p => ?_)
          · rw [upd_ne nlD, hlec, ← ez1, List.map_map]
            rfl
          · obtain ⟨⟨acc, ls, p⟩, tu5, hp5⟩ := p
            have ll := p.ll
            refine ⟨rfl, yes_if ?_⟩
            refine ⟨.ref le, rfl, .inl ⟨rfl, _, .inl (.inl p.hL)⟩, .ref tp, rfl, .ref le, rfl, le, _, rfl, .inl (.inl (.inl p.hL)), tp, _, rfl, p.fr.2, by rw [List.length_map]; omega, by rw [List.length_map]; exact log_small (by omega) (by omega), fun H6' d D6 d0 d1 => ?_⟩
            rw [List.length_map] at d1
            obtain ⟨y, y1, y2, y3, acc', y4, y5, acc2, ls2, y6⟩ := pop_step nle0 nlet nD0 nDt nlD (by omega) p D6 d0 d1
            have nlpD : lp ≠ D := ne_of_none hpc nD
            have hD6 := y4
            refine ⟨le, ls.map _, d, d.toNat, y, rfl, rfl, y2, by omega, by omega, y3, y1, acc', y4, y5, ⟨acc2, ls2, y6⟩, ?_, ?_⟩
            · refine tu5.trans ((D6.tups p.fr.2).trans ((tups_upd fun xs z => by rw [y2] at z; cases z).trans (tups_upd fun xs z => by rw [y4] at z; cases z)))
            · rw [upd_ne nlpD, upd_ne nlpe]
              exact D6.1 lp _ nlpt hp5
          · obtain ⟨⟨acc, ls, p⟩, tu5, hp5⟩ := p
            have rowsAt : ∀ z ∈ acc, IsRow H5 z.1 z.2 := fun z hz => tu5 _ _ (hzs z (p.pm.mem_iff.mp (List.mem_append_left _ hz)))
            have accIn : ∀ z ∈ acc, z.2 ∈ fillL hues.toNat size.toNat := fun z hz => by
              rw [← ez2]
              exact List.mem_map.mpr ⟨z, p.pm.mem_iff.mp (List.mem_append_left _ hz), rfl⟩
            have accNd : (acc.map (·.2)).Nodup := by
              have a1 : ((acc ++ ls).map (·.2)).Perm (zs0.map (·.2)) := p.pm.map _
              rw [ez2, List.map_append] at a1
              exact (List.nodup_append.mp (a1.nodup_iff.mpr (fill_nodup _ _))).1
            -- the wish
            refine ⟨.ref lp, rfl, lp, _, rfl, .inl ⟨.inl (.inl hp5), fun t1 nt1 => ?_⟩⟩
            have q1 := same_upd (o := .tup (ps.map V.int)) nt1
            generalize hH6 : upd H5 t1 (.tup (ps.map V.int)) = H7 at q1
            have ht1 : H7 t1 = some (.tup (ps.map V.int)) := by rw [← hH6]; exact upd_same
            have hD7 := q1 _ _ p.hD
            have rows7 : ∀ z ∈ acc, IsRow H7 z.1 z.2 := fun z hz => q1 _ _ (rowsAt z hz)
            have eqr : acc.map (fun z => rowAt H7 z.1) = acc.map (·.2) := List.map_congr_left fun z hz => rowAt_of (rows7 z hz)
            refine ⟨.ref D, rfl, D, acc.map (·.1), rowAt H7, ps.length, hues, rfl, .inl (.inl (by rw [hD7, List.map_map]; rfl)), by omega, fun t ht => ?_, fun ts' so pm pw nso => ?_⟩
            · obtain ⟨z, hz, rfl⟩ := List.mem_map.mp ht
              have fg := fill_good (accIn z hz)
              rw [rowAt_of (rows7 z hz)]
              exact ⟨rows7 z hz, by omega, fun h hh => by have := fg.2 h hh; omega⟩
            have q2 := same_upd (o := .lst (ts'.map V.ref)) nso
            refine ⟨so, _, rfl, .inl ⟨.inl (.inl upd_same), fun t2 nt2 => ?_⟩⟩
            have q3 := q2.trans (same_upd (o := .tup (ts'.map V.ref)) nt2)
            refine ⟨(by show 2 ≤ sizeLine; decide), fun wa nwa => ?_⟩
            have q4 := same_upd (o := .tup [.ref t1, .ref t2]) nwa
            have q5 := q3.trans q4
            have permR : (ts'.map (rowAt H7)).Perm (acc.map (·.2)) := by
              have := pm.map (rowAt H7)
              rw [List.map_map] at this
              rw [← eqr]
              exact this
            have hts : ∀ t ∈ ts', IsRow H7 t (rowAt H7 t) := fun t ht => by
              obtain ⟨z, hz, rfl⟩ := List.mem_map.mp (pm.mem_iff.mp ht)
              rw [rowAt_of (rows7 z hz)]
              exact rows7 z hz
            have la := p.la
            have lr : (ts'.map (rowAt H7)).length = cnt.toNat := by rw [permR.length_eq, List.length_map, la]
            refine q _ wa (ps, ts'.map (rowAt H7)) ((p.fr.same q1).same q5) ⟨t1, t2, ts', upd_same, q5 _ _ ht1, q4 _ _ upd_same, pairedMap (fun _ _ e => q5 _ _ e) (pairedOf hts)⟩ ⟨?_, ?_, psb, ?_, ?_, fun r hr => ?_⟩ ⟨prise, permR.nodup_iff.mpr accNd⟩
            · show 1 ≤ ps.length
              omega
            · show ps.length ≤ 3
              omega
            · show 1 ≤ (ts'.map (rowAt H7)).length
              omega
            · show (ts'.map (rowAt H7)).length ≤ 64
              omega
            · obtain ⟨z, hz, rfl⟩ := List.mem_map.mp (permR.mem_iff.mp hr)
              have fg := fill_good (accIn z hz)
              refine ⟨?_, fun h hh => ?_⟩
              · show z.2.length = ps.length
                omega
              · have := fg.2 h hh
                omega
end
end Rd

set_option Elab.async false
set_option linter.all false
set_option maxRecDepth 100000
set_option maxHeartbeats 4000000
namespace Rd
open PySem PySem.Spec PyProof.Rows L2 Dt
abbrev sSzs : Stmt := topS 22
abbrev nSzs : List Str := ["tape", "small", "some"]
theorem scSzs : FnScope nSzs ["tape", "small"] (defScope sSzs) := ⟨rfl, rfl, rfl, by decide +kernel, rfl, by decide +kernel, by decide +kernel⟩
abbrev sRid : Stmt := topS 23
abbrev nRid : List Str := ["tape", "small", "many", "hues", "wishes", "k"]
theorem scRid : FnScope nRid ["tape", "small"] (defScope sRid) := ⟨rfl, rfl, rfl, by decide +kernel, rfl, by decide +kernel, by decide +kernel⟩
def szOk (p : Int × Int) : Prop := 1 ≤ p.1 ∧ p.1 ≤ 6 ∧ 2 ≤ p.2 ∧ p.2 ≤ 4 ∧ p.2.toNat ^ p.1.toNat ≤ 256
def szA : List (Int × Int) := [(3, 2), (2, 3), (4, 2), (3, 3), (5, 2), (2, 2), (2, 4), (1, 3), (1, 2), (1, 4), (2, 3), (3, 2)]
def szB : List (Int × Int) := [(6, 2), (4, 3), (3, 4), (5, 3), (4, 4), (5, 2), (3, 3), (4, 2), (2, 4), (6, 2), (1, 2), (5, 2)]
theorem szA_ok : ∀ p ∈ szA, szOk p := by unfold szOk szA; decide
theorem szB_ok : ∀ p ∈ szB, szOk p := by unfold szOk szB; decide
def spSzs : Sp := fun vs H Q _ => ∃ (tp : Addr) (sm : Bool), vs = [.ref tp, .bl sm] ∧ Tape H tp ∧ ∀ H' t many hues, Taped tp H H' → H' t = some (.tup [.int many, .int hues]) → szOk (many, hues) → Q (.ref t) H'
def spRid : Sp := fun vs H Q _ => ∃ (tp : Addr) (sm : Bool), vs = [.ref tp, .bl sm] ∧ Tape H tp ∧
  ∀ H' ri many hues wds, Taped tp H H' → IsRid H' ri many hues wds → GoodR many hues wds → (∀ wd ∈ wds, Neat wd) → szOk (many, hues) → Q (.ref ri) H'
def spTab : Sp := fun vs H Q _ => ∃ (tp ri : Addr) (many hues most : Int) (z : V), vs = [.ref tp, .ref ri, .int most] ∧ Tape H tp ∧ H ri = some (.tup [.int many, .int hues, z]) ∧ 1 ≤ many ∧ many ≤ 6 ∧ 2 ≤ hues ∧ hues ≤ 4 ∧ 1 ≤ most ∧ most ≤ 900 ∧
  ∀ H' ta tb, Taped tp H H' → IsTab (Old H) H' ta tb → GoodT many hues tb → (∀ ds ∈ tb, (ds.length : Int) ≤ most) → Q (.ref ta) H'
def spOrd : Sp := fun vs H Q _ => ∃ (tp : Addr) (n : Int), vs = [.ref tp, .int n] ∧ Tape H tp ∧ 0 ≤ n ∧ n ≤ 20 ∧
  ∀ H' oa ord, Taped tp H H' → H' oa = some (.tup (ord.map V.int)) → GoodO n.toNat ord → ord.Perm (rngI n) → Q (.ref oa) H'
structure TxtR (P : Program) (w : World) (K : PySem.W.Frag) (mg : Str → Option Value) (base : Heap) : Prop extends TxtW P w K mg base where
  c__law_wish : Cal P w K mg base 2 "_law_wish" ["tape", "many", "hues", "most"] spWis
  c__law_sizes : Cal P w K mg base 2 "_law_sizes" ["tape", "small"] spSzs
theorem goodO_of {n : Int} {ord : List Int} (h0 : 0 ≤ n) (p : ord.Perm (rngI n)) : GoodO n.toNat ord := by
  refine ⟨fun z hz => ?_, fun k hk => ?_, ?_⟩
  · have := rngI_mem (p.mem_iff.mp hz)
    omega
  · exact p.mem_iff.mpr (rngI_all (by omega))
  · rw [p.length_eq, rngI_len]
    exact Nat.le_refl _
section
variable {P : Program} {w : World} {K : PySem.W.Frag} {mg : Str → Option Value} {base : Heap}
theorem ok_szs {f : Addr} {fd : FuncData} {k : Nat} (F : Fun K "_law_sizes" "_law_sizes" sSzs f fd) (T : TxtW P w K mg base) : FnOk P w K mg base CX0 (k + 2) f fd ["tape", "small"] spSzs := by
  refine F.ok scSzs (fun vs H Q E h => ?_) (fun cdv A outer s H vs Q E hr h => ?_)
  · obtain ⟨tp, sm, rfl, _⟩ := h
    rfl
  · obtain ⟨tp, sm, rfl, hT, q⟩ := h
    refine ⟨_, (pss_cons (ps_set (i := 2) scSzs.nd rfl (Or.inl rfl) (show PE _ _ (tLst (pairsT szA)) from (pe_lst (pa_cons (pe_tup (pa_cons pe_int (pa_cons pe_int pa_nil))) (pa_cons (pe_tup (pa_cons pe_int (pa_cons pe_int pa_nil))) (pa_cons (pe_tup (pa_cons pe_int (pa_cons pe_int pa_nil))) (pa_cons (pe_tup (pa_cons pe_int (pa_cons pe_int pa_nil))) (pa_cons (pe_tup (pa_cons pe_int (pa_cons pe_int pa_nil))) (pa_cons (pe_tup (pa_cons pe_int (pa_cons pe_int pa_nil))) (pa_cons (pe_tup (pa_cons pe_int (pa_cons pe_int pa_nil))) (pa_cons (pe_tup (pa_cons pe_int (pa_cons pe_int pa_nil))) (pa_cons (pe_tup (pa_cons pe_int (pa_cons pe_int pa_nil))) (pa_cons (pe_tup (pa_cons pe_int (pa_cons pe_int pa_nil))) (pa_cons (pe_tup (pa_cons pe_int (pa_cons pe_int pa_nil))) (pa_cons (pe_tup (pa_cons pe_int (pa_cons pe_int pa_nil))) pa_nil)))))))))))))))
  (C8.pss_cut (ps_if (pt_not (pt_val (pv 1)))
  (pss_one (ps_set (i := 2) scSzs.nd rfl (Or.inl rfl) (show PE _ _ (tLst (pairsT szB)) from (pe_lst (pa_cons (pe_tup (pa_cons pe_int (pa_cons pe_int pa_nil))) (pa_cons (pe_tup (pa_cons pe_int (pa_cons pe_int pa_nil))) (pa_cons (pe_tup (pa_cons pe_int (pa_cons pe_int pa_nil))) (pa_cons (pe_tup (pa_cons pe_int (pa_cons pe_int pa_nil))) (pa_cons (pe_tup (pa_cons pe_int (pa_cons pe_int pa_nil))) (pa_cons (pe_tup (pa_cons pe_int (pa_cons pe_int pa_nil))) (pa_cons (pe_tup (pa_cons pe_int (pa_cons pe_int pa_nil))) (pa_cons (pe_tup (pa_cons pe_int (pa_cons pe_int pa_nil))) (pa_cons (pe_tup (pa_cons pe_int (pa_cons pe_int pa_nil))) (pa_cons (pe_tup (pa_cons pe_int (pa_cons pe_int pa_nil))) (pa_cons (pe_tup (pa_cons pe_int (pa_cons pe_int pa_nil))) (pa_cons (pe_tup (pa_cons pe_int (pa_cons pe_int pa_nil))) pa_nil)))))))))))))))) pss_nil)
  (pss_one (ps_ret (pe_ix ix_list (pv 2) (pe_cal T.c__law_digit (hr.mono (by omega)) (by rfl) (pa_cons (pv 0) (pa_cons pe_int pa_nil))) (fun _ _ => rfl)))))), ?_⟩
    refine pairs_set (prs := szA) (by decide) fun l ts H1 s1 nl hl pr => ?_
    refine ⟨fun σ H' => Same H H' ∧ ∃ l ts prs, H l = none ∧ H' l = some (.lst (ts.map V.ref)) ∧ Paired (IsPr H') ts prs ∧ prs.length = 12 ∧ (∀ p ∈ prs, szOk p) ∧ σ = [some (.ref tp), some (.bl sm), some (.ref l)], ?_, ?_⟩
    · refine ⟨.bl sm, rfl, sm, rfl, ite2 (fun e => ?_) (fun e => ?_)⟩
      · refine pairs_asg (prs := szB) (by decide) fun l2 ts2 H2 s2 nl2 hl2 pr2 => ?_
        exact ⟨s1.trans s2, l2, ts2, szB, s1.free nl2, hl2, pr2, rfl, szB_ok, rfl⟩
      · exact ⟨s1, l, ts, szA, nl, hl, pr, rfl, szA_ok, rfl⟩
    · rintro σ H2 ⟨s2, l2, ts2, prs, nl2, hl2, pr2, lp, okp, rfl⟩
      have hT2 := hT.same s2
      have nlt : l2 ≠ tp := hT.new nl2
      refine ⟨.ref l2, rfl, .ref tp, rfl, tp, 12, rfl, hT2, by decide, by decide, fun H3 d D3 d0 d1 => ?_⟩
      have hd : d.toNat < ts2.length := by rw [pairedLen pr2]; omega
      obtain ⟨p, hp, isp⟩ := pairedGetL pr2 (List.getElem?_eq_getElem hd)
      refine ⟨l2, _, d, _, rfl, rfl, .inl (.inl (D3.1 _ _ nlt hl2)), atI_of d0 (List.getElem?_eq_getElem hd), ?_⟩
      exact q H3 _ p.1 p.2 ((Taped.refl hT).same s2 |>.trans D3) (D3.tups hT2 _ _ isp) (okp p (List.mem_of_getElem? hp))
theorem ok_rid {f : Addr} {fd : FuncData} {k : Nat} (F : Fun K "_law_riddle" "_law_riddle" sRid f fd) (T : TxtR P w K mg base) : FnOk P w K mg base CX0 (k + 3) f fd ["tape", "small"] spRid := by
  refine F.ok scRid (fun vs H Q E h => ?_) (fun cdv A outer s H vs Q E hr h => ?_)
  · obtain ⟨tp, sm, rfl, _⟩ := h
    rfl
  · obtain ⟨tp, sm, rfl, hT, q⟩ := h
    refine ⟨_, (pss_cons (ps_asg (pe_cal T.c__law_sizes (hr.mono (by omega)) (by rfl) (pa_cons (pv 0) (pa_cons (pv 1) pa_nil))) (pg_tup rfl (pgs_cons (pg_name (i := 2) scRid.nd rfl (Or.inr rfl)) (pgs_cons (pg_name (i := 3) scRid.nd rfl (Or.inr rfl)) pgs_nil))))
  (pss_cons (ps_setLc (i := 4) (te := tCall spWis [] E0 (tCons (tVar 0) (tCons (tVar 2) (tCons (tVar 3) (tCons (tC (.int 2)) tNil))))) (own := [("k", 5)]) rfl scRid.nd rfl rfl (sw_true rfl rfl rfl (by decide +kernel)) (pi_range1 (by rfl) T.m_range (pa_cons (pe_cal T.c__law_digit (hr.mono (by omega)) (by rfl) (pa_cons (pv 0) (pa_cons pe_int pa_nil))) pa_nil)) (blkOk_by (own := [("k", 5)]) (N := nRid) (sc := defScope sRid) (by decide +kernel))
   (fun _ _ _ _ _ => (pg_name (i := 5) scRid.nd rfl (Or.inl rfl))) (fun _ _ _ _ _ => pts_nil) (fun _ _ _ _ _ => (pe_cal T.c__law_wish (hr.mono (by omega)) (by rfl) (pa_cons (pv 0) (pa_cons (pv 2) (pa_cons (pv 3) (pa_cons pe_int pa_nil)))))))
  (pss_one (ps_ret (pe_tup (pa_cons (pv 2) (pa_cons (pv 3) (pa_cons (pe_callTy call_tuple_of (by rfl) T.m_tuple (by decide +kernel) (pa_cons (pv 4) pa_nil)) pa_nil)))))))), ?_⟩
    refine ⟨.ref tp, rfl, .bl sm, rfl, tp, sm, rfl, hT, fun H1 t many hues D1 ht ok => ?_⟩
    obtain ⟨k1, k6, hh2, hh4, kp⟩ := id ok
    dsimp only at k1 k6 hh2 hh4
    refine ⟨t, _, rfl, .inl (.inl ht), rfl, .int many, [.int hues], rfl, .int hues, [], rfl, rfl, ?_⟩
    refine ⟨.ref tp, rfl, tp, 9, rfl, D1.2, by decide, by decide, fun H2 nn D2 n0 n1 => ⟨nn, rfl, by omega, by omega, fun lw nlw => ?_⟩⟩
    have E2 := D1.trans D2
    have nw := E2.2.new nlw
    have nw0 : H lw = none := E2.free nlw
    refine lc_range (lo := 0) (n := nn.toNat) (fun i H3 => Taped tp H H3 ∧ ∃ (was : List Addr) (wds : List WD), H3 lw = some (.lst (was.map V.ref)) ∧ was.length = i ∧ Paired (IsWish H3) was wds ∧ (∀ wd ∈ wds, Good many hues wd) ∧ ∀ wd ∈ wds, Neat wd) ⟨E2.put nw0 nw, [], [], upd_same, rfl, .nil, (fun _ h => nomatch h), (fun _ h => nomatch h)⟩ (fun i H3 hi p => ?_) (fun H3 p => ?_)
    · obtain ⟨E3, was, wds, hw, lw3, pw, gd, ne⟩ := p
      refine ⟨rfl, yes_if ?_⟩
      refine ⟨.ref tp, rfl, .int many, rfl, .int hues, rfl, tp, many, hues, 2, rfl, E3.2, k1, k6, hh2, hh4, by decide, by decide, fun H4 wa wd D4 isw gw nw2 => ?_⟩
      have hw4 := D4.1 lw _ nw hw
      have tu : Tups H4 (upd H4 lw (.lst (was.map V.ref ++ [.ref wa]))) := tups_upd fun xs z => by rw [hw4] at z; cases z
      refine ⟨_, hw4, ?_, (E3.trans D4).put nw0 nw, was ++ [wa], wds ++ [wd], ?_, ?_, pairedSnoc (pairedMap (fun _ _ e => IsWish.mono ((D4.tups E3.2).trans tu) e) pw) (isw.mono tu), ?_, ?_⟩
      · rw [List.length_map, lw3]
        exact small1000 (by omega)
      · rw [upd_same, List.map_append]
        rfl
      · rw [List.length_append, lw3]
        rfl
      · intro wd' h'
        rcases List.mem_append.mp h' with h' | h'
        · exact gd wd' h'
        · rw [List.mem_singleton.mp h']
          exact gw
      · intro wd' h'
        rcases List.mem_append.mp h' with h' | h'
        · exact ne wd' h'
        · rw [List.mem_singleton.mp h']
          exact nw2
    · obtain ⟨E3, was, wds, hw, lw3, pw, gd, ne⟩ := p
      refine ⟨.int many, rfl, .int hues, rfl, .ref lw, rfl, lw, _, rfl, .inl ⟨.inl (.inl hw), fun wt nwt => ?_⟩⟩
      have st := same_upd (o := .tup (was.map V.ref)) nwt
      refine ⟨(by show 3 ≤ sizeLine; decide), fun ri nri => ?_⟩
      have sr := same_upd (o := .tup [.int many, .int hues, .ref wt]) nri
      refine q _ ri many hues wds ((E3.same st).same sr) ⟨wt, was, upd_same, sr _ _ upd_same, pairedMap (fun _ _ e => IsWish.mono (tups_same (st.trans sr)) e) pw⟩ ⟨k1, k6, hh2, hh4, ?_, gd⟩ ne ok
      rw [← pairedLen pw]
      omega
end
end Rd

set_option Elab.async false
set_option linter.all false
set_option maxRecDepth 100000
set_option maxHeartbeats 4000000
namespace Rd
open PySem PySem.Spec PyProof.Rows L2 Dt

def spHues (Ps : List Addr) : Sp := fun vs H Q _ => ∃ (fa pa : Addr) (fs ps : List Int) (many hues : Int), vs = [.ref fa, .ref pa] ∧ H fa = some (.tup (fs.map V.int)) ∧ H pa = some (.tup (ps.map V.int)) ∧ GoodF many hues fs ∧ (∀ p ∈ ps, 0 ≤ p ∧ p < many) ∧ ps.length ≤ 1000 ∧ Tabs Ps H ∧
  ∀ H' t, FrS Ps H H' → H t = none → H' t = some (.tup ((huesA fs ps).map V.int)) → Q (.ref t) H'
def spIsB (Ps : List Addr) : Sp := fun vs H Q _ => ∃ (wa fa : Addr) (fs : List Int) (wd : WD) (many hues : Int), vs = [.ref wa, .ref fa] ∧ IsWish H wa wd ∧ H fa = some (.tup (fs.map V.int)) ∧ GoodF many hues fs ∧ Good many hues wd ∧ many ≤ 6 ∧ hues ≤ 4 ∧ Tabs Ps H ∧
  ∀ H', FrS Ps H H' → Q (.bl (brk fs wd)) H'
def spSta (Ps : List Addr) : Sp := fun vs H Q _ => ∃ (ta ka : Addr) (tb : List (List Int)) (tk : List Int), vs = [.ref ta, .ref ka] ∧ IsTab (fun _ => False) H ta tb ∧ H ka = some (.lst (tk.map V.int)) ∧ GoodK tb tk ∧ tb.length ≤ 1000 ∧ Tabs Ps H ∧
  ∀ H' t, FrS Ps H H' → H t = none → H' t = some (.tup ((stand tb tk).map V.int)) → Q (.ref t) H'
def vOpt : Option Int → V
  | some k => .int k
  | none => .non
def spFib (Ps : List Addr) : Sp := fun vs H Q _ => ∃ (wt oa fa : Addr) (was : List Addr) (wds : List WD) (ord fs : List Int) (many hues : Int), vs = [.ref wt, .ref oa, .ref fa] ∧ H wt = some (.tup (was.map V.ref)) ∧ Paired (IsWish H) was wds ∧ GoodR many hues wds ∧ H oa = some (.tup (ord.map V.int)) ∧ (∀ z ∈ ord, 0 ≤ z ∧ z < (wds.length : Int)) ∧ H fa = some (.tup (fs.map V.int)) ∧ GoodF many hues fs ∧ Tabs Ps H ∧
  ∀ H', FrS Ps H H' → Q (vOpt (firstB fs wds ord)) H'
def spHnx (Ps : List Addr) : Sp := fun vs H Q _ => ∃ (ta ka pa : Addr) (tb : List (List Int)) (tk ps : List Int), vs = [.ref ta, .ref ka, .ref pa] ∧ IsTab (fun _ => False) H ta tb ∧ H ka = some (.lst (tk.map V.int)) ∧ tk.length = tb.length ∧ H pa = some (.tup (ps.map V.int)) ∧ (∀ p ∈ ps, 0 ≤ p ∧ p < (tb.length : Int)) ∧ Tabs Ps H ∧
  ∀ H', FrS Ps H H' → Q (.bl (canN tb tk ps)) H'
structure TxtN (mg : Str → Option Value) : Prop where
  m_tuple : mg "tuple" = none
  m_zip : mg "zip" = none
  m_all : mg "all" = none
  m_len : mg "len" = none
structure TxtB (P : Program) (w : World) (K : PySem.W.Frag) (mg : Str → Option Value) (base : Heap) (Ps : List Addr) : Prop where
  c_hues_at : Cal P w K mg base 3 "hues_at" ["filling", "places"] (spHues Ps)
structure TxtC (P : Program) (w : World) (K : PySem.W.Frag) (mg : Str → Option Value) (base : Heap) (Ps : List Addr) : Prop extends TxtB P w K mg base Ps where
  c_is_broken : Cal P w K mg base 4 "is_broken" ["wish", "filling"] (spIsB Ps)
theorem atT {tk : List Int} {p : Int} (h0 : 0 ≤ p) (h1 : p < (tk.length : Int)) : tk[p.toNat]? = some (atF tk p) := by
  have h : p.toNat < tk.length := by omega
  rw [atF, getD_get h]
  exact List.getElem?_eq_getElem h
section
variable {P : Program} {w : World} {K : PySem.W.Frag} {mg : Str → Option Value} {base : Heap}
end
end Rd

set_option Elab.async false
set_option linter.all false
set_option maxRecDepth 100000
set_option maxHeartbeats 4000000
namespace Rd
open PySem PySem.Spec PyProof.Rows L2 Dt
abbrev sCla : Stmt := topS 5
abbrev nCla : List Str := ["one", "other", "place"]
theorem scCla : FnScope nCla ["one", "other"] (defScope sCla) := ⟨rfl, rfl, rfl, by decide +kernel, rfl, by decide +kernel, by decide +kernel⟩
abbrev sCls : Stmt := topS 6
abbrev nCls : List Str := ["riddle", "wishes", "wish", "number", "other"]
theorem scCls : FnScope nCls ["riddle"] (defScope sCls) := ⟨rfl, rfl, rfl, by decide +kernel, rfl, by decide +kernel, by decide +kernel⟩
def spAlf : Sp := fun vs H Q _ => ∃ (many hues : Int), vs = [.int many, .int hues] ∧ 0 ≤ many ∧ many ≤ 6 ∧ 0 ≤ hues ∧ hues ≤ 4 ∧
  ∀ H' l, Same H H' → H l = none → IsFills H' l (fillL hues.toNat many.toNat) → Q (.ref l) H'
def spCla (Ps : List Addr) : Sp := fun vs H Q _ => ∃ (wa wb : Addr) (a b : WD), vs = [.ref wa, .ref wb] ∧ IsWish H wa a ∧ IsWish H wb b ∧ Tabs Ps H ∧ ∀ H', FrS Ps H H' → Q (.bl (clB a b)) H'
/-- a list of new lists, each by itself -/
def IsLL (H H' : Hp) (l : Addr) (rows : List (List Int)) : Prop := ∃ ls : List Addr, H' l = some (.lst (ls.map V.ref)) ∧ Paired (fun la row => H' la = some (.lst (row.map V.int))) ls rows ∧ ls.Nodup ∧ l ∉ ls ∧ ∀ la ∈ ls, H la = none
def spCls (Ps : List Addr) : Sp := fun vs H Q _ => ∃ (ri : Addr) (wds : List WD) (many hues : Int), vs = [.ref ri] ∧ IsRid H ri many hues wds ∧ GoodR many hues wds ∧ Tabs Ps H ∧
  ∀ H' l, FrS Ps H H' → H l = none → IsLL H H' l (clsAll wds) → Q (.ref l) H'
structure TxtF (mg : Str → Option Value) : Prop where
  m_range : mg "range" = none
structure TxtY (mg : Str → Option Value) : Prop where
  m_any : mg "any" = none
structure TxtCs (P : Program) (w : World) (K : PySem.W.Frag) (mg : Str → Option Value) (base : Heap) (Ps : List Addr) : Prop where
  m_enumerate : mg "enumerate" = none
  c_clash : Cal P w K mg base 1 "clash" ["one", "other"] (spCla Ps)
section
variable {P : Program} {w : World} {K : PySem.W.Frag} {mg : Str → Option Value} {base : Heap}
theorem ok_cla {f c Pc : Addr} {Ps : List Addr} {fd : FuncData} {k : Nat} (F : FunC K "clash" "clash" sCla f fd (.ref c)) (TB : GxR.TabB base mg c Pc) (hP : Pc ∈ Ps) (T : TxtY mg) : FnOk P w K mg base CX0 (k + 1) f fd ["one", "other"] (spCla Ps) := by
  refine F.ok scCla (fun vs H Q E h => ?_) (fun A outer s H vs Q E hr h => ?_)
  · obtain ⟨wa, wb, a, b, rfl, _⟩ := h
    rfl
  · obtain ⟨wa, wb, a, b, rfl, ha, hb, hT, q⟩ := h
    refine ⟨_, pss_one (ps_ret (Gv.pe_anyG (x := "place") hr (by rfl) T.m_any TB rfl ⟨rfl, rfl, by decide +kernel, rfl, rfl, fun y hy e => ?_⟩ (pe_ix ix_tup (pv 0) pe_int (fun _ _ => rfl)) (fun _ => rfl))), ?_⟩
    · match y, hy, e with
      | _, .head _, e => exact nomatch e
      | _, .tail _ (.head _), e => exact nomatch e
      | _, .tail _ (.tail _ (.head _)), _ => exact ⟨_, rfl⟩
    obtain ⟨pa, ra, rs, a1, a2, a3, a4⟩ := ha
    obtain ⟨pb, rb, rs2, b1, b2, b3, b4⟩ := hb
    refine ⟨.ref wa, rfl, wa, _, 0, _, rfl, rfl, .inl (.inl a1), rfl, pa, a.1.map V.int, (a.1.map fun p => decide (p ∈ b.1)).map V.bl, rfl, .inr (.inl (.inl a2)), by simp, fun pins => Gv.elt_in0 (j := 1) (ns := b.1) rfl rfl rfl rfl rfl rfl rfl (.inl (.inl b1)) (.inl (.inl b2)) (hT _ hP) hr.units fun i x0 hx => ?_, hT _ hP, _, rfl, fun H2 hb => ?_⟩
    · rw [List.getElem?_map] at hx
      cases e : a.1[i]? with
      | none => rw [e] at hx; cases hx
      | some n =>
        rw [e] at hx
        cases hx
        refine ⟨n, rfl, ?_⟩
        rw [List.getElem?_map, List.getElem?_map, e]
        rfl
    · have fr : FrS Ps H H2 := FrS.one hT hP hb
      have e : (List.map (fun p => decide (p ∈ b.1)) a.1).any id = clB a b := by
        rw [List.any_map]
        rfl
      rw [e]
      exact q H2 fr
theorem ok_cls {f : Addr} {Ps : List Addr} {fd : FuncData} {k : Nat} (F : Fun K "clashing" "clashing" sCls f fd) (T : TxtCs P w K mg base Ps) : FnOk P w K mg base CX0 (k + 2) f fd ["riddle"] (spCls Ps) := by
  refine F.ok scCls (fun vs H Q E h => ?_) (fun cdv A outer s H vs Q E hr h => ?_)
  · obtain ⟨ri, wds, many, hues, rfl, _⟩ := h
    rfl
  · obtain ⟨ri, wds, many, hues, rfl, hrd, gr, hT, q⟩ := h
    refine ⟨_, (pss_cons (ps_set (i := 1) scCls.nd rfl (Or.inr rfl) (pe_ix ix_tup (pv 0) pe_int (fun _ _ => rfl)))
  (pss_one (ps_ret (pe_lc (te := tLc (Et.iEnumT K (tCons (tVar 1) tNil)) (gTup K 2 (gCons (gName 3) (gCons (gName 4) gNil))) (tB (tCall (spCla Ps) [] E0 (tCons (tVar 2) (tCons (tVar 4) tNil)))) (tVar 3) [3, 4]) (own := [("wish", 2)]) rfl scCls.nd  (pi_tup (pv 1)) (blkOk_by (own := [("wish", 2)]) (N := nCls) (sc := defScope sCls) (by decide +kernel))
   (fun _ _ _ _ _ => (pg_name (i := 2) scCls.nd rfl (Or.inr rfl))) (fun _ _ _ _ _ => pts_nil) (fun _ _ _ _ _ => (pe_lc (own := [("number", 3), ("other", 4)]) rfl scCls.nd  (Et.pi_enumT (by rfl) T.m_enumerate (pa_cons (pv 1) pa_nil)) (blkOk_by (own := [("number", 3), ("other", 4)]) (N := nCls) (sc := { kind := .function, names := [(".0", .local), ("wish", .cell), ("enumerate", .globalImplicit), ("wishes", .cell)], isGenerator := false, isCoroutine := false }) (by decide +kernel))
   (fun _ _ _ _ _ => (pg_tup rfl (pgs_cons (pg_name (i := 3) scCls.nd rfl (Or.inl rfl)) (pgs_cons (pg_name (i := 4) scCls.nd rfl (Or.inl rfl)) pgs_nil)))) (fun _ _ _ _ _ => pts_one (pt_val (pe_cal T.c_clash (hr.mono (by omega)) (by rfl) (pa_cons (pv 2) (pa_cons (pv 4) pa_nil))))) (fun _ _ _ _ _ => (pv 3)))))))), ?_⟩
    obtain ⟨wt, was, h1, h2, h3⟩ := id hrd
    have hl : was.length = wds.length := pairedLen h3
    have e8 := gr.eight
    refine ⟨.ref ri, rfl, ri, _, 2, _, rfl, rfl, .inl (.inl h1), rfl, ?_⟩
    refine ⟨.ref wt, rfl, wt, rfl, ⟨_, .inl (.inl h2)⟩, fun D nD => ?_⟩
    refine lc_tup (K := K) (a := wt) (xs := was.map V.ref) (fun i H3 => FrS Ps H H3 ∧ IsLL H H3 D ((wds.take i).map fun wd => clsL wds wd wds.length)) ⟨FrS.of hT (same_upd nD), [], upd_same, .nil, List.nodup_nil, List.not_mem_nil, fun _ z => nomatch z⟩ (fun i H3 _ p => .inl (.inl (p.1.tups hT _ _ h2))) (fun i x H3 hx p => ?_) (fun H3 p => ?_)
    · obtain ⟨fr, ls, hD, pl, nd, nDl, fl⟩ := p
      rw [List.getElem?_map] at hx
      cases ew : was[i]? with
      | none => rw [ew] at hx; cases hx
      | some wa =>
        rw [ew] at hx
        cases hx
        obtain ⟨wd, hwd, isw⟩ := pairedGetL h3 ew
        have hi : i < was.length := (List.getElem?_eq_some_iff.mp ew).1
        refine ⟨rfl, yes_if ?_⟩
        refine ⟨.ref wt, rfl, wt, was.map V.ref, rfl, .inl (.inl (fr.tups hT _ _ h2)), fun D2 nD2 => ?_⟩
        refine Et.lc_enumT (K := K) (a := wt) (xs := was.map V.ref) (fun j H5 => FrS Ps H3 H5 ∧ H5 D2 = some (.lst ((clsL wds wd j).map V.int))) ⟨FrS.of fr.2 (same_upd nD2), upd_same⟩ (fun j H5 _ pp => .inl (.inl ((fr.trans pp.1).tups hT _ _ h2))) (fun j x H5 T2 hx pp nT => ?_) (fun H5 pp => ?_)
        · obtain ⟨fr5, hD5⟩ := pp
          rw [List.getElem?_map] at hx
          cases eb : was[j]? with
          | none => rw [eb] at hx; cases hx
          | some wb =>
            rw [eb] at hx
            cases hx
            obtain ⟨wd2, hwd2, isw2⟩ := pairedGetL h3 eb
            have hj : j < was.length := (List.getElem?_eq_some_iff.mp eb).1
            have sT := same_upd (o := .tup [.int (j : Nat), .ref wb]) nT
            have fr6 := (fr.trans fr5).same sT
            have t6 := fr6.tups hT
            refine ⟨T2, [.int j, .ref wb], rfl, .inl (.inl upd_same), rfl, .int j, [.ref wb], rfl, .ref wb, [], rfl, rfl, rfl, ?_⟩
            refine ⟨.ref wa, rfl, .ref wb, rfl, wa, wb, wd, wd2, rfl, isw.mono t6, isw2.mono t6, fr6.2, fun H7 fr7 => ⟨_, rfl, ?_⟩⟩
            have fr57 := (fr5.same sT).trans fr7
            have hD7 : H7 D2 = some (.lst ((clsL wds wd j).map V.int)) := (fr7.seqs fr6.2).2 _ _ (sT _ _ hD5)
            have ec := clAt_of (a := wd) hwd2
            refine ite2 (fun e => ?_) (fun e => ?_)
            · refine ⟨.int j, rfl, _, hD7, ?_, fr57.put nD2 (fr.2.new nD2), ?_⟩
              · rw [List.length_map]
                have := clsL_len wds wd j
                exact small1000 (by omega)
              · rw [upd_same, clsL_yes (ec.trans e), List.map_append]
                rfl
            · refine ⟨fr57, ?_⟩
              rw [clsL_no (ec.trans (by simpa using e))]
              exact hD7
        · obtain ⟨fr5, hD5⟩ := pp
          rw [List.length_map, hl] at hD5
          have hD5' := (fr5.seqs fr.2).2 _ _ hD
          have nn : H D2 = none := fr.free nD2
          have nDD : D2 ≠ D := fun z => by rw [z, hD] at nD2; cases nD2
          have lsl := pairedLen pl
          have keepL : ∀ la row, H3 la = some (.lst row) → la ≠ D → upd H5 D (.lst (ls.map V.ref ++ [.ref D2])) la = some (.lst row) := fun la row e n => by
            rw [upd_ne n]
            exact (fr5.seqs fr.2).2 _ _ e
          have inl : ∀ {l : List Addr} {m : List (List Int)}, Paired (fun la row => H3 la = some (.lst (row.map V.int))) l m → D ∉ l → Paired (fun la row => upd H5 D (.lst (ls.map V.ref ++ [.ref D2])) la = some (.lst (row.map V.int))) l m := fun {l m} p => by
            induction p with
            | nil => exact fun _ => .nil
            | cons h t ih => exact fun n => .cons (keepL _ _ h (fun z => n (by rw [z]; exact List.mem_cons_self))) (ih fun z => n (List.mem_cons_of_mem _ z))
          have n2 : D2 ∉ ls := fun z => by
            obtain ⟨j, hj⟩ := List.getElem?_of_mem z
            obtain ⟨row, _, e⟩ := pairedGetL pl hj
            rw [nD2] at e
            cases e
          refine ⟨_, hD5', ?_, (fr.trans fr5).put nD (hT.new nD), ls ++ [D2], ?_, ?_, ?_, ?_, ?_⟩
          · rw [List.length_map, lsl, List.length_map, List.length_take]
            exact small1000 (by omega)
          · rw [upd_same, List.map_append]
            rfl
          · rw [take_snoc hwd, List.map_append]
            refine pairedSnoc (inl pl nDl) ?_
            rw [upd_ne nDD]
            exact hD5
          · exact List.nodup_append.mpr ⟨nd, by simp, fun a ha b hb e => n2 (by rw [← List.mem_singleton.mp hb, ← e]; exact ha)⟩
          · exact fun z => (List.mem_append.mp z).elim nDl fun z => nDD (List.mem_singleton.mp z).symm
          · exact fun la z => (List.mem_append.mp z).elim (fl la) fun z => by rw [List.mem_singleton.mp z]; exact nn
    · obtain ⟨fr, ll⟩ := p
      rw [List.length_map, hl, List.take_length] at ll
      exact q H3 D fr nD ll
end
end Rd

set_option Elab.async false
set_option linter.all false
set_option maxRecDepth 100000
set_option maxHeartbeats 4000000
namespace Rd
open PySem PySem.Spec PyProof.Rows L2 Dt
abbrev sGcd : Stmt := topS 1
abbrev nGcd : List Str := ["one", "other"]
theorem scGcd : FnScope nGcd ["one", "other"] (defScope sGcd) := ⟨rfl, rfl, rfl, by decide +kernel, rfl, by decide +kernel, by decide +kernel⟩
abbrev sLow : Stmt := topS 2
abbrev nLow : List Str := ["above", "below", "divisor"]
theorem scLow : FnScope nLow ["above", "below"] (defScope sLow) := ⟨rfl, rfl, rfl, by decide +kernel, rfl, by decide +kernel, by decide +kernel⟩
abbrev sFnu : Stmt := topS 4
abbrev nFnu : List Str := ["many", "hues", "number", "place"]
theorem scFnu : FnScope nFnu ["many", "hues"] (defScope sFnu) := ⟨rfl, rfl, rfl, by decide +kernel, rfl, by decide +kernel, by decide +kernel⟩
abbrev sShr : Stmt := topS 9
abbrev nShr : List Str := ["wish", "hues", "places", "rows"]
theorem scShr : FnScope nShr ["wish", "hues"] (defScope sShr) := ⟨rfl, rfl, rfl, by decide +kernel, rfl, by decide +kernel, by decide +kernel⟩
abbrev sRoo : Stmt := topS 10
abbrev nRoo : List Str := ["weights", "number", "clashes", "above", "below", "other"]
theorem scRoo : FnScope nRoo ["weights", "number", "clashes"] (defScope sRoo) := ⟨rfl, rfl, rfl, by decide +kernel, rfl, by decide +kernel, by decide +kernel⟩
abbrev sAtm : Stmt := topS 11
abbrev nAtm : List Str := ["one", "other"]
theorem scAtm : FnScope nAtm ["one", "other"] (defScope sAtm) := ⟨rfl, rfl, rfl, by decide +kernel, rfl, by decide +kernel, by decide +kernel⟩
abbrev sSho : Stmt := topS 12
abbrev nSho : List Str := ["riddle", "weights", "many", "hues", "wishes", "number", "clashes"]
theorem scSho : FnScope nSho ["riddle", "weights"] (defScope sSho) := ⟨rfl, rfl, rfl, by decide +kernel, rfl, by decide +kernel, by decide +kernel⟩
def spGcd : Sp := fun vs H Q _ => ∃ (a b : Int), vs = [.int a, .int b] ∧ 0 ≤ a ∧ 0 ≤ b ∧ ∀ H', Same H H' → Q (.int (gcdI a b)) H'
def spLow : Sp := fun vs H Q _ => ∃ (a b : Int), vs = [.int a, .int b] ∧ 0 ≤ a ∧ 1 ≤ b ∧ b.natAbs.log2 < 9000 ∧ ∀ H' t, Same H H' → H t = none → IsPr H' t (lowI a b) → Q (.ref t) H'
def spFnu : Sp := fun vs H Q _ => ∃ (many hues : Int), vs = [.int many, .int hues] ∧ 0 ≤ many ∧ many ≤ 6 ∧ 0 ≤ hues ∧ hues ≤ 4 ∧ Q (.int (hues ^ many.toNat)) H
def spShr : Sp := fun vs H Q _ => ∃ (wa : Addr) (wd : WD) (many hues : Int), vs = [.ref wa, .int hues] ∧ IsWish H wa wd ∧ Good many hues wd ∧ 2 ≤ hues ∧ hues ≤ 4 ∧ ∀ H' t, Same H H' → H t = none → IsPr H' t (lowI (wd.2.length : Nat) (everyI wd hues)) → Q (.ref t) H'
def spRoo : Sp := fun vs H Q _ => ∃ (wl cl : Addr) (i : Nat) (ws : List Fc) (l : List Int), vs = [.ref wl, .int (i : Nat), .ref cl] ∧ IsFrs H wl ws ∧ GoodW 20000 ws ∧ i < ws.length ∧ H cl = some (.lst (l.map V.int)) ∧ l.length ≤ 8 ∧ (∀ z ∈ l, 0 ≤ z ∧ z.toNat < ws.length) ∧
  ∀ H' t, Same H H' → H t = none → IsPr H' t (lowI (roomF ws i l).1 (roomF ws i l).2) → Q (.ref t) H'
def spAtm : Sp := fun vs H Q _ => ∃ (ta tb : Addr) (x y : Fc), vs = [.ref ta, .ref tb] ∧ IsPr H ta x ∧ IsPr H tb y ∧ 0 ≤ x.1 ∧ x.1 < 2 ^ 60 ∧ 0 ≤ x.2 ∧ x.2 < 2 ^ 60 ∧ Q (.bl (decide (x.1 * y.2 ≤ y.1 * x.2))) H
def spSho (Ps : List Addr) : Sp := fun vs H Q _ => ∃ (ri wl : Addr) (wds : List WD) (many hues : Int) (ws : List Fc), vs = [.ref ri, .ref wl] ∧ IsRid H ri many hues wds ∧ GoodR many hues wds ∧ IsFrs H wl ws ∧ GoodW 20000 ws ∧ ws.length = wds.length ∧ Tabs Ps H ∧
  ∀ H', FrS Ps H H' → Q (.bl (shownB wds hues ws)) H'
structure TxtLo (P : Program) (w : World) (K : PySem.W.Frag) (mg : Str → Option Value) (base : Heap) : Prop where
  c_common_divisor : Cal P w K mg base 1 "common_divisor" ["one", "other"] spGcd
structure TxtSh (P : Program) (w : World) (K : PySem.W.Frag) (mg : Str → Option Value) (base : Heap) : Prop where
  m_len : mg "len" = none
  c_lowest : Cal P w K mg base 2 "lowest" ["above", "below"] spLow
  c_fillings_number : Cal P w K mg base 1 "fillings_number" ["many", "hues"] spFnu
structure TxtRo (P : Program) (w : World) (K : PySem.W.Frag) (mg : Str → Option Value) (base : Heap) : Prop where
  c_lowest : Cal P w K mg base 2 "lowest" ["above", "below"] spLow
structure TxtSo (P : Program) (w : World) (K : PySem.W.Frag) (mg : Str → Option Value) (base : Heap) (Ps : List Addr) : Prop where
  m_all : mg "all" = none
  m_enumerate : mg "enumerate" = none
  c_clashing : Cal P w K mg base 2 "clashing" ["riddle"] (spCls Ps)
  c_share : Cal P w K mg base 3 "share" ["wish", "hues"] spShr
  c_room : Cal P w K mg base 3 "room" ["weights", "number", "clashes"] spRoo
  c_is_at_most : Cal P w K mg base 1 "is_at_most" ["one", "other"] spAtm
section
variable {P : Program} {w : World} {K : PySem.W.Frag} {mg : Str → Option Value} {base : Heap}
theorem ok_gcd {f : Addr} {fd : FuncData} {k : Nat} (F : Fun K "common_divisor" "common_divisor" sGcd f fd) : FnOk P w K mg base CX0 (k + 1) f fd ["one", "other"] spGcd := by
  refine F.ok scGcd (fun vs H Q E h => ?_) (fun cdv A outer s H vs Q E hr h => ?_)
  · obtain ⟨a, b, rfl, _⟩ := h
    rfl
  · obtain ⟨a, b, rfl, ha, hb, q⟩ := h
    refine ⟨_, (pss_cons (ps_while PassesOwn.never (pt_cmpR op_ne (pv 1) pe_int (nomark _))
  (pss_one (ps_par (i := 0) (j := 1) rfl scGcd.nd rfl rfl (by decide) rfl rfl (pa_cons (pv 1) (pa_cons (pe_op op_mod (pv 0) (pv 1)) pa_nil)) (by rfl))))
  (pss_one (ps_ret (pv 0)))), ?_⟩
    refine ⟨fun m σ H1 => Same H H1 ∧ ∃ x y : Int, 0 ≤ x ∧ 0 ≤ y ∧ gcdI x y = gcdI a b ∧ m = y.toNat ∧ σ = [some (.int x), some (.int y)], ⟨b.toNat, fun _ _ e => e, a, b, ha, hb, rfl, rfl, rfl⟩, ?_⟩
    rintro m σ H1 ⟨s1, x, y, hx, hy, e, rfl, rfl⟩
    refine ⟨.int y, rfl, rfl, _, rfl, ite2 (fun c => ?_) (fun c => ?_)⟩
    · have hy0 : y ≠ 0 := fun z => by subst z; exact absurd c (by decide)
      have p0 := Int.emod_nonneg x hy0
      have p1 := Int.emod_lt_of_pos x (show 0 < y by omega)
      refine ⟨fun σ' H' => Same H H' ∧ σ' = [some (.int y), some (.int (x % y))], ?_, ?_⟩
      · rintro σ' H' ⟨s', rfl⟩
        exact ⟨(x % y).toNat, by omega, s', y, x % y, hy, p0, (gcdI_step hx (by omega)).trans e, rfl, rfl⟩
      · refine ⟨.int y, rfl, .int x, rfl, .int y, rfl, x, y, rfl, rfl, (by show 0 < y; omega), .int y, .int (x % y), rfl, s1, rfl⟩
    · have hy0 : y = 0 := by
        by_cases z : y = 0
        · exact z
        · exact absurd (show (!decide (V.int y = V.int 0)) = true by simp [z]) c
      subst hy0
      rw [gcdI_zero hx] at e
      refine ⟨.int x, rfl, ?_⟩
      rw [e]
      exact q H1 s1
theorem ok_low {f : Addr} {fd : FuncData} {k : Nat} (F : Fun K "lowest" "lowest" sLow f fd) (T : TxtLo P w K mg base) : FnOk P w K mg base CX0 (k + 2) f fd ["above", "below"] spLow := by
  refine F.ok scLow (fun vs H Q E h => ?_) (fun cdv A outer s H vs Q E hr h => ?_)
  · obtain ⟨a, b, rfl, _⟩ := h
    rfl
  · obtain ⟨a, b, rfl, ha, hb, hl, q⟩ := h
    refine ⟨_, (pss_cons (ps_set (i := 2) scLow.nd rfl (Or.inl rfl) (pe_cal T.c_common_divisor (hr.mono (by omega)) (by rfl) (pa_cons (pv 0) (pa_cons (pv 1) pa_nil))))
  (pss_one (ps_ret (pe_tup (pa_cons (pe_op op_fdivW (pv 0) (pv 2)) (pa_cons (pe_op op_fdivW (pv 1) (pv 2)) pa_nil)))))), ?_⟩
    have g1 := gcdI_pos (a := a) hb
    have g2 := gcdI_le (a := a) hb
    have gl : (gcdI a b).natAbs.log2 < 9000 := by
      have gn : (gcdI a b).natAbs ≤ b.natAbs := by omega
      have z : (gcdI a b).natAbs ≠ 0 := by omega
      have zb : b.natAbs ≠ 0 := by omega
      exact (Nat.log2_lt z).mpr (Nat.lt_of_le_of_lt gn ((Nat.log2_lt zb).mp hl))
    refine ⟨.int a, rfl, .int b, rfl, a, b, rfl, ha, by omega, fun H1 s1 => ?_⟩
    refine ⟨.int a, rfl, .int (gcdI a b), rfl, a, gcdI a b, rfl, rfl, ⟨by omega, gl⟩, .int b, rfl, .int (gcdI a b), rfl, b, gcdI a b, rfl, rfl, ⟨by omega, gl⟩, (by show 2 ≤ sizeLine; decide), fun t nt => ?_⟩
    exact q _ t (s1.trans (same_upd nt)) (s1.free nt) upd_same
theorem ok_fnu {f : Addr} {fd : FuncData} {k : Nat} (F : Fun K "fillings_number" "fillings_number" sFnu f fd) (T : TxtF mg) : FnOk P w K mg base CX0 (k + 1) f fd ["many", "hues"] spFnu := by
  refine F.ok scFnu (fun vs H Q E h => ?_) (fun cdv A outer s H vs Q E hr h => ?_)
  · obtain ⟨many, hues, rfl, _⟩ := h
    rfl
  · obtain ⟨m, n, rfl, m0, m6, h0, h4, q⟩ := h
    refine ⟨_, (pss_cons (ps_set (i := 2) scFnu.nd rfl (Or.inl rfl) pe_int)
  (pss_cons (ps_for PassesOwn.never rfl (pi_range1 (by rfl) T.m_range (pa_cons (pv 0) pa_nil)) (pg_name (i := 3) scFnu.nd rfl (Or.inl rfl))
  (pss_one (ps_aug (i := 2) scFnu.nd rfl (Or.inl rfl) (pv 1) ip_mul)))
  (pss_one (ps_ret (pv 2))))), ?_⟩
    refine ⟨.int m, rfl, m, rfl, by omega, by omega, for_range (lo := 0) (n := m.toNat) (fun i σ H3 => H3 = H ∧ ∃ y3, σ = [some (.int m), some (.int n), some (.int (n ^ i)), y3]) ⟨rfl, none, by rw [Int.pow_zero]; rfl⟩ (fun i σ H3 hi p => ?_) (fun σ H3 p => ?_)⟩
    · obtain ⟨rfl, y3, rfl⟩ := p
      have b := pow_bd h0 h4 (i := i) (by omega)
      exact ⟨_, rfl, _, rfl, n ^ i, n, rfl, rfl, .inl ⟨by omega, by omega⟩, rfl, _, by rw [Int.pow_succ]; rfl⟩
    · obtain ⟨rfl, y3, rfl⟩ := p
      exact ⟨_, rfl, q⟩
theorem ok_shr {f : Addr} {fd : FuncData} {k : Nat} (F : Fun K "share" "share" sShr f fd) (T : TxtSh P w K mg base) : FnOk P w K mg base CX0 (k + 3) f fd ["wish", "hues"] spShr := by
  refine F.ok scShr (fun vs H Q E h => ?_) (fun cdv A outer s H vs Q E hr h => ?_)
  · obtain ⟨wa, wd, many, hues, rfl, _⟩ := h
    rfl
  · obtain ⟨wa, wd, many, hues, rfl, hw, gw, h2, h4, q⟩ := h
    refine ⟨_, (pss_cons (ps_asg (pv 0) (pg_tup rfl (pgs_cons (pg_name (i := 2) scShr.nd rfl (Or.inl rfl)) (pgs_cons (pg_name (i := 3) scShr.nd rfl (Or.inl rfl)) pgs_nil))))
  (pss_one (ps_ret (pe_cal T.c_lowest (hr.mono (by omega)) (by rfl) (pa_cons (pe_callB call_len_seq (by rfl) T.m_len (by decide +kernel) (pa_cons (pv 3) pa_nil)) (pa_cons (pe_cal T.c_fillings_number (hr.mono (by omega)) (by rfl) (pa_cons (pe_callB call_len_seq (by rfl) T.m_len (by decide +kernel) (pa_cons (pv 2) pa_nil)) (pa_cons (pv 1) pa_nil))) pa_nil)))))), ?_⟩
    obtain ⟨pa, ra, rs, w1, w2, w3, w4⟩ := id hw
    have g3 := gw.three
    have e1 := every_pos (wd := wd) h2
    have e2 := every_le (wd := wd) h2 h4 g3
    refine ⟨.ref wa, rfl, wa, _, rfl, .inl (.inl w1), rfl, .ref pa, [.ref ra], rfl, .ref ra, [], rfl, rfl, ?_⟩
    refine ⟨.ref ra, rfl, ra, _, rfl, .inr (.inl (.inl w3)), .ref pa, rfl, pa, _, rfl, .inr (.inl (.inl w2)), .int hues, rfl, _, hues, rfl, by omega, by rw [List.length_map]; omega, by omega, h4, ?_⟩
    rw [List.length_map, List.length_map, Int.toNat_natCast, pairedLen w4]
    have e1 : 1 ≤ hues ^ wd.1.length := e1
    have e2 : hues ^ wd.1.length ≤ 64 := e2
    exact ⟨_, _, rfl, by omega, e1, log_small (by omega) (by omega), q⟩
theorem ok_roo {f : Addr} {fd : FuncData} {k : Nat} (F : Fun K "room" "room" sRoo f fd) (T : TxtRo P w K mg base) : FnOk P w K mg base CX0 (k + 3) f fd ["weights", "number", "clashes"] spRoo := by
  refine F.ok scRoo (fun vs H Q E h => ?_) (fun cdv A outer s H vs Q E hr h => ?_)
  · obtain ⟨wl, cl, i, ws, l, rfl, _⟩ := h
    rfl
  · obtain ⟨wl, cl, i, ws, l, rfl, hw, gw, hi, hc, l8, lz, q⟩ := h
    refine ⟨_, (pss_cons (ps_asg (pe_ix ix_list (pv 0) (pv 1) (fun _ _ => rfl)) (pg_tup rfl (pgs_cons (pg_name (i := 3) scRoo.nd rfl (Or.inl rfl)) (pgs_cons (pg_name (i := 4) scRoo.nd rfl (Or.inl rfl)) pgs_nil))))
  (pss_cons (ps_for PassesOwn.never rfl (pi_list (pv 2)) (pg_name (i := 5) scRoo.nd rfl (Or.inl rfl))
  (pss_one (ps_if (pt_cmpR op_ne (pv 5) (pv 1) (nomark _))
  (pss_cons (ps_aug (i := 3) scRoo.nd rfl (Or.inl rfl) (pe_op op_sub (pe_ix ix_tup (pe_ix ix_list (pv 0) (pv 5) (fun _ _ => rfl)) pe_int (fun _ _ => rfl)) (pe_ix ix_tup (pe_ix ix_list (pv 0) (pv 5) (fun _ _ => rfl)) pe_int (fun _ _ => rfl))) ip_mul)
  (pss_one (ps_aug (i := 4) scRoo.nd rfl (Or.inl rfl) (pe_ix ix_tup (pe_ix ix_list (pv 0) (pv 5) (fun _ _ => rfl)) pe_int (fun _ _ => rfl)) ip_mul))) pss_nil)))
  (pss_one (ps_ret (pe_cal T.c_lowest (hr.mono (by omega)) (by rfl) (pa_cons (pv 3) (pa_cons (pv 4) pa_nil))))))), ?_⟩
    obtain ⟨ts, h1, h2⟩ := id hw
    have tl := pairedLen h2
    have at_ : ∀ j : Nat, j < ws.length → ∃ t, ts[j]? = some t ∧ IsPr H t (wAt ws j) := fun j hj => by
      have hj2 : j < ts.length := by omega
      obtain ⟨x, hx, is⟩ := pairedGetL h2 (List.getElem?_eq_getElem hj2)
      have := Option.some.inj (hx.symm.trans (wAt_get hj))
      subst this
      exact ⟨_, List.getElem?_eq_getElem hj2, is⟩
    obtain ⟨ti, eti, isi⟩ := at_ i hi
    refine ⟨.ref wl, rfl, .int i, rfl, wl, _, _, _, rfl, rfl, .inl (.inl h1), atI_nat (map_at eti), ti, _, rfl, .inl (.inl isi), rfl, .int (wAt ws i).1, [.int (wAt ws i).2], rfl, .int (wAt ws i).2, [], rfl, rfl, ?_⟩
    refine ⟨.ref cl, rfl, cl, rfl, ⟨_, .inl (.inl hc)⟩, ?_⟩
    refine for_list (K := K) (a := cl) (xs := l.map V.int) (fun j σ H3 => H3 = H ∧ ∃ y5, σ = [some (.ref wl), some (.int i), some (.ref cl), some (.int (roomF ws i (l.take j)).1), some (.int (roomF ws i (l.take j)).2), y5]) ⟨rfl, none, rfl⟩ (fun j σ H3 _ p => by obtain ⟨rfl, _⟩ := p; exact .inl (.inl hc)) (fun j x σ H3 hx p => ?_) (fun σ H3 p => ?_)
    · obtain ⟨z, ez, rfl⟩ := map_get hx
      obtain ⟨rfl, y5, rfl⟩ := p
      have hz := lz z (List.mem_of_getElem? ez)
      obtain ⟨tz, etz, isz⟩ := at_ z.toNat hz.2
      have wz := wAt_ok gw hz.2
      have sn := room_snoc ws i (l.take j) z
      rw [← take_snoc ez] at sn
      refine ⟨.int z, rfl, .int i, rfl, rfl, _, rfl, ite2 (fun e => ?_) (fun e => ?_)⟩
      · have ne : ¬ z = (i : Int) := fun c => by subst c; exact absurd e (by simp)
        rw [stepW, if_neg ne] at sn
        refine ⟨_, rfl, .ref wl, rfl, .int z, rfl, wl, _, _, _, rfl, rfl, .inl (.inl h1), atI_of hz.1 etz, tz, _, 1, _, rfl, rfl, .inl (.inl isz), atI_nat (j := 1) rfl, .ref wl, rfl, .int z, rfl, wl, _, _, _, rfl, rfl, .inl (.inl h1), atI_of hz.1 etz, tz, _, 0, _, rfl, rfl, .inl (.inl isz), atI_nat (j := 0) rfl, _, _, rfl, rfl, _, _, rfl, rfl, .inr ⟨by omega, by omega⟩, ?_⟩
        refine ⟨_, rfl, .ref wl, rfl, .int z, rfl, wl, _, _, _, rfl, rfl, .inl (.inl h1), atI_of hz.1 etz, tz, _, 1, _, rfl, rfl, .inl (.inl isz), atI_nat (j := 1) rfl, _, _, rfl, rfl, .inr ⟨by omega, by omega⟩, rfl, some (.int z), ?_⟩
        rw [sn]
        rfl
      · have eq : z = (i : Int) := by
          by_cases c : z = (i : Int)
          · exact c
          · exact absurd (show (!decide (V.int z = V.int i)) = true by simp [c]) e
        rw [stepW, if_pos eq] at sn
        refine ⟨rfl, some (.int z), ?_⟩
        rw [sn]
        rfl
    · obtain ⟨rfl, y5, rfl⟩ := p
      rw [List.length_map, List.take_length]
      obtain ⟨r1, r2, r3⟩ := room_log gw hi l8 lz
      exact ⟨_, rfl, _, rfl, _, _, rfl, by omega, r2, r3, q⟩
theorem ok_atm {f : Addr} {fd : FuncData} {k : Nat} (F : Fun K "is_at_most" "is_at_most" sAtm f fd) : FnOk P w K mg base CX0 (k + 1) f fd ["one", "other"] spAtm := by
  refine F.ok scAtm (fun vs H Q E h => ?_) (fun cdv A outer s H vs Q E hr h => ?_)
  · obtain ⟨ta, tb, x, y, rfl, _⟩ := h
    rfl
  · obtain ⟨ta, tb, x, y, rfl, ha, hb, x1, x2, x3, x4, q⟩ := h
    refine ⟨_, (pss_one (ps_ret (pe_cmpR op_le (pe_op op_mul (pe_ix ix_tup (pv 0) pe_int (fun _ _ => rfl)) (pe_ix ix_tup (pv 1) pe_int (fun _ _ => rfl))) (pe_op op_mul (pe_ix ix_tup (pv 1) pe_int (fun _ _ => rfl)) (pe_ix ix_tup (pv 0) pe_int (fun _ _ => rfl))) (nomark _)))), ?_⟩
    exact ⟨.ref ta, rfl, ta, _, 0, _, rfl, rfl, .inl (.inl ha), atI_nat (j := 0) rfl, .ref tb, rfl, tb, _, 1, _, rfl, rfl, .inl (.inl hb), atI_nat (j := 1) rfl, _, _, rfl, rfl, .inl ⟨by omega, by omega⟩,
      .ref tb, rfl, tb, _, 0, _, rfl, rfl, .inl (.inl hb), atI_nat (j := 0) rfl, .ref ta, rfl, ta, _, 1, _, rfl, rfl, .inl (.inl ha), atI_nat (j := 1) rfl, _, _, rfl, rfl, .inr ⟨by omega, by omega⟩, _, _, rfl, rfl, q⟩
theorem ok_sho {f c Pt : Addr} {Ps : List Addr} {fd : FuncData} {k : Nat} (F : FunC K "shows_soon" "shows_soon" sSho f fd (.ref c)) (TB : GxR.TabB base mg c Pt) (hP : Pt ∈ Ps) (T : TxtSo P w K mg base Ps) : FnOk P w K mg base CX0 (k + 6) f fd ["riddle", "weights"] (spSho Ps) := by
  refine F.ok scSho (fun vs H Q E h => ?_) (fun A outer s H vs Q E hr h => ?_)
  · obtain ⟨ri, wl, wds, many, hues, ws, rfl, _⟩ := h
    rfl
  · obtain ⟨ri, wl, wds, many, hues, ws, rfl, hrd, gr, hw, gw, el, hT, q⟩ := h
    refine ⟨_, (pss_cons (ps_asg (pv 0) (pg_tup rfl (pgs_cons (pg_name (i := 2) scSho.nd rfl (Or.inl rfl)) (pgs_cons (pg_name (i := 3) scSho.nd rfl (Or.inr rfl)) (pgs_cons (pg_name (i := 4) scSho.nd rfl (Or.inr rfl)) pgs_nil)))))
  (pss_one (ps_ret (Gx.pe_allX (own := [("number", 5), ("clashes", 6)]) (g := gTup K 2 (gCons (gName 5) (gCons (gName 6) gNil))) (te := tCall spAtm [] E0 (tCons (tCall spShr [] E0 (tCons (tOp (rIxT K) (tVar 4) (tVar 5)) (tCons (tVar 3) tNil))) (tCons (tCall spRoo [] E0 (tCons (tVar 1) (tCons (tVar 5) (tCons (tVar 6) tNil)))) tNil))) hr (by rfl) T.m_all rfl scSho.nd TB rfl (blkOk_by (own := [("number", 5), ("clashes", 6)]) (N := nSho) (sc := defScope sSho) (by decide +kernel)) ⟨rfl, by decide +kernel, rfl⟩ (pi_enum (by rfl) T.m_enumerate (pa_cons (pe_cal T.c_clashing (hr.mono (by omega)) (by rfl) (pa_cons (pv 0) pa_nil)) pa_nil))
   (fun _ _ _ _ _ _ hA => (pg_tup rfl (pgs_cons (pg_name (i := 5) scSho.nd rfl (Or.inl rfl)) (pgs_cons (pg_name (i := 6) scSho.nd rfl (Or.inl rfl)) pgs_nil)))) (fun _ _ _ _ _ _ hA => pts_nil) (fun _ _ _ _ _ _ hA => (pe_cal T.c_is_at_most (hA.mono (by omega)) (by rfl) (pa_cons (pe_cal T.c_share (hA.mono (by omega)) (by rfl) (pa_cons (pe_ix ix_tup (pv 4) (pv 5) (fun _ _ => rfl)) (pa_cons (pv 3) pa_nil))) (pa_cons (pe_cal T.c_room (hA.mono (by omega)) (by rfl) (pa_cons (pv 1) (pa_cons (pv 5) (pa_cons (pv 6) pa_nil)))) pa_nil)))))))), ?_⟩
    obtain ⟨wt, was, h1, h2, h3⟩ := id hrd
    have hl : was.length = wds.length := pairedLen h3
    have e8 := gr.eight
    have hh2 := gr.h2
    have hh4 := gr.h4
    refine ⟨.ref ri, rfl, ri, _, rfl, .inl (.inl h1), rfl, .int many, [.int hues, .ref wt], rfl, .int hues, [.ref wt], rfl, .ref wt, [], rfl, rfl, ?_⟩
    refine ⟨.ref ri, rfl, ri, wds, many, hues, rfl, hrd, gr, hT, fun H3 lc f3 nlc ll => ?_⟩
    obtain ⟨ls, hlc, pl, _, _, _⟩ := ll
    have lsl := pairedLen pl
    have cl : (clsAll wds).length = wds.length := by unfold clsAll; rw [List.length_map]
    refine ⟨lc, _, rfl, .inl (.inl hlc), f3.2 _ hP, fun H4 tb => ?_⟩
    have f4 := f3.trans (FrS.one f3.2 hP tb)
    have f34 := FrS.one f3.2 hP tb
    refine Gx.all_enumL (K := K) (a := lc) (xs := ls.map V.ref) (fun i H5 => FrS Ps H3 H5 ∧ ∀ j, j < i → okW wds hues ws j = true) ⟨f34, fun j z => absurd z (Nat.not_lt_zero _)⟩ (fun i H5 _ p => .inl (.inl ((p.1.seqs f3.2).2 _ _ hlc))) (fun i x H5 T5 hx p nT => ?_) (fun H5 p => ?_)
    · obtain ⟨la, ela, rfl⟩ := map_get hx
      obtain ⟨row, hrow, hla⟩ := pairedGetL pl ela
      obtain ⟨f5, no⟩ := p
      obtain ⟨wd, hwd, rfl⟩ : ∃ wd, wds[i]? = some wd ∧ row = clsL wds wd wds.length := by
        unfold clsAll at hrow
        rw [List.getElem?_map] at hrow
        cases e : wds[i]? with
        | none => rw [e] at hrow; cases hrow
        | some wd => rw [e] at hrow; cases hrow; exact ⟨wd, rfl, rfl⟩
      have hi : i < wds.length := (List.getElem?_eq_some_iff.mp hwd).1
      have hiw : i < was.length := by omega
      obtain ⟨wi, hwi, iswi⟩ := pairedGetL h3 (List.getElem?_eq_getElem hiw)
      have ewi : wi = wd := Option.some.inj (hwi.symm.trans hwd)
      subst ewi
      have gwi := gr.each _ (List.mem_of_getElem? hwd)
      have g3 := gwi.three
      have g64 := gwi.few
      have e1 := every_pos (wd := wi) hh2
      have e2 := every_le (wd := wi) hh2 hh4 g3
      have sT := same_upd (o := .tup [.int (i : Nat), .ref la]) nT
      have f6 := f5.same sT
      have f06 := f3.trans f6
      have t06 := f06.tups hT
      refine ⟨T5, [.int i, .ref la], rfl, .inl (.inl upd_same), rfl, .int i, [.ref la], rfl, .ref la, [], rfl, rfl, rfl, yes_if ?_⟩
      generalize upd H5 T5 (.tup [.int (i : Nat), .ref la]) = H6 at sT f6 f06 t06
      refine ⟨.ref wt, rfl, .int i, rfl, wt, _, _, _, rfl, rfl, .inl (.inl (t06 _ _ h2)), atI_nat (map_at (List.getElem?_eq_getElem hiw)), .int hues, rfl, _, wi, many, hues, rfl, iswi.mono t06, gwi, hh2, hh4, fun H7 t7 s7 nt7 p7 => ?_⟩
      have f07 := f06.same s7
      have lz : ∀ z ∈ clsL wds wi wds.length, 0 ≤ z ∧ z.toNat < ws.length := fun z hz => by have := clsL_mem hz; omega
      have l8 : (clsL wds wi wds.length).length ≤ 8 := Nat.le_trans (clsL_len _ _ _) e8
      refine ⟨.ref wl, rfl, .int i, rfl, .ref la, rfl, wl, la, i, ws, _, rfl, hw.seqs (f07.seqs hT), gw, by omega, ((f6.same s7).seqs f3.2).2 _ _ hla, l8, lz, fun H8 t8 s8 nt8 p8 => ?_⟩
      obtain ⟨r1, r2, r3⟩ := room_log gw (show i < ws.length by omega) l8 lz
      obtain ⟨o1, o2, o3, o4⟩ := low_ok (a := (wi.2.length : Nat)) (b := everyI wi hues) (by omega) e1
      refine ⟨t7, t8, _, _, rfl, s8 _ _ p7, p8, o1, by omega, by omega, by omega, _, rfl, ?_⟩
      have eq : decide ((lowI (wi.2.length : Nat) (everyI wi hues)).1 * (lowI (roomF ws i (clsL wds wi wds.length)).1 (roomF ws i (clsL wds wi wds.length)).2).2 ≤ (lowI (roomF ws i (clsL wds wi wds.length)).1 (roomF ws i (clsL wds wi wds.length)).2).1 * (lowI (wi.2.length : Nat) (everyI wi hues)).2) = okW wds hues ws i := by
        rw [okW_of hwd]
        exact decide_eq_decide.mpr (low_le (by omega) e1 (by omega) r2)
      rw [eq]
      have f8 := (f6.same s7).same s8
      cases c : okW wds hues ws i with
      | true =>
        rw [if_pos rfl]
        refine ⟨f8, fun j hj => ?_⟩
        by_cases z : j = i
        · rw [z]; exact c
        · exact no j (by omega)
      | false =>
        rw [if_neg (by decide)]
        have := q H8 (f3.trans f8)
        rw [shown_no hi c] at this
        exact this
    · obtain ⟨f5, no⟩ := p
      rw [List.length_map, lsl, cl] at no
      have := q H5 (f3.trans f5)
      rw [shown_yes no] at this
      exact this
end
end Rd

set_option Elab.async false
set_option linter.all false
set_option maxRecDepth 100000
set_option maxHeartbeats 4000000
namespace Rd
open PySem PySem.Spec PyProof.Rows L2 Dt
abbrev sLwl : Stmt := topS 24
abbrev nLwl : List Str := ["top", "below", "one", "other"]
theorem scLwl : FnScope nLwl ["top", "below"] (defScope sLwl) := ⟨rfl, rfl, rfl, by decide +kernel, rfl, by decide +kernel, by decide +kernel⟩
abbrev sLsh : Stmt := topS 25
abbrev nLsh : List Str := ["riddle", "number", "places", "rows", "every", "place"]
theorem scLsh : FnScope nLsh ["riddle", "number"] (defScope sLsh) := ⟨rfl, rfl, rfl, by decide +kernel, rfl, by decide +kernel, by decide +kernel⟩
abbrev sLca : Stmt := topS 26
abbrev nLca : List Str := ["riddle", "one", "other", "place"]
theorem scLca : FnScope nLca ["riddle", "one", "other"] (defScope sLca) := ⟨rfl, rfl, rfl, by decide +kernel, rfl, by decide +kernel, by decide +kernel⟩
abbrev sLsw : Stmt := topS 27
abbrev nLsw : List Str := ["riddle", "weights", "number", "top", "below", "other", "rows", "every"]
theorem scLsw : FnScope nLsw ["riddle", "weights"] (defScope sLsw) := ⟨rfl, rfl, rfl, by decide +kernel, rfl, by decide +kernel, by decide +kernel⟩
def spLsh : Sp := fun vs H Q _ => ∃ (ri : Addr) (i : Nat) (wds : List WD) (wd : WD) (many hues : Int), vs = [.ref ri, .int (i : Nat)] ∧ IsRid H ri many hues wds ∧ wds[i]? = some wd ∧ Good many hues wd ∧ 2 ≤ hues ∧ hues ≤ 4 ∧
  ∀ H' t, Same H H' → H t = none → IsPr H' t ((wd.2.length : Nat), everyI wd hues) → Q (.ref t) H'
def spLca : Sp := fun vs H Q _ => ∃ (ri : Addr) (i j : Nat) (wds : List WD) (a b : WD) (many hues : Int), vs = [.ref ri, .int (i : Nat), .int (j : Nat)] ∧ IsRid H ri many hues wds ∧ wds[i]? = some a ∧ wds[j]? = some b ∧ GoodR many hues wds ∧
  ∀ H', Same H H' → Q (.bl (clB a b)) H'
def spLsw : Sp := fun vs H Q _ => ∃ (ri wl : Addr) (wds : List WD) (many hues : Int) (ws : List Fc), vs = [.ref ri, .ref wl] ∧ IsRid H ri many hues wds ∧ GoodR many hues wds ∧ IsFrs H wl ws ∧ GoodW 20000 ws ∧ ws.length = wds.length ∧
  ∀ H', Same H H' → Q (.bl (shownB wds hues ws)) H'
structure TxtLl (mg : Str → Option Value) : Prop where
  m_abs : mg "abs" = none
structure TxtLs (mg : Str → Option Value) : Prop where
  m_len : mg "len" = none
structure TxtLw (P : Program) (w : World) (K : PySem.W.Frag) (mg : Str → Option Value) (base : Heap) : Prop where
  m_range : mg "range" = none
  m_len : mg "len" = none
  c__law_clash : Cal P w K mg base 1 "_law_clash" ["riddle", "one", "other"] spLca
  c__law_share : Cal P w K mg base 1 "_law_share" ["riddle", "number"] spLsh
theorem filter_snoc {α : Type} {l : List α} {i : Nat} {x : α} (p : α → Bool) (h : l[i]? = some x) : (l.take (i + 1)).filter p = (l.take i).filter p ++ (if p x = true then [x] else []) := by
  rw [take_snoc h, List.filter_append]
  congr 1
  cases c : p x with
  | true => rw [List.filter_cons_of_pos c, if_pos rfl]; rfl
  | false => rw [List.filter_cons_of_neg (by rw [c]; decide), if_neg (by decide)]; rfl
section
variable {P : Program} {w : World} {K : PySem.W.Frag} {mg : Str → Option Value} {base : Heap}
theorem ok_lwl {f : Addr} {fd : FuncData} {k : Nat} (F : Fun K "_law_lowest" "_law_lowest" sLwl f fd) (T : TxtLl mg) : FnOk P w K mg base CX0 (k + 1) f fd ["top", "below"] spLow := by
  refine F.ok scLwl (fun vs H Q E h => ?_) (fun cdv A outer s H vs Q E hr h => ?_)
  · obtain ⟨a, b, rfl, _⟩ := h
    rfl
  · obtain ⟨a, b, rfl, ha, hb, hl, q⟩ := h
    refine ⟨_, (pss_cons (ps_par (i := 2) (j := 3) rfl scLwl.nd rfl rfl (by decide) rfl rfl (pa_cons (pe_callB call_abs (by rfl) T.m_abs (by decide +kernel) (pa_cons (pv 0) pa_nil)) (pa_cons (pv 1) pa_nil)) (by rfl))
  (pss_cons (ps_while PassesOwn.never (pt_cmpR op_gt (pv 3) pe_int (nomark _))
  (pss_one (ps_par (i := 2) (j := 3) rfl scLwl.nd rfl rfl (by decide) rfl rfl (pa_cons (pv 3) (pa_cons (pe_op op_mod (pv 2) (pv 3)) pa_nil)) (by rfl))))
  (pss_one (ps_ret (pe_tup (pa_cons (pe_op op_fdivW (pv 0) (pv 2)) (pa_cons (pe_op op_fdivW (pv 1) (pv 2)) pa_nil))))))), ?_⟩
    have g1 := gcdI_pos (a := a) hb
    have g2 := gcdI_le (a := a) hb
    have gl : (gcdI a b).natAbs.log2 < 9000 := by
      have gn : (gcdI a b).natAbs ≤ b.natAbs := by omega
      have z : (gcdI a b).natAbs ≠ 0 := by omega
      have zb : b.natAbs ≠ 0 := by omega
      exact (Nat.log2_lt z).mpr (Nat.lt_of_le_of_lt gn ((Nat.log2_lt zb).mp hl))
    have ea : (if a < 0 then -a else a) = a := if_neg (by omega)
    refine ⟨.int a, rfl, a, rfl, .int b, rfl, _, _, rfl, ?_⟩
    rw [ea]
    refine ⟨fun m σ H1 => Same H H1 ∧ ∃ x y : Int, 0 ≤ x ∧ 0 ≤ y ∧ gcdI x y = gcdI a b ∧ m = y.toNat ∧ σ = [some (.int a), some (.int b), some (.int x), some (.int y)], ⟨b.toNat, fun _ _ e => e, a, b, ha, by omega, rfl, rfl, rfl⟩, ?_⟩
    rintro m σ H1 ⟨s1, x, y, hx, hy, e, rfl, rfl⟩
    refine ⟨.int y, rfl, _, _, rfl, rfl, _, rfl, ite2 (fun c => ?_) (fun c => ?_)⟩
    · have hy0 : 0 < y := of_decide_eq_true c
      have p0 := Int.emod_nonneg x (show y ≠ 0 by omega)
      have p1 := Int.emod_lt_of_pos x hy0
      refine ⟨fun σ' H' => Same H H' ∧ σ' = [some (.int a), some (.int b), some (.int y), some (.int (x % y))], ?_, ?_⟩
      · rintro σ' H' ⟨s', rfl⟩
        exact ⟨(x % y).toNat, by omega, s', y, x % y, hy, p0, (gcdI_step hx hy0).trans e, rfl, rfl⟩
      · exact ⟨.int y, rfl, .int x, rfl, .int y, rfl, x, y, rfl, rfl, hy0, .int y, .int (x % y), rfl, s1, rfl⟩
    · have hy0 : y = 0 := by
        by_cases z : 0 < y
        · exact absurd (decide_eq_true z) c
        · omega
      subst hy0
      rw [gcdI_zero hx] at e
      subst e
      refine ⟨.int a, rfl, .int (gcdI a b), rfl, a, gcdI a b, rfl, rfl, ⟨by omega, gl⟩, .int b, rfl, .int (gcdI a b), rfl, b, gcdI a b, rfl, rfl, ⟨by omega, gl⟩, (by show 2 ≤ sizeLine; decide), fun t nt => ?_⟩
      exact q _ t (s1.trans (same_upd nt)) (s1.free nt) upd_same
theorem ok_lsh {f : Addr} {fd : FuncData} {k : Nat} (F : Fun K "_law_share" "_law_share" sLsh f fd) (T : TxtLs mg) : FnOk P w K mg base CX0 (k + 1) f fd ["riddle", "number"] spLsh := by
  refine F.ok scLsh (fun vs H Q E h => ?_) (fun cdv A outer s H vs Q E hr h => ?_)
  · obtain ⟨ri, i, wds, wd, many, hues, rfl, _⟩ := h
    rfl
  · obtain ⟨ri, i, wds, wd, many, hues, rfl, hrd, hwd, gw, h2, h4, q⟩ := h
    refine ⟨_, (pss_cons (ps_asg (pe_ix ix_tup (pe_ix ix_tup (pv 0) pe_int (fun _ _ => rfl)) (pv 1) (fun _ _ => rfl)) (pg_tup rfl (pgs_cons (pg_name (i := 2) scLsh.nd rfl (Or.inl rfl)) (pgs_cons (pg_name (i := 3) scLsh.nd rfl (Or.inl rfl)) pgs_nil))))
  (pss_cons (ps_set (i := 4) scLsh.nd rfl (Or.inl rfl) pe_int)
  (pss_cons (ps_for PassesOwn.never rfl (pi_tup (pv 2)) (pg_name (i := 5) scLsh.nd rfl (Or.inl rfl))
  (pss_one (ps_set (i := 4) scLsh.nd rfl (Or.inl rfl) (pe_op op_mul (pv 4) (pe_ix ix_tup (pv 0) pe_int (fun _ _ => rfl))))))
  (pss_one (ps_ret (pe_tup (pa_cons (pe_callB call_len_seq (by rfl) T.m_len (by decide +kernel) (pa_cons (pv 3) pa_nil)) (pa_cons (pv 4) pa_nil)))))))), ?_⟩
    obtain ⟨wt, was, r1, r2, r3⟩ := id hrd
    have hl : was.length = wds.length := pairedLen r3
    have hi : i < was.length := by have := (List.getElem?_eq_some_iff.mp hwd).1; omega
    obtain ⟨wi, hwi, isw⟩ := pairedGetL r3 (List.getElem?_eq_getElem hi)
    have ewi : wi = wd := Option.some.inj (hwi.symm.trans hwd)
    subst ewi
    obtain ⟨pa, ra, rs, w1, w2, w3, w4⟩ := id isw
    have g3 := gw.three
    refine ⟨.ref ri, rfl, ri, _, 2, _, rfl, rfl, .inl (.inl r1), atI_nat (j := 2) rfl, .int i, rfl, wt, _, _, _, rfl, rfl, .inl (.inl r2), atI_nat (map_at (List.getElem?_eq_getElem hi)), _, _, rfl, .inl (.inl w1), rfl, .ref pa, [.ref ra], rfl, .ref ra, [], rfl, rfl, ?_⟩
    refine ⟨.ref pa, rfl, pa, rfl, ⟨_, .inl (.inl w2)⟩, ?_⟩
    refine for_tup (K := K) (a := pa) (xs := wi.1.map V.int) (fun j σ H3 => H3 = H ∧ ∃ y5, σ = [some (.ref ri), some (.int i), some (.ref pa), some (.ref ra), some (.int (hues ^ j)), y5]) ⟨rfl, none, by rw [Int.pow_zero]; rfl⟩ (fun j σ H3 _ p => by obtain ⟨rfl, _⟩ := p; exact .inl (.inl w2)) (fun j x σ H3 hx p => ?_) (fun σ H3 p => ?_)
    · obtain ⟨rfl, y5, rfl⟩ := p
      have hj : j < wi.1.length := by
        have := (List.getElem?_eq_some_iff.mp hx).1
        rw [List.length_map] at this
        exact this
      have b := pow_bd (show 0 ≤ hues by omega) h4 (i := j) (by omega)
      exact ⟨_, rfl, .ref ri, rfl, ri, _, 1, _, rfl, rfl, .inl (.inl r1), atI_nat (j := 1) rfl, hues ^ j, hues, rfl, rfl, .inl ⟨by omega, by omega⟩, rfl, some x, by rw [Int.pow_succ]; rfl⟩
    · obtain ⟨rfl, y5, rfl⟩ := p
      rw [List.length_map]
      refine ⟨.ref ra, rfl, ra, _, rfl, .inr (.inl (.inl w3)), _, rfl, (by show 2 ≤ sizeLine; decide), fun t nt => ?_⟩
      rw [List.length_map, pairedLen w4]
      exact q _ t (same_upd nt) nt upd_same
theorem ok_lca {f : Addr} {fd : FuncData} {k : Nat} (F : Fun K "_law_clash" "_law_clash" sLca f fd) : FnOk P w K mg base CX0 (k + 1) f fd ["riddle", "one", "other"] spLca := by
  refine F.ok scLca (fun vs H Q E h => ?_) (fun cdv A outer s H vs Q E hr h => ?_)
  · obtain ⟨ri, i, j, wds, a, b, many, hues, rfl, _⟩ := h
    rfl
  · obtain ⟨ri, i, j, wds, a, b, many, hues, rfl, hrd, ha, hb, gr, q⟩ := h
    refine ⟨_, (pss_one (ps_ret (pe_cmpR (op_neD hr.units) (pe_lc (tt := tTest (tOp (rInT K) (tVar 3) (tOp (rIxT K) (tOp (rIxT K) (tOp (rIxT K) (tVar 0) (tC (.int 2))) (tVar 2)) (tC (.int 0))))) (own := [("place", 3)]) rfl scLca.nd  (pi_tup (pe_ix ix_tup (pe_ix ix_tup (pe_ix ix_tup (pv 0) pe_int (fun _ _ => rfl)) (pv 1) (fun _ _ => rfl)) pe_int (fun _ _ => rfl))) (blkOk_by (own := [("place", 3)]) (N := nLca) (sc := defScope sLca) (by decide +kernel))
   (fun _ _ _ _ _ => (pg_name (i := 3) scLca.nd rfl (Or.inl rfl))) (fun _ _ _ _ _ => pts_one (pt_cmpR (Dt.op_inT (units65 hr)) (pv 3) (pe_ix ix_tup (pe_ix ix_tup (pe_ix ix_tup (pv 0) pe_int (fun _ _ => rfl)) (pv 2) (fun _ _ => rfl)) pe_int (fun _ _ => rfl)) (by rfl))) (fun _ _ _ _ _ => (pv 3))) (pe_lst pa_nil) (nomark _)))), ?_⟩
    obtain ⟨wt, was, r1, r2, r3⟩ := id hrd
    have hl : was.length = wds.length := pairedLen r3
    have m6 := gr.m6
    have hi : i < was.length := by have := (List.getElem?_eq_some_iff.mp ha).1; omega
    have hj : j < was.length := by have := (List.getElem?_eq_some_iff.mp hb).1; omega
    obtain ⟨wi, hwi, isa⟩ := pairedGetL r3 (List.getElem?_eq_getElem hi)
    obtain ⟨wj, hwj, isb⟩ := pairedGetL r3 (List.getElem?_eq_getElem hj)
    have ewi : wi = a := Option.some.inj (hwi.symm.trans ha)
    have ewj : wj = b := Option.some.inj (hwj.symm.trans hb)
    subst ewi ewj
    have ga := gr.each _ (List.mem_of_getElem? ha)
    have gb := gr.each _ (List.mem_of_getElem? hb)
    obtain ⟨pa, ra, rs, a1, a2, a3, a4⟩ := id isa
    obtain ⟨pb, rb, ss, b1, b2, b3, b4⟩ := id isb
    have a5 := ga.three
    have fineR : Fine (rowD wj.1) 2 64 := fine_row (fun z hz => by have := gb.pl z hz; omega) (by have := gb.three; omega)
    refine ⟨.ref ri, rfl, ri, _, 2, _, rfl, rfl, .inl (.inl r1), atI_nat (j := 2) rfl, .int i, rfl, wt, _, _, _, rfl, rfl, .inl (.inl r2), atI_nat (map_at (List.getElem?_eq_getElem hi)), _, _, 0, _, rfl, rfl, .inl (.inl a1), atI_nat (j := 0) rfl, pa, rfl, ⟨_, .inl (.inl a2)⟩, fun D nD => ?_⟩
    refine lc_tup (K := K) (a := pa) (xs := wi.1.map V.int) (fun m H3 => Same H H3 ∧ H3 D = some (.lst (((wi.1.take m).filter fun p => decide (p ∈ wj.1)).map V.int))) ⟨same_upd nD, upd_same⟩ (fun m H3 _ p => .inl (.inl (p.1 _ _ a2))) (fun m x H3 hx p => ?_) (fun H3 p => ?_)
    · obtain ⟨z, ez, rfl⟩ := map_get hx
      obtain ⟨s3, hD⟩ := p
      have hz := ga.pl z (List.mem_of_getElem? ez)
      refine ⟨rfl, .int z, rfl, .ref ri, rfl, ri, _, 2, _, rfl, rfl, .inl (.inl (s3 _ _ r1)), atI_nat (j := 2) rfl, .int j, rfl, wt, _, _, _, rfl, rfl, .inl (.inl (s3 _ _ r2)), atI_nat (map_at (List.getElem?_eq_getElem hj)), _, _, 0, _, rfl, rfl, .inl (.inl (s3 _ _ b1)), atI_nat (j := 0) rfl, .int z, wj.1.map PyData.int, .int z, .tup (.inl (.inl (s3 _ _ b2))) (dpInts _), (fine_int hz.1 (by omega)).shaped (by decide), fineR.shaped (by decide), _, rfl, ?_⟩
      rw [Gv.any_ints]
      have sn := filter_snoc (fun p => decide (p ∈ wj.1)) ez
      refine ite2 (fun e => ?_) (fun e => ?_)
      · refine ⟨.int z, rfl, _, hD, ?_, same_put s3 nD, ?_⟩
        · rw [List.length_map]
          have := List.length_filter_le (fun p => decide (p ∈ wj.1)) (wi.1.take m)
          rw [List.length_take] at this
          exact small1000 (by omega)
        · rw [upd_same, sn, if_pos e, List.map_append]
          rfl
      · refine ⟨s3, ?_⟩
        rw [sn, if_neg e, List.append_nil]
        exact hD
    · obtain ⟨s3, hD⟩ := p
      rw [List.length_map, List.take_length] at hD
      refine ⟨(by show 0 ≤ sizeLine; decide), fun l4 nl4 => ?_⟩
      have s4 := same_upd (o := .lst []) nl4
      have fineL : ∀ l : List Int, (∀ p ∈ l, p ∈ wi.1) → Fine (.list (l.map .int)) 2 (l.length * 15) := fun l h1 => fine_ints fun z hz => by have := ga.pl z (h1 z hz); omega
      have f1 := fineL (wi.1.filter fun p => decide (p ∈ wj.1)) fun p hp => (List.mem_filter.mp hp).1
      have f2 := fineL [] fun p hp => nomatch hp
      have fl := List.length_filter_le (fun p => decide (p ∈ wj.1)) wi.1
      refine ⟨_, _, .lst (.inl (.inl (s4 _ _ hD))) (dpInts _), .lst (.inl (.inl upd_same)) .nil, f1.shaped (by omega), f2.shaped (by decide), ?_⟩
      rw [eqv_ints_nil]
      have e : (!decide ((wi.1.filter fun p => decide (p ∈ wj.1)) = [])) = clB wi wj := by
        rw [Bool.eq_iff_iff]
        unfold clB
        rw [List.any_eq_true]
        simp [List.filter_eq_nil_iff]
      rw [e]
      exact q _ (s3.trans s4)
end
end Rd

set_option Elab.async false
set_option linter.all false
set_option maxRecDepth 100000
set_option maxHeartbeats 4000000
namespace Rd
open PySem PySem.Spec PyProof.Rows L2 Dt
abbrev sSpa : Stmt := topS 28
abbrev nSpa : List Str := ["tape", "many", "hues", "wishes", "k", "wish", "turn"]
theorem scSpa : FnScope nSpa ["tape"] (defScope sSpa) := ⟨rfl, rfl, rfl, by decide +kernel, rfl, by decide +kernel, by decide +kernel⟩
abbrev sLwe : Stmt := topS 29
abbrev nLwe : List Str := ["tape", "riddle", "found", "number", "rows", "every", "below", "some", "one"]
theorem scLwe : FnScope nLwe ["tape", "riddle"] (defScope sLwe) := ⟨rfl, rfl, rfl, by decide +kernel, rfl, by decide +kernel, by decide +kernel⟩
def szC : List (Int × Int) := [(6, 2), (5, 2), (4, 3), (3, 3), (5, 3), (3, 4), (4, 2), (3, 2)]
theorem szC_ok : ∀ p ∈ szC, szOk p := by unfold szOk szC; decide
def spSpa : Sp := fun vs H Q _ => ∃ (tp : Addr), vs = [.ref tp] ∧ Tape H tp ∧
  ∀ H' ri many hues wds, Taped tp H H' → IsRid H' ri many hues wds → GoodR many hues wds → (∀ wd ∈ wds, Neat wd) → szOk (many, hues) → Q (.ref ri) H'
def spLwe : Sp := fun vs H Q _ => ∃ (tp ri : Addr) (wds : List WD) (many hues : Int), vs = [.ref tp, .ref ri] ∧ Tape H tp ∧ IsRid H ri many hues wds ∧ GoodR many hues wds ∧
  ∀ H' l ws, Taped tp H H' → H l = none → IsFrs H' l ws → GoodW 150 ws → ws.length = wds.length → Q (.ref l) H'
structure TxtSp (P : Program) (w : World) (K : PySem.W.Frag) (mg : Str → Option Value) (base : Heap) : Prop where
  m_range : mg "range" = none
  m_len : mg "len" = none
  m_tuple : mg "tuple" = none
  c__law_digit : Cal P w K mg base 1 "_law_digit" ["tape", "many"] spDig
  c__law_wish : Cal P w K mg base 2 "_law_wish" ["tape", "many", "hues", "most"] spWis
structure TxtWe (P : Program) (w : World) (K : PySem.W.Frag) (mg : Str → Option Value) (base : Heap) : Prop where
  m_range : mg "range" = none
  m_len : mg "len" = none
  c__law_digit : Cal P w K mg base 1 "_law_digit" ["tape", "many"] spDig
  c__law_lowest : Cal P w K mg base 1 "_law_lowest" ["top", "below"] spLow
  c__law_share : Cal P w K mg base 1 "_law_share" ["riddle", "number"] spLsh
theorem pairs_ixs {K : PySem.W.Frag} {prs : List (Int × Int)} {tb : TE} {g : TG} {u : TS} {D : Ends} {σ : L2.St} {H : Hp} (hl : prs.length ≤ 1000) (h : ∀ l ts H', Same H H' → H l = none → H' l = some (.lst (ts.map V.ref)) → Paired (IsPr H') ts prs → tb σ H' fun y H2 => rIxL K (.ref l) y H2 fun v H3 => g v σ H3 fun σ2 H4 => u D σ2 H4) : tSeq (tAsg (tOp (rIxL K) (tLst (pairsT prs)) tb) g) u D σ H := pairs_list (σ := σ) (H := H) (Q := fun x H1 => tb σ H1 fun y H2 => rIxL K x y H2 fun v H3 => g v σ H3 fun σ2 H4 => u D σ2 H4) hl h
section
variable {P : Program} {w : World} {K : PySem.W.Frag} {mg : Str → Option Value} {base : Heap}
theorem ok_lsw {f : Addr} {fd : FuncData} {k : Nat} (F : Fun K "_law_shown" "_law_shown" sLsw f fd) (T : TxtLw P w K mg base) : FnOk P w K mg base CX0 (k + 2) f fd ["riddle", "weights"] spLsw := by
  refine F.ok scLsw (fun vs H Q E h => ?_) (fun cdv A outer s H vs Q E hr h => ?_)
  · obtain ⟨ri, wl, wds, many, hues, ws, rfl, _⟩ := h
    rfl
  · obtain ⟨ri, wl, wds, many, hues, ws, rfl, hrd, gr, hw, gw, el, q⟩ := h
    refine ⟨_, (pss_cons (ps_for PassesOwn.never rfl (pi_range1 (by rfl) T.m_range (pa_cons (pe_callB call_len_seq (by rfl) T.m_len (by decide +kernel) (pa_cons (pe_ix ix_tup (pv 0) pe_int (fun _ _ => rfl)) pa_nil)) pa_nil)) (pg_name (i := 2) scLsw.nd rfl (Or.inl rfl))
  (pss_cons (ps_asg (pe_ix ix_list (pv 1) (pv 2) (fun _ _ => rfl)) (pg_tup rfl (pgs_cons (pg_name (i := 3) scLsw.nd rfl (Or.inl rfl)) (pgs_cons (pg_name (i := 4) scLsw.nd rfl (Or.inl rfl)) pgs_nil))))
  (pss_cons (ps_for PassesOwn.never rfl (pi_range1 (by rfl) T.m_range (pa_cons (pe_callB call_len_seq (by rfl) T.m_len (by decide +kernel) (pa_cons (pe_ix ix_tup (pv 0) pe_int (fun _ _ => rfl)) pa_nil)) pa_nil)) (pg_name (i := 5) scLsw.nd rfl (Or.inl rfl))
  (pss_one (ps_if (PW.pt (pw_and (pt_cmpR op_ne (pv 5) (pv 2) (nomark _)) (pw_and1 (pt_val (pe_cal T.c__law_clash (hr.mono (by omega)) (by rfl) (pa_cons (pv 0) (pa_cons (pv 2) (pa_cons (pv 5) pa_nil))))))))
  (pss_cons (ps_set (i := 3) scLsw.nd rfl (Or.inl rfl) (pe_op op_mul (pv 3) (pe_op op_sub (pe_ix ix_tup (pe_ix ix_list (pv 1) (pv 5) (fun _ _ => rfl)) pe_int (fun _ _ => rfl)) (pe_ix ix_tup (pe_ix ix_list (pv 1) (pv 5) (fun _ _ => rfl)) pe_int (fun _ _ => rfl)))))
  (pss_one (ps_set (i := 4) scLsw.nd rfl (Or.inl rfl) (pe_op op_mul (pv 4) (pe_ix ix_tup (pe_ix ix_list (pv 1) (pv 5) (fun _ _ => rfl)) pe_int (fun _ _ => rfl)))))) pss_nil)))
  (pss_cons (ps_asg (pe_cal T.c__law_share (hr.mono (by omega)) (by rfl) (pa_cons (pv 0) (pa_cons (pv 2) pa_nil))) (pg_tup rfl (pgs_cons (pg_name (i := 6) scLsw.nd rfl (Or.inl rfl)) (pgs_cons (pg_name (i := 7) scLsw.nd rfl (Or.inl rfl)) pgs_nil))))
  (pss_one (ps_if (pt_cmpR op_gt (pe_op op_mul (pv 6) (pv 4)) (pe_op op_mul (pv 3) (pv 7)) (nomark _))
  (pss_one (ps_ret pe_bl)) pss_nil))))))
  (pss_one (ps_ret pe_bl))), ?_⟩
    obtain ⟨wt, was, r1, r2, r3⟩ := id hrd
    have hl : was.length = wds.length := pairedLen r3
    have e8 := gr.eight
    have hh2 := gr.h2
    have hh4 := gr.h4
    obtain ⟨ts, h1, h2⟩ := id hw
    have tl := pairedLen h2
    have at_ : ∀ j : Nat, j < ws.length → ∃ t, ts[j]? = some t ∧ IsPr H t (wAt ws j) := fun j hj => by
      have hj2 : j < ts.length := by omega
      obtain ⟨x, hx, is⟩ := pairedGetL h2 (List.getElem?_eq_getElem hj2)
      have := Option.some.inj (hx.symm.trans (wAt_get hj))
      subst this
      exact ⟨_, List.getElem?_eq_getElem hj2, is⟩
    refine ⟨.ref ri, rfl, ri, _, 2, _, rfl, rfl, .inl (.inl r1), atI_nat (j := 2) rfl, wt, _, rfl, .inr (.inl (.inl r2)), _, rfl, by omega, by rw [List.length_map]; omega, ?_⟩
    refine for_range (lo := 0) (n := (was.map V.ref).length) (fun i σ H3 => Same H H3 ∧ (∀ j, j < i → okW wds hues ws j = true) ∧ ∃ y2 y3 y4 y5 y6 y7, σ = [some (.ref ri), some (.ref wl), y2, y3, y4, y5, y6, y7]) ⟨fun _ _ e => e, fun j z => absurd z (Nat.not_lt_zero _), none, none, none, none, none, none, rfl⟩ (fun i σ H3 hi p => ?_) (fun σ H3 p => ?_)
    · obtain ⟨s3, no, y2, y3, y4, y5, y6, y7, rfl⟩ := p
      rw [List.length_map] at hi
      have e0 : (0 : Int) + (i : Int) = i := Int.zero_add _
      rw [e0]
      have hiw : i < ws.length := by omega
      obtain ⟨ti, eti, isi⟩ := at_ i hiw
      obtain ⟨wd, hwd⟩ : ∃ wd, wds[i]? = some wd := ⟨_, List.getElem?_eq_getElem (show i < wds.length by omega)⟩
      have gwd := gr.each _ (List.mem_of_getElem? hwd)
      have g3 := gwd.three
      have g64 := gwd.few
      have e1 := every_pos (wd := wd) hh2
      have e2 := every_le (wd := wd) hh2 hh4 g3
      refine ⟨.ref wl, rfl, .int i, rfl, wl, _, _, _, rfl, rfl, .inl (.inl (s3 _ _ h1)), atI_nat (map_at eti), ti, _, rfl, .inl (.inl (s3 _ _ isi)), rfl, .int (wAt ws i).1, [.int (wAt ws i).2], rfl, .int (wAt ws i).2, [], rfl, rfl, ?_⟩
      refine ⟨.ref ri, rfl, ri, _, 2, _, rfl, rfl, .inl (.inl (s3 _ _ r1)), atI_nat (j := 2) rfl, wt, _, rfl, .inr (.inl (.inl (s3 _ _ r2))), _, rfl, by omega, by rw [List.length_map]; omega, ?_⟩
      refine for_range (lo := 0) (n := (was.map V.ref).length) (fun j σ H4 => Same H3 H4 ∧ ∃ y5 y6 y7, σ = [some (.ref ri), some (.ref wl), some (.int i), some (.int (roomF ws i (clsL wds wd j)).1), some (.int (roomF ws i (clsL wds wd j)).2), y5, y6, y7]) ⟨fun _ _ e => e, _, _, _, rfl⟩ (fun j σ H4 hj p => ?_) (fun σ H4 p => ?_)
      · obtain ⟨s4, y5, y6, y7, rfl⟩ := p
        rw [List.length_map] at hj
        have e0 : (0 : Int) + (j : Int) = j := Int.zero_add _
        rw [e0]
        have hjw : j < ws.length := by omega
        obtain ⟨tj, etj, isj⟩ := at_ j hjw
        have wj := wAt_ok gw hjw
        obtain ⟨wb, hwb⟩ : ∃ wb, wds[j]? = some wb := ⟨_, List.getElem?_eq_getElem (show j < wds.length by omega)⟩
        have s04 := s3.trans s4
        refine ⟨.int j, rfl, .int i, rfl, rfl, _, rfl, ite2 (fun e => ?_) (fun e => ?_)⟩
        · have ne : ¬ (j : Int) = (i : Int) := fun c => by rw [c] at e; exact absurd e (by simp)
          refine ⟨.ref ri, rfl, .int i, rfl, .int j, rfl, ri, i, j, wds, wd, wb, many, hues, rfl, hrd.mono (tups_same s04), hwd, hwb, gr, fun H5 s5 => ⟨_, rfl, ite2 (fun c => ?_) (fun c => ?_)⟩⟩
          · have sn := room_snoc ws i (clsL wds wd j) j
            rw [← clsL_yes ((clAt_of hwb).trans c), stepW, if_neg ne, Int.toNat_natCast] at sn
            have s05 := s04.trans s5
            refine ⟨_, rfl, .ref wl, rfl, .int j, rfl, wl, _, _, _, rfl, rfl, .inl (.inl (s05 _ _ h1)), atI_nat (map_at etj), tj, _, 1, _, rfl, rfl, .inl (.inl (s05 _ _ isj)), atI_nat (j := 1) rfl, .ref wl, rfl, .int j, rfl, wl, _, _, _, rfl, rfl, .inl (.inl (s05 _ _ h1)), atI_nat (map_at etj), tj, _, 0, _, rfl, rfl, .inl (.inl (s05 _ _ isj)), atI_nat (j := 0) rfl, _, _, rfl, rfl, _, _, rfl, rfl, .inr ⟨by omega, by omega⟩, ?_⟩
            refine ⟨_, rfl, .ref wl, rfl, .int j, rfl, wl, _, _, _, rfl, rfl, .inl (.inl (s05 _ _ h1)), atI_nat (map_at etj), tj, _, 1, _, rfl, rfl, .inl (.inl (s05 _ _ isj)), atI_nat (j := 1) rfl, _, _, rfl, rfl, .inr ⟨by omega, by omega⟩, s4.trans s5, some (.int j), y6, y7, ?_⟩
            rw [sn]
            rfl
          · refine ⟨s4.trans s5, some (.int j), y6, y7, ?_⟩
            rw [clsL_no ((clAt_of hwb).trans (Bool.eq_false_iff.mpr c))]
            rfl
        · have eq : (j : Int) = (i : Int) := by
            by_cases c : (j : Int) = (i : Int)
            · exact c
            · exact absurd (show (!decide (V.int j = V.int i)) = true by simp; omega) e
          refine ⟨s4, some (.int j), y6, y7, ?_⟩
          have sn : roomF ws i (clsL wds wd (j + 1)) = roomF ws i (clsL wds wd j) := by
            cases c : clAt wds wd j with
            | true => rw [clsL_yes c, room_snoc, stepW, if_pos eq]
            | false => rw [clsL_no c]
          rw [sn]
          rfl
      · obtain ⟨s4, y5, y6, y7, rfl⟩ := p
        rw [List.length_map, hl]
        have s04 := s3.trans s4
        refine ⟨.ref ri, rfl, .int i, rfl, ri, i, wds, wd, many, hues, rfl, hrd.mono (tups_same s04), hwd, gwd, hh2, hh4, fun H5 t5 s5 nt5 p5 => ?_⟩
        refine ⟨t5, _, rfl, .inl (.inl p5), rfl, .int (wd.2.length : Nat), [.int (everyI wd hues)], rfl, .int (everyI wd hues), [], rfl, rfl, ?_⟩
        refine ⟨_, rfl, _, rfl, _, _, rfl, rfl, .inl ⟨by omega, by omega⟩, _, rfl, _, rfl, _, _, rfl, rfl, .inr ⟨by omega, by omega⟩, _, _, rfl, rfl, _, rfl, ite2 (fun e => ?_) (fun e => ?_)⟩
        · have lt := of_decide_eq_true e
          have c : okW wds hues ws i = false := by
            rw [okW_of hwd]
            exact decide_eq_false (by omega)
          have := q H5 (s04.trans s5)
          rw [shown_no (by omega) c] at this
          exact this
        · have c : okW wds hues ws i = true := by
            rw [okW_of hwd]
            refine decide_eq_true ?_
            by_cases z : (roomF ws i (clsL wds wd wds.length)).1 * everyI wd hues < (wd.2.length : Int) * (roomF ws i (clsL wds wd wds.length)).2
            · exact absurd (decide_eq_true z) e
            · omega
          refine ⟨s04.trans s5, fun j hj => ?_, _, _, _, _, _, _, rfl⟩
          by_cases z : j = i
          · rw [z]; exact c
          · exact no j (by omega)
    · obtain ⟨s3, no, y2, y3, y4, y5, y6, y7, rfl⟩ := p
      rw [List.length_map, hl] at no
      have := q H3 s3
      rw [shown_yes no] at this
      exact this
theorem ok_spa {f : Addr} {fd : FuncData} {k : Nat} (F : Fun K "_law_sparse" "_law_sparse" sSpa f fd) (T : TxtSp P w K mg base) : FnOk P w K mg base CX0 (k + 3) f fd ["tape"] spSpa := by
  refine F.ok scSpa (fun vs H Q E h => ?_) (fun cdv A outer s H vs Q E hr h => ?_)
  · obtain ⟨tp, rfl, _⟩ := h
    rfl
  · obtain ⟨tp, rfl, hT, q⟩ := h
    refine ⟨_, (pss_cons (ps_asg (pe_ix ix_list (pe_lst (pa_cons (pe_tup (pa_cons pe_int (pa_cons pe_int pa_nil))) (pa_cons (pe_tup (pa_cons pe_int (pa_cons pe_int pa_nil))) (pa_cons (pe_tup (pa_cons pe_int (pa_cons pe_int pa_nil))) (pa_cons (pe_tup (pa_cons pe_int (pa_cons pe_int pa_nil))) (pa_cons (pe_tup (pa_cons pe_int (pa_cons pe_int pa_nil))) (pa_cons (pe_tup (pa_cons pe_int (pa_cons pe_int pa_nil))) (pa_cons (pe_tup (pa_cons pe_int (pa_cons pe_int pa_nil))) (pa_cons (pe_tup (pa_cons pe_int (pa_cons pe_int pa_nil))) pa_nil))))))))) (pe_cal T.c__law_digit (hr.mono (by omega)) (by rfl) (pa_cons (pv 0) (pa_cons pe_int pa_nil))) (fun _ _ => rfl)) (pg_tup rfl (pgs_cons (pg_name (i := 1) scSpa.nd rfl (Or.inl rfl)) (pgs_cons (pg_name (i := 2) scSpa.nd rfl (Or.inl rfl)) pgs_nil))))
  (pss_cons (ps_set (i := 3) scSpa.nd rfl (Or.inl rfl) (pe_lst pa_nil))
  (pss_cons (ps_for PassesOwn.never rfl (pi_range1 (by rfl) T.m_range (pa_cons (pe_cal T.c__law_digit (hr.mono (by omega)) (by rfl) (pa_cons (pv 0) (pa_cons pe_int pa_nil))) pa_nil)) (pg_name (i := 4) scSpa.nd rfl (Or.inl rfl))
  (pss_cons (ps_set (i := 5) scSpa.nd rfl (Or.inl rfl) (pe_cal T.c__law_wish (hr.mono (by omega)) (by rfl) (pa_cons (pv 0) (pa_cons (pv 1) (pa_cons (pv 2) (pa_cons pe_int pa_nil))))))
  (pss_cons (ps_for PassesOwn.never rfl (pi_range1 (by rfl) T.m_range (pa_cons pe_int pa_nil)) (pg_name (i := 6) scSpa.nd rfl (Or.inl rfl))
  (pss_one (ps_if (pt_cmpR op_lt (pe_callB call_len_seq (by rfl) T.m_len (by decide +kernel) (pa_cons (pe_ix ix_tup (pv 5) pe_int (fun _ _ => rfl)) pa_nil)) pe_int (nomark _))
  (pss_one (ps_set (i := 5) scSpa.nd rfl (Or.inl rfl) (pe_cal T.c__law_wish (hr.mono (by omega)) (by rfl) (pa_cons (pv 0) (pa_cons (pv 1) (pa_cons (pv 2) (pa_cons pe_int pa_nil))))))) pss_nil)))
  (pss_one (ps_expr (pe_bm PySem.F.plainAttrs_list PySem.F.slot_list_append PySem.F.type_list_append mt_append (pv 3) (pa_cons (pv 5) pa_nil)))))))
  (pss_one (ps_ret (pe_tup (pa_cons (pv 1) (pa_cons (pv 2) (pa_cons (pe_callTy call_tuple_of (by rfl) T.m_tuple (by decide +kernel) (pa_cons (pv 3) pa_nil)) pa_nil))))))))), ?_⟩
    refine pairs_ixs (prs := szC) (by decide) fun l ts H1 s1 nl hl pr => ?_
    have hT1 := hT.same s1
    have nlt : l ≠ tp := hT.new nl
    refine ⟨.ref tp, rfl, tp, 8, rfl, hT1, by decide, by decide, fun H3 d D3 d0 d1 => ?_⟩
    have hd : d.toNat < ts.length := by rw [pairedLen pr]; show d.toNat < 8; omega
    obtain ⟨p, hp, isp⟩ := pairedGetL pr (List.getElem?_eq_getElem hd)
    have ok := szC_ok p (List.mem_of_getElem? hp)
    obtain ⟨k1, k6, hh2, hh4, kp⟩ := id ok
    obtain ⟨many, hues⟩ := p
    dsimp only at k1 k6 hh2 hh4
    refine ⟨l, _, d, _, rfl, rfl, .inl (.inl (D3.1 _ _ nlt hl)), atI_of d0 (List.getElem?_eq_getElem hd), _, _, rfl, .inl (.inl (D3.tups hT1 _ _ isp)), rfl, .int many, [.int hues], rfl, .int hues, [], rfl, rfl, ?_⟩
    have E3 : Taped tp H H3 := ((Taped.refl hT).same s1).trans D3
    refine ⟨(by show 0 ≤ sizeLine; decide), fun lw nlw => ?_⟩
    have nw := E3.2.new nlw
    have nw0 : H lw = none := E3.free nlw
    have E4 := E3.put (o := .lst []) nw0 nw
    have hw4 : upd H3 lw (.lst []) lw = some (.lst []) := upd_same
    generalize upd H3 lw (.lst []) = H4 at E4 hw4
    refine ⟨.ref tp, rfl, tp, 6, rfl, E4.2, by decide, by decide, fun H5 nn D5 n0 n1 => ⟨nn, rfl, by omega, by omega, ?_⟩⟩
    have E5 := E4.trans D5
    refine for_range (lo := 0) (n := nn.toNat) (fun i σ H6 => Taped tp H H6 ∧ (∃ (was : List Addr) (wds : List WD), H6 lw = some (.lst (was.map V.ref)) ∧ was.length = i ∧ Paired (IsWish H6) was wds ∧ (∀ wd ∈ wds, Good many hues wd) ∧ ∀ wd ∈ wds, Neat wd) ∧ ∃ y4 y5 y6, σ = [some (.ref tp), some (.int many), some (.int hues), some (.ref lw), y4, y5, y6]) ⟨E5, ⟨[], [], D5.1 lw _ nw hw4, rfl, .nil, (fun _ h => nomatch h), (fun _ h => nomatch h)⟩, none, none, none, rfl⟩ (fun i σ H6 hi p => ?_) (fun σ H6 p => ?_)
    · obtain ⟨E6, ⟨was, wds, hw6, wl6, pw, gd, ne⟩, y4, y5, y6, rfl⟩ := p
      refine ⟨.ref tp, rfl, .int many, rfl, .int hues, rfl, tp, many, hues, 1, rfl, E6.2, k1, k6, hh2, hh4, by decide, by decide, fun H7 wa wd D7 isw gw nw2 => ?_⟩
      refine ⟨3, rfl, by decide, by decide, for_range (lo := 0) (n := 3) (fun j σ H8 => Taped tp H H8 ∧ Taped tp H6 H8 ∧ (∃ wa wd, IsWish H8 wa wd ∧ Good many hues wd ∧ Neat wd ∧ ∃ y6, σ = [some (.ref tp), some (.int many), some (.int hues), some (.ref lw), some (.int (0 + (i : Int))), some (.ref wa), y6])) ⟨E6.trans D7, D7, wa, wd, isw, gw, nw2, _, rfl⟩ (fun j σ H8 hj p => ?_) (fun σ H8 p => ?_)⟩
      · obtain ⟨E8, D8, wa, wd, isw, gw, nw2, y6, rfl⟩ := p
        obtain ⟨pa, ra, rs, w1, w2, w3, w4⟩ := id isw
        refine ⟨.ref wa, rfl, wa, _, 0, _, rfl, rfl, .inl (.inl w1), atI_nat (j := 0) rfl, pa, _, rfl, .inr (.inl (.inl w2)), _, _, rfl, rfl, _, rfl, ite2 (fun e => ?_) (fun e => ?_)⟩
        · refine ⟨.ref tp, rfl, .int many, rfl, .int hues, rfl, tp, many, hues, 1, rfl, E8.2, k1, k6, hh2, hh4, by decide, by decide, fun H9 wa9 wd9 D9 isw9 gw9 nw9 => ?_⟩
          exact ⟨E8.trans D9, D8.trans D9, wa9, wd9, isw9, gw9, nw9, _, rfl⟩
        · exact ⟨E8, D8, wa, wd, isw, gw, nw2, _, rfl⟩
      · obtain ⟨E8, D8, wa, wd, isw, gw, nw2, y6, rfl⟩ := p
        have hw8 := D8.1 lw _ nw hw6
        have tu : Tups H8 (upd H8 lw (.lst (was.map V.ref ++ [.ref wa]))) := tups_upd fun xs z => by rw [hw8] at z; cases z
        refine ⟨.ref lw, rfl, .inl ⟨rfl, _, .inl (.inl hw8)⟩, .ref wa, rfl, lw, _, .ref wa, rfl, rfl, hw8, ?_, E8.put nw0 nw, ⟨was ++ [wa], wds ++ [wd], ?_, ?_, pairedSnoc (pairedMap (fun _ _ e => IsWish.mono ((D8.tups E6.2).trans tu) e) pw) (isw.mono tu), ?_, ?_⟩, _, _, _, rfl⟩
        · rw [List.length_map, wl6]
          exact small1000 (by omega)
        · rw [upd_same, List.map_append]
          rfl
        · rw [List.length_append, wl6]
          rfl
        · intro wd' h'
          rcases List.mem_append.mp h' with h' | h'
          · exact gd wd' h'
          · rw [List.mem_singleton.mp h']
            exact gw
        · intro wd' h'
          rcases List.mem_append.mp h' with h' | h'
          · exact ne wd' h'
          · rw [List.mem_singleton.mp h']
            exact nw2
    · obtain ⟨E6, ⟨was, wds, hw6, wl6, pw, gd, ne⟩, y4, y5, y6, rfl⟩ := p
      refine ⟨.int many, rfl, .int hues, rfl, .ref lw, rfl, lw, _, rfl, .inl ⟨.inl (.inl hw6), fun wt nwt => ?_⟩⟩
      have st := same_upd (o := .tup (was.map V.ref)) nwt
      refine ⟨(by show 3 ≤ sizeLine; decide), fun ri nri => ?_⟩
      have sr := same_upd (o := .tup [.int many, .int hues, .ref wt]) nri
      refine q _ ri many hues wds ((E6.same st).same sr) ⟨wt, was, upd_same, sr _ _ upd_same, pairedMap (fun _ _ e => IsWish.mono (tups_same (st.trans sr)) e) pw⟩ ⟨k1, k6, hh2, hh4, ?_, gd⟩ ne ok
      rw [← pairedLen pw]
      omega
end
end Rd

set_option Elab.async false
set_option linter.all false
set_option maxRecDepth 100000
set_option maxHeartbeats 4000000
namespace Rd
open PySem PySem.Spec PyProof.Rows L2 Dt
section
variable {P : Program} {w : World} {K : PySem.W.Frag} {mg : Str → Option Value} {base : Heap}
theorem ok_lwe {f : Addr} {fd : FuncData} {k : Nat} (F : Fun K "_law_weights" "_law_weights" sLwe f fd) (T : TxtWe P w K mg base) : FnOk P w K mg base CX0 (k + 2) f fd ["tape", "riddle"] spLwe := by
  refine F.ok scLwe (fun vs H Q E h => ?_) (fun cdv A outer s H vs Q E hr h => ?_)
  · obtain ⟨tp, ri, wds, many, hues, rfl, _⟩ := h
    rfl
  · obtain ⟨tp, ri, wds, many, hues, rfl, hT, hrd, gr, q⟩ := h
    refine ⟨_, (pss_cons (ps_set (i := 2) scLwe.nd rfl (Or.inl rfl) (pe_lst pa_nil))
  (pss_cons (ps_for PassesOwn.never rfl (pi_range1 (by rfl) T.m_range (pa_cons (pe_callB call_len_seq (by rfl) T.m_len (by decide +kernel) (pa_cons (pe_ix ix_tup (pv 1) pe_int (fun _ _ => rfl)) pa_nil)) pa_nil)) (pg_name (i := 3) scLwe.nd rfl (Or.inl rfl))
  (pss_cons (ps_asg (pe_cal T.c__law_share (hr.mono (by omega)) (by rfl) (pa_cons (pv 1) (pa_cons (pv 3) pa_nil))) (pg_tup rfl (pgs_cons (pg_name (i := 4) scLwe.nd rfl (Or.inl rfl)) (pgs_cons (pg_name (i := 5) scLwe.nd rfl (Or.inl rfl)) pgs_nil))))
  (pss_cons (ps_set (i := 6) scLwe.nd rfl (Or.inl rfl) (pe_op op_add pe_int (pe_cal T.c__law_digit (hr.mono (by omega)) (by rfl) (pa_cons (pv 0) (pa_cons pe_int pa_nil)))))
  (pss_cons (ps_set (i := 7) scLwe.nd rfl (Or.inl rfl) (pe_lst (pa_cons (pe_tup (pa_cons (pe_op op_add pe_int (pe_cal T.c__law_digit (hr.mono (by omega)) (by rfl) (pa_cons (pv 0) (pa_cons (pe_op op_sub (pv 6) pe_int) pa_nil)))) (pa_cons (pv 6) pa_nil))) (pa_cons (pe_tup (pa_cons pe_int (pa_cons pe_int pa_nil))) (pa_cons (pe_tup (pa_cons (pe_op op_mul pe_int (pv 4)) (pa_cons (pe_op op_add (pe_op op_mul pe_int (pv 5)) pe_int) pa_nil))) (pa_cons (pe_tup (pa_cons (pv 4) (pa_cons (pe_op op_add (pv 5) pe_int) pa_nil))) pa_nil))))))
  (pss_cons (ps_set (i := 8) scLwe.nd rfl (Or.inl rfl) (pe_ix ix_list (pv 7) (pe_cal T.c__law_digit (hr.mono (by omega)) (by rfl) (pa_cons (pv 0) (pa_cons pe_int pa_nil))) (fun _ _ => rfl)))
  (C8.pss_cut (ps_if (pt_cmpR op_ge (pe_ix ix_tup (pv 8) pe_int (fun _ _ => rfl)) (pe_ix ix_tup (pv 8) pe_int (fun _ _ => rfl)) (nomark _))
  (pss_one (ps_set (i := 8) scLwe.nd rfl (Or.inl rfl) (pe_tup (pa_cons pe_int (pa_cons pe_int pa_nil))))) pss_nil)
  (pss_one (ps_expr (pe_bm PySem.F.plainAttrs_list PySem.F.slot_list_append PySem.F.type_list_append mt_append (pv 2) (pa_cons (pe_cal T.c__law_lowest (hr.mono (by omega)) (by rfl) (pa_cons (pe_ix ix_tup (pv 8) pe_int (fun _ _ => rfl)) (pa_cons (pe_ix ix_tup (pv 8) pe_int (fun _ _ => rfl)) pa_nil))) pa_nil))))))))))
  (pss_one (ps_ret (pv 2))))), ?_⟩
    obtain ⟨wt, was, r1, r2, r3⟩ := id hrd
    have hl : was.length = wds.length := pairedLen r3
    have e8 := gr.eight
    have hh2 := gr.h2
    have hh4 := gr.h4
    refine ⟨(by show 0 ≤ sizeLine; decide), fun lf nlf => ?_⟩
    have slf := same_upd (o := .lst []) nlf
    have ntf := hT.new nlf
    refine ⟨.ref ri, rfl, ri, _, 2, _, rfl, rfl, .inl (.inl (slf _ _ r1)), atI_nat (j := 2) rfl, wt, _, rfl, .inr (.inl (.inl (slf _ _ r2))), _, rfl, by omega, by rw [List.length_map]; omega, ?_⟩
    refine for_range (lo := 0) (n := (was.map V.ref).length) (fun i σ H3 => Taped tp H H3 ∧ (∃ (ts : List Addr) (ws : List Fc), H3 lf = some (.lst (ts.map V.ref)) ∧ ts.length = i ∧ Paired (IsPr H3) ts ws ∧ GoodW 150 ws) ∧ ∃ y3 y4 y5 y6 y7 y8, σ = [some (.ref tp), some (.ref ri), some (.ref lf), y3, y4, y5, y6, y7, y8]) ⟨(Taped.refl hT).same slf, ⟨[], [], upd_same, rfl, .nil, ⟨fun _ h => nomatch h⟩⟩, none, none, none, none, none, none, rfl⟩ (fun i σ H3 hi p => ?_) (fun σ H3 p => ?_)
    · obtain ⟨E3, ⟨ts, ws, hf3, tl3, pt, gw⟩, y3, y4, y5, y6, y7, y8, rfl⟩ := p
      rw [List.length_map] at hi
      have e0 : (0 : Int) + (i : Int) = i := Int.zero_add _
      rw [e0]
      obtain ⟨wd, hwd⟩ : ∃ wd, wds[i]? = some wd := ⟨_, List.getElem?_eq_getElem (show i < wds.length by omega)⟩
      have gwd := gr.each _ (List.mem_of_getElem? hwd)
      have g1 := gwd.some_
      have g64 := gwd.few
      have e1 := every_pos (wd := wd) hh2
      have e2 := every_le (wd := wd) hh2 hh4 gwd.three
      -- rows, every
      refine ⟨.ref ri, rfl, .int i, rfl, ri, i, wds, wd, many, hues, rfl, hrd.mono (E3.tups hT), hwd, gwd, hh2, hh4, fun H4 t4 s4 nt4 p4 => ?_⟩
      refine ⟨t4, _, rfl, .inl (.inl p4), rfl, .int (wd.2.length : Nat), [.int (everyI wd hues)], rfl, .int (everyI wd hues), [], rfl, rfl, ?_⟩
      generalize everyI wd hues = ev at e1 e2
      generalize er : ((wd.2.length : Nat) : Int) = rw_ at *
      have rw1 : 1 ≤ rw_ := by omega
      have rw64 : rw_ ≤ 64 := by omega
      have D4 : Taped tp H3 H4 := (Taped.refl E3.2).same s4
      -- below
      refine ⟨.ref tp, rfl, tp, 60, rfl, D4.2, by decide, by decide, fun H5 bx D5 b0 b1 => ⟨2, bx, rfl, rfl, ?_⟩⟩
      have bb1 : 2 ≤ 2 + bx := by omega
      have bb2 : 2 + bx ≤ 61 := by omega
      dsimp only
      generalize 2 + bx = be at bb1 bb2
      have D35 := D4.trans D5
      -- some
      refine ⟨.ref tp, rfl, .int be, rfl, be, 1, rfl, rfl, tp, be - 1, rfl, D35.2, by omega, log_small (by omega) (by omega), fun H6 d D6 d0 d1 => ⟨1, d, rfl, rfl, .int be, rfl, (by show 2 ≤ sizeLine; decide), fun t1 nt1 => ⟨(by show 2 ≤ sizeLine; decide), fun t2 nt2 => ⟨.int rw_, rfl, 2, rw_, rfl, rfl, .inl ⟨by omega, by omega⟩, .int ev, rfl, 2, ev, rfl, rfl, .inl ⟨by omega, by omega⟩, _, 1, rfl, rfl, (by show 2 ≤ sizeLine; decide), fun t3 nt3 => ⟨.int rw_, rfl, .int ev, rfl, ev, 1, rfl, rfl, (by show 2 ≤ sizeLine; decide), fun t5 nt5 => ⟨(by show 4 ≤ sizeLine; decide), fun ls nls => ?_⟩⟩⟩⟩⟩⟩
      have D36 := D35.trans D6
      have u1 := same_upd (o := .tup [.int (1 + d), .int be]) nt1
      have u2 := same_upd (o := .tup [.int 1, .int 2]) nt2
      have u3 := same_upd (o := .tup [.int (2 * rw_), .int (2 * ev + 1)]) nt3
      have u5 := same_upd (o := .tup [.int rw_, .int (ev + 1)]) nt5
      have us := same_upd (o := .lst [V.ref t1, .ref t2, .ref t3, .ref t5]) nls
      have D37 := ((((D36.same u1).same u2).same u3).same u5).same us
      have nst : ls ≠ tp := ((((D36.same u1).same u2).same u3).same u5).2.new nls
      have prs : Paired (IsPr _) [t1, t2, t3, t5] [(1 + d, be), (1, 2), (2 * rw_, 2 * ev + 1), (rw_, ev + 1)] := .cons (us _ _ (u5 _ _ (u3 _ _ (u2 _ _ upd_same)))) (.cons (us _ _ (u5 _ _ (u3 _ _ upd_same))) (.cons (us _ _ (u5 _ _ upd_same)) (.cons (us _ _ upd_same) .nil)))
      have hls := (upd_same : upd (upd (upd (upd (upd H6 t1 (.tup [.int (1 + d), .int be])) t2 (.tup [.int 1, .int 2])) t3 (.tup [.int (2 * rw_), .int (2 * ev + 1)])) t5 (.tup [.int rw_, .int (ev + 1)])) ls (.lst [V.ref t1, .ref t2, .ref t3, .ref t5]) ls = some (.lst ([t1, t2, t3, t5].map V.ref)))
      generalize upd (upd (upd (upd (upd H6 t1 (.tup [.int (1 + d), .int be])) t2 (.tup [.int 1, .int 2])) t3 (.tup [.int (2 * rw_), .int (2 * ev + 1)])) t5 (.tup [.int rw_, .int (ev + 1)])) ls (.lst [V.ref t1, .ref t2, .ref t3, .ref t5]) = H7 at D37 prs hls
      have good : ∀ x ∈ [(1 + d, be), (1, 2), (2 * rw_, 2 * ev + 1), (rw_, ev + 1)], 1 ≤ x.1 ∧ x.2 ≤ 150 := by
        intro x hx
        simp only [List.mem_cons, List.mem_singleton, List.not_mem_nil, or_false] at hx
        rcases hx with rfl | rfl | rfl | rfl <;> dsimp only <;> omega
      -- one
      refine ⟨.ref ls, rfl, .ref tp, rfl, tp, 4, rfl, D37.2, by decide, by decide, fun H8 c D8 c0 c1 => ?_⟩
      have hc : c.toNat < [t1, t2, t3, t5].length := by show c.toNat < 4; omega
      obtain ⟨x, hx, isx⟩ := pairedGetL prs (List.getElem?_eq_getElem hc)
      obtain ⟨gx1, gx2⟩ := good x (List.mem_of_getElem? hx)
      have isx8 := D8.tups D37.2 _ _ isx
      have D38 := D37.trans D8
      refine ⟨ls, _, c, _, rfl, rfl, .inl (.inl (D8.1 _ _ nst hls)), atI_of c0 (List.getElem?_eq_getElem hc), ?_⟩
      refine ⟨fun σ H9 => Taped tp H3 H9 ∧ ∃ t x, IsPr H9 t x ∧ 1 ≤ x.1 ∧ x.1 < x.2 ∧ x.2 ≤ 150 ∧ ∃ y7, σ = [some (.ref tp), some (.ref ri), some (.ref lf), some (.int i), some (.int rw_), some (.int ev), some (.int be), y7, some (.ref t)], ?_, ?_⟩
      · refine ⟨_, rfl, _, _, 0, _, rfl, rfl, .inl (.inl isx8), atI_nat (j := 0) rfl, _, rfl, _, _, 1, _, rfl, rfl, .inl (.inl isx8), atI_nat (j := 1) rfl, _, _, rfl, rfl, _, rfl, ite2 (fun e => ?_) (fun e => ?_)⟩
        · refine ⟨(by show 2 ≤ sizeLine; decide), fun t nt => ?_⟩
          exact ⟨D38.same (same_upd nt), t, (1, 2), upd_same, by decide, by decide, by decide, _, rfl⟩
        · have lt : x.1 < x.2 := by
            by_cases z : x.2 ≤ x.1
            · exact absurd (decide_eq_true z) e
            · omega
          exact ⟨D38, _, x, isx8, gx1, lt, gx2, _, rfl⟩
      · rintro σ H9 ⟨D9, t, x, isx, x1, x2, x3, y7, rfl⟩
        have hf9 := D9.1 lf _ ntf hf3
        refine ⟨.ref lf, rfl, .inl ⟨rfl, _, .inl (.inl hf9)⟩, .ref t, rfl, t, _, 0, _, rfl, rfl, .inl (.inl isx), atI_nat (j := 0) rfl, .ref t, rfl, t, _, 1, _, rfl, rfl, .inl (.inl isx), atI_nat (j := 1) rfl, x.1, x.2, rfl, by omega, by omega, log_small (by omega) (by omega), fun H10 tn s10 ntn pn => ?_⟩
        have hf10 := s10 _ _ hf9
        have D10 := D9.same s10
        have tu : Tups H10 (upd H10 lf (.lst (ts.map V.ref ++ [.ref tn]))) := tups_upd fun xs z => by rw [hf10] at z; cases z
        obtain ⟨lo1, lo2⟩ := low_lt x1 x2
        obtain ⟨lo3, lo4, lo5, lo6⟩ := low_ok (a := x.1) (b := x.2) (by omega) (by omega)
        refine ⟨lf, _, .ref tn, rfl, rfl, hf10, ?_, (E3.trans D10).put nlf ntf, ⟨ts ++ [tn], ws ++ [lowI x.1 x.2], ?_, ?_, pairedSnoc (pairedMap (fun _ _ e => tu _ _ (D10.tups E3.2 _ _ e)) pt) (tu _ _ pn), ⟨fun z hz => ?_⟩⟩, _, _, _, _, _, _, rfl⟩
        · rw [List.length_map, tl3]
          exact small1000 (by omega)
        · rw [upd_same, List.map_append]
          rfl
        · rw [List.length_append, tl3]
          rfl
        · rcases List.mem_append.mp hz with z | z
          · exact gw.each _ z
          · rw [List.mem_singleton.mp z]
            exact ⟨lo1, lo2, by omega⟩
    · obtain ⟨E3, ⟨ts, ws, hf3, tl3, pt, gw⟩, y3, y4, y5, y6, y7, y8, rfl⟩ := p
      have pl := pairedLen pt
      rw [List.length_map] at tl3
      exact ⟨.ref lf, rfl, q H3 lf ws E3 nlf ⟨ts, hf3, pt⟩ gw (by omega)⟩
end
end Rd

set_option Elab.async false
set_option linter.all false
set_option maxRecDepth 100000
set_option maxHeartbeats 4000000
namespace Rd
open PySem PySem.Spec PyProof.Rows L2 Dt
abbrev sAlw : Stmt := topS 13
abbrev nAlw : List Str := ["riddle", "a", "wish"]
theorem scAlw : FnScope nAlw ["riddle", "a"] (defScope sAlw) := ⟨rfl, rfl, rfl, by decide +kernel, rfl, by decide +kernel, by decide +kernel⟩
abbrev sLea : Stmt := topS 14
abbrev nLea : List Str := ["riddle", "a"]
theorem scLea : FnScope nLea ["riddle"] (defScope sLea) := ⟨rfl, rfl, rfl, by decide +kernel, rfl, by decide +kernel, by decide +kernel⟩
abbrev sWof : Stmt := topS 15
abbrev nWof : List Str := ["riddle", "a"]
theorem scWof : FnScope nWof ["riddle"] (defScope sWof) := ⟨rfl, rfl, rfl, by decide +kernel, rfl, by decide +kernel, by decide +kernel⟩
abbrev sLkp : Stmt := topS 16
abbrev nLkp : List Str := ["riddle", "weights", "above", "below", "one", "whole"]
theorem scLkp : FnScope nLkp ["riddle", "weights"] (defScope sLkp) := ⟨rfl, rfl, rfl, by decide +kernel, rfl, by decide +kernel, by decide +kernel⟩
abbrev sMmd : Stmt := topS 17
abbrev nMmd : List Str := ["riddle", "weights", "above", "below", "one", "whole", "rest"]
theorem scMmd : FnScope nMmd ["riddle", "weights"] (defScope sMmd) := ⟨rfl, rfl, rfl, by decide +kernel, rfl, by decide +kernel, by decide +kernel⟩
def spAlw : Sp := fun vs H Q _ => ∃ (ri : Addr) (a : Int) (wds : List WD) (many hues : Int), vs = [.ref ri, .int a] ∧ IsRid H ri many hues wds ∧ wds.length ≤ 8 ∧ 0 ≤ a ∧ ∀ H' l, Same H H' → H l = none → IsFrs H' l (alk wds.length a) → Q (.ref l) H'
def spLea (Ps : List Addr) : Sp := fun vs H Q _ => ∃ (ri : Addr) (wds : List WD) (many hues : Int), vs = [.ref ri] ∧ IsRid H ri many hues wds ∧ GoodR many hues wds ∧ Tabs Ps H ∧ ∀ H' r, FrS Ps H H' → Lst wds hues r → Q (vOI r) H'
def spWof (Ps : List Addr) : Sp := fun vs H Q _ => ∃ (ri : Addr) (wds : List WD) (many hues : Int), vs = [.ref ri] ∧ IsRid H ri many hues wds ∧ GoodR many hues wds ∧ Tabs Ps H ∧
  (∀ H', FrS Ps H H' → Lst wds hues none → Q .non H') ∧ (∀ H' a l, FrS Ps H H' → Lst wds hues (some a) → H l = none → IsFrs H' l (alk wds.length a) → Q (.ref l) H')
def spLkp : Sp := fun vs H Q _ => ∃ (ri wl : Addr) (wds : List WD) (many hues : Int) (ws : List Fc), vs = [.ref ri, .ref wl] ∧ IsRid H ri many hues wds ∧ GoodR many hues wds ∧ IsFrs H wl ws ∧ GoodW 150 ws ∧ ws.length ≤ 8 ∧
  ∀ H' t, Same H H' → H t = none → IsPr H' t (lowI (keptF (hues ^ many.toNat) ws).1 (keptF (hues ^ many.toNat) ws).2) → Q (.ref t) H'
def spMmd : Sp := fun vs H Q _ => ∃ (v : V) (wl : Addr) (ws : List Fc), vs = [v, .ref wl] ∧ IsFrs H wl ws ∧ GoodW 150 ws ∧ ws.length ≤ 8 ∧
  ∀ H' t, Same H H' → H t = none → IsPr H' t (lowI (mendF ws).1 (mendF ws).2) → Q (.ref t) H'
structure TxtAw (P : Program) (w : World) (K : PySem.W.Frag) (mg : Str → Option Value) (base : Heap) : Prop where
  g_PARTS : ∃ u, mg "PARTS" = some u ∧ RelV (.int 64) u
  c_lowest : Cal P w K mg base 2 "lowest" ["above", "below"] spLow
structure TxtLa (P : Program) (w : World) (K : PySem.W.Frag) (mg : Str → Option Value) (base : Heap) (Ps : List Addr) : Prop where
  m_range : mg "range" = none
  g_PARTS : ∃ u, mg "PARTS" = some u ∧ RelV (.int 64) u
  c_alike_weights : Cal P w K mg base 3 "alike_weights" ["riddle", "a"] spAlw
  c_shows_soon : Cal P w K mg base 6 "shows_soon" ["riddle", "weights"] (spSho Ps)
structure TxtWo (P : Program) (w : World) (K : PySem.W.Frag) (mg : Str → Option Value) (base : Heap) (Ps : List Addr) : Prop where
  c_least_a : Cal P w K mg base 7 "least_a" ["riddle"] (spLea Ps)
  c_alike_weights : Cal P w K mg base 3 "alike_weights" ["riddle", "a"] spAlw
structure TxtLk (P : Program) (w : World) (K : PySem.W.Frag) (mg : Str → Option Value) (base : Heap) : Prop where
  c_lowest : Cal P w K mg base 2 "lowest" ["above", "below"] spLow
  c_fillings_number : Cal P w K mg base 1 "fillings_number" ["many", "hues"] spFnu
section
variable {P : Program} {w : World} {K : PySem.W.Frag} {mg : Str → Option Value} {base : Heap}
theorem ok_alw {f : Addr} {fd : FuncData} {k : Nat} (F : Fun K "alike_weights" "alike_weights" sAlw f fd) (T : TxtAw P w K mg base) : FnOk P w K mg base CX0 (k + 3) f fd ["riddle", "a"] spAlw := by
  refine F.ok scAlw (fun vs H Q E h => ?_) (fun cdv A outer s H vs Q E hr h => ?_)
  · obtain ⟨ri, a, wds, many, hues, rfl, _⟩ := h
    rfl
  · obtain ⟨ri, a, wds, many, hues, rfl, hrd, w8, a0, q⟩ := h
    refine ⟨_, (pss_one (ps_ret (pe_lc (te := tCall spLow [] E0 (tCons (tVar 1) (tCons (tC (.int 64)) tNil))) (own := [("wish", 2)]) rfl scAlw.nd  (pi_tup (pe_ix ix_tup (pv 0) pe_int (fun _ _ => rfl))) (blkOk_by (own := [("wish", 2)]) (N := nAlw) (sc := defScope sAlw) (by decide +kernel))
   (fun _ _ _ _ _ => (pg_name (i := 2) scAlw.nd rfl (Or.inl rfl))) (fun _ _ _ _ _ => pts_nil) (fun _ _ _ _ _ => (pe_cal T.c_lowest (hr.mono (by omega)) (by rfl) (pa_cons (pv 1) (pa_cons (C8.pe_gc (by rfl) T.g_PARTS) pa_nil))))))), ?_⟩
    obtain ⟨wt, was, r1, r2, r3⟩ := id hrd
    have hl : was.length = wds.length := pairedLen r3
    refine ⟨.ref ri, rfl, ri, _, 2, _, rfl, rfl, .inl (.inl r1), atI_nat (j := 2) rfl, wt, rfl, ⟨_, .inl (.inl r2)⟩, fun D nD => ?_⟩
    refine lc_tup (K := K) (a := wt) (xs := was.map V.ref) (fun i H3 => Same H H3 ∧ ∃ ts : List Addr, H3 D = some (.lst (ts.map V.ref)) ∧ ts.length = i ∧ Paired (IsPr H3) ts (alk i a)) ⟨same_upd nD, [], upd_same, rfl, .nil⟩ (fun i H3 _ p => .inl (.inl (p.1 _ _ r2))) (fun i x H3 hx p => ?_) (fun H3 p => ?_)
    · obtain ⟨s3, ts, hD, tl, pt⟩ := p
      have hi : i < was.length := by
        have := (List.getElem?_eq_some_iff.mp hx).1
        rw [List.length_map] at this
        exact this
      refine ⟨rfl, yes_if ?_⟩
      refine ⟨.int a, rfl, a, 64, rfl, a0, by decide, by decide, fun H4 t s4 nt p4 => ?_⟩
      have hD4 := s4 _ _ hD
      have tu : Tups H4 (upd H4 D (.lst (ts.map V.ref ++ [.ref t]))) := tups_upd fun xs z => by rw [hD4] at z; cases z
      refine ⟨_, hD4, ?_, same_put (s3.trans s4) nD, ts ++ [t], ?_, ?_, ?_⟩
      · rw [List.length_map, tl]
        exact small1000 (by omega)
      · rw [upd_same, List.map_append]
        rfl
      · rw [List.length_append, tl]
        rfl
      · unfold alk
        rw [List.replicate_succ']
        exact pairedSnoc (pairedMap (fun _ _ e => tu _ _ (s4 _ _ e)) pt) (tu _ _ p4)
    · obtain ⟨s3, ts, hD, tl, pt⟩ := p
      rw [List.length_map, hl] at pt
      exact q H3 D s3 nD ⟨ts, hD, pt⟩
theorem ok_lea {f : Addr} {Ps : List Addr} {fd : FuncData} {k : Nat} (F : Fun K "least_a" "least_a" sLea f fd) (T : TxtLa P w K mg base Ps) : FnOk P w K mg base CX0 (k + 7) f fd ["riddle"] (spLea Ps) := by
  refine F.ok scLea (fun vs H Q E h => ?_) (fun cdv A outer s H vs Q E hr h => ?_)
  · obtain ⟨ri, wds, many, hues, rfl, _⟩ := h
    rfl
  · obtain ⟨ri, wds, many, hues, rfl, hrd, gr, hT, q⟩ := h
    refine ⟨_, (pss_cons (ps_for PassesOwn.never rfl (pi_range2 (by rfl) T.m_range (pa_cons pe_int (pa_cons (C8.pe_gc (by rfl) T.g_PARTS) pa_nil))) (pg_name (i := 1) scLea.nd rfl (Or.inl rfl))
  (pss_one (ps_if (pt_val (pe_cal T.c_shows_soon (hr.mono (by omega)) (by rfl) (pa_cons (pv 0) (pa_cons (pe_cal T.c_alike_weights (hr.mono (by omega)) (by rfl) (pa_cons (pv 0) (pa_cons (pv 1) pa_nil))) pa_nil))))
  (pss_one (ps_ret (pv 1))) pss_nil)))
  (pss_one (ps_ret pe_non))), ?_⟩
    have e8 := gr.eight
    refine ⟨1, 64, rfl, ⟨by decide, by decide, by decide, by decide⟩, for_range (lo := 1) (n := 63) (fun i σ H3 => FrS Ps H H3 ∧ (∀ b : Int, 1 ≤ b → b < 1 + (i : Int) → shownB wds hues (alk wds.length b) = false) ∧ ∃ y1, σ = [some (.ref ri), y1]) ⟨FrS.refl hT, fun b h1 h2 => by omega, none, rfl⟩ (fun i σ H3 hi p => ?_) (fun σ H3 p => ?_)⟩
    · obtain ⟨f3, no, y1, rfl⟩ := p
      have rid3 := hrd.mono (f3.tups hT)
      refine ⟨.ref ri, rfl, .ref ri, rfl, .int (1 + (i : Int)), rfl, ri, 1 + (i : Int), wds, many, hues, rfl, rid3, e8, by omega, fun H4 l s4 nl frs => ?_⟩
      have f4 := f3.same s4
      refine ⟨ri, l, wds, many, hues, _, rfl, hrd.mono (f4.tups hT), gr, frs, alk_good (by omega) (by omega), by unfold alk; rw [List.length_replicate], f4.2, fun H5 f5 => ⟨_, rfl, ite2 (fun e => ?_) (fun e => ?_)⟩⟩
      · exact ⟨.int (1 + (i : Int)), rfl, q H5 (some (1 + (i : Int))) (f4.trans f5) ⟨by omega, by omega, e, no⟩⟩
      · refine ⟨f4.trans f5, fun b h1 h2 => ?_, _, rfl⟩
        by_cases z : b = 1 + (i : Int)
        · rw [z]; exact Bool.eq_false_iff.mpr e
        · exact no b h1 (by omega)
    · obtain ⟨f3, no, y1, rfl⟩ := p
      exact q H3 none f3 fun b h1 h2 => no b h1 (by omega)
theorem ok_wof {f : Addr} {Ps : List Addr} {fd : FuncData} {k : Nat} (F : Fun K "weights_of" "weights_of" sWof f fd) (T : TxtWo P w K mg base Ps) : FnOk P w K mg base CX0 (k + 8) f fd ["riddle"] (spWof Ps) := by
  refine F.ok scWof (fun vs H Q E h => ?_) (fun cdv A outer s H vs Q E hr h => ?_)
  · obtain ⟨ri, wds, many, hues, rfl, _⟩ := h
    rfl
  · obtain ⟨ri, wds, many, hues, rfl, hrd, gr, hT, q1, q2⟩ := h
    refine ⟨_, (pss_cons (ps_set (i := 1) scWof.nd rfl (Or.inl rfl) (pe_cal T.c_least_a (hr.mono (by omega)) (by rfl) (pa_cons (pv 0) pa_nil)))
  (pss_one (ps_ret (pe_ifExp (pt_cmpR op_isN (pv 1) pe_non (nomark _)) pe_non (pe_cal T.c_alike_weights (hr.mono (by omega)) (by rfl) (pa_cons (pv 0) (pa_cons (pv 1) pa_nil))))))), ?_⟩
    refine ⟨.ref ri, rfl, ri, wds, many, hues, rfl, hrd, gr, hT, fun H3 r f3 lr => ?_⟩
    cases r with
    | none => exact ⟨.non, rfl, rfl, _, rfl, iteT (q1 H3 f3 lr)⟩
    | some a =>
      obtain ⟨a1, a2, a3, a4⟩ := id lr
      refine ⟨.int a, rfl, rfl, _, rfl, iteF ⟨.ref ri, rfl, .int a, rfl, ri, a, wds, many, hues, rfl, hrd.mono (f3.tups hT), gr.eight, by omega, fun H4 l s4 nl frs => ?_⟩⟩
      exact q2 H4 a l (f3.same s4) lr (f3.free nl) frs
theorem ok_lkp {f : Addr} {fd : FuncData} {k : Nat} (F : Fun K "least_kept" "least_kept" sLkp f fd) (T : TxtLk P w K mg base) : FnOk P w K mg base CX0 (k + 3) f fd ["riddle", "weights"] spLkp := by
  refine F.ok scLkp (fun vs H Q E h => ?_) (fun cdv A outer s H vs Q E hr h => ?_)
  · obtain ⟨ri, wl, wds, many, hues, ws, rfl, _⟩ := h
    rfl
  · obtain ⟨ri, wl, wds, many, hues, ws, rfl, hrd, gr, hw, gw, w8, q⟩ := h
    refine ⟨_, (pss_cons (ps_set (i := 2) scLkp.nd rfl (Or.inl rfl) (pe_cal T.c_fillings_number (hr.mono (by omega)) (by rfl) (pa_cons (pe_ix ix_tup (pv 0) pe_int (fun _ _ => rfl)) (pa_cons (pe_ix ix_tup (pv 0) pe_int (fun _ _ => rfl)) pa_nil))))
  (pss_cons (ps_set (i := 3) scLkp.nd rfl (Or.inl rfl) pe_int)
  (pss_cons (ps_for PassesOwn.never rfl (pi_list (pv 1)) (pg_tup rfl (pgs_cons (pg_name (i := 4) scLkp.nd rfl (Or.inl rfl)) (pgs_cons (pg_name (i := 5) scLkp.nd rfl (Or.inl rfl)) pgs_nil)))
  (pss_cons (ps_aug (i := 2) scLkp.nd rfl (Or.inl rfl) (pe_op op_sub (pv 5) (pv 4)) ip_mul)
  (pss_one (ps_aug (i := 3) scLkp.nd rfl (Or.inl rfl) (pv 5) ip_mul))))
  (pss_one (ps_ret (pe_cal T.c_lowest (hr.mono (by omega)) (by rfl) (pa_cons (pv 2) (pa_cons (pv 3) pa_nil)))))))), ?_⟩
    obtain ⟨wt, was, r1, r2, r3⟩ := id hrd
    have m1 := gr.m1
    have m6 := gr.m6
    have h2 := gr.h2
    have h4 := gr.h4
    have pb := pow_bd (show 0 ≤ hues by omega) h4 (i := many.toNat) (by omega)
    have p1 : 1 ≤ hues ^ many.toNat := by
      have : 0 < hues ^ many.toNat := Int.pow_pos (by omega)
      omega
    refine ⟨.ref ri, rfl, ri, _, 0, _, rfl, rfl, .inl (.inl r1), atI_nat (j := 0) rfl, .ref ri, rfl, ri, _, 1, _, rfl, rfl, .inl (.inl r1), atI_nat (j := 1) rfl, many, hues, rfl, by omega, m6, by omega, h4, ?_⟩
    generalize hues ^ many.toNat = N at pb p1 q
    obtain ⟨ts, h1, h2'⟩ := id hw
    refine ⟨.ref wl, rfl, wl, rfl, ⟨_, .inl (.inl h1)⟩, ?_⟩
    refine for_list (K := K) (a := wl) (xs := ts.map V.ref) (fun j σ H3 => H3 = H ∧ ∃ y4 y5, σ = [some (.ref ri), some (.ref wl), some (.int ((ws.take j).foldl kSt (N, 1)).1), some (.int ((ws.take j).foldl kSt (N, 1)).2), y4, y5]) ⟨rfl, none, none, rfl⟩ (fun j σ H3 _ p => by obtain ⟨rfl, _⟩ := p; exact .inl (.inl h1)) (fun j x σ H3 hx p => ?_) (fun σ H3 p => ?_)
    · obtain ⟨t, et, rfl⟩ := map_get hx
      obtain ⟨x, ex, isx⟩ := pairedGetL h2' et
      obtain ⟨rfl, y4, y5, rfl⟩ := p
      have gx := gw.each x (List.mem_of_getElem? ex)
      have sn := fold_snoc kSt (N, 1) ex
      refine ⟨t, _, rfl, .inl (.inl isx), rfl, .int x.1, [.int x.2], rfl, .int x.2, [], rfl, rfl, ?_⟩
      refine ⟨_, rfl, .int x.2, rfl, .int x.1, rfl, _, _, rfl, rfl, _, _, rfl, rfl, .inr ⟨by omega, by omega⟩, _, rfl, .int x.2, rfl, _, _, rfl, rfl, .inr ⟨by omega, by omega⟩, rfl, some (.int x.1), some (.int x.2), ?_⟩
      rw [sn]
      rfl
    · obtain ⟨rfl, y4, y5, rfl⟩ := p
      rw [List.length_map, pairedLen h2', List.take_length]
      have bd := kept_bd gw w8 p1 pb.2 ws.length
      rw [List.take_length] at bd
      exact ⟨_, rfl, _, rfl, _, _, rfl, by omega, bd.2.1, log30 bd.2.1 bd.2.2.2, q⟩
theorem ok_mmd {f : Addr} {fd : FuncData} {k : Nat} (F : Fun K "most_mended" "most_mended" sMmd f fd) (T : TxtRo P w K mg base) : FnOk P w K mg base CX0 (k + 3) f fd ["riddle", "weights"] spMmd := by
  refine F.ok scMmd (fun vs H Q E h => ?_) (fun cdv A outer s H vs Q E hr h => ?_)
  · obtain ⟨v, wl, ws, rfl, _⟩ := h
    rfl
  · obtain ⟨v, wl, ws, rfl, hw, gw, w8, q⟩ := h
    refine ⟨_, (pss_cons (ps_set (i := 2) scMmd.nd rfl (Or.inl rfl) pe_int)
  (pss_cons (ps_set (i := 3) scMmd.nd rfl (Or.inl rfl) pe_int)
  (pss_cons (ps_for PassesOwn.never rfl (pi_list (pv 1)) (pg_tup rfl (pgs_cons (pg_name (i := 4) scMmd.nd rfl (Or.inl rfl)) (pgs_cons (pg_name (i := 5) scMmd.nd rfl (Or.inl rfl)) pgs_nil)))
  (pss_cons (ps_set (i := 6) scMmd.nd rfl (Or.inl rfl) (pe_op op_sub (pv 5) (pv 4)))
  (pss_cons (ps_set (i := 2) scMmd.nd rfl (Or.inl rfl) (pe_op op_add (pe_op op_mul (pv 2) (pv 6)) (pe_op op_mul (pv 4) (pv 3))))
  (pss_one (ps_aug (i := 3) scMmd.nd rfl (Or.inl rfl) (pv 6) ip_mul)))))
  (pss_one (ps_ret (pe_cal T.c_lowest (hr.mono (by omega)) (by rfl) (pa_cons (pv 2) (pa_cons (pv 3) pa_nil)))))))), ?_⟩
    obtain ⟨ts, h1, h2'⟩ := id hw
    refine ⟨.ref wl, rfl, wl, rfl, ⟨_, .inl (.inl h1)⟩, ?_⟩
    refine for_list (K := K) (a := wl) (xs := ts.map V.ref) (fun j σ H3 => H3 = H ∧ ∃ y4 y5 y6, σ = [some v, some (.ref wl), some (.int ((ws.take j).foldl mSt (0, 1)).1), some (.int ((ws.take j).foldl mSt (0, 1)).2), y4, y5, y6]) ⟨rfl, none, none, none, rfl⟩ (fun j σ H3 _ p => by obtain ⟨rfl, _⟩ := p; exact .inl (.inl h1)) (fun j x σ H3 hx p => ?_) (fun σ H3 p => ?_)
    · obtain ⟨t, et, rfl⟩ := map_get hx
      obtain ⟨x, ex, isx⟩ := pairedGetL h2' et
      obtain ⟨rfl, y4, y5, y6, rfl⟩ := p
      have gx := gw.each x (List.mem_of_getElem? ex)
      have sn := fold_snoc mSt (0, 1) ex
      refine ⟨t, _, rfl, .inl (.inl isx), rfl, .int x.1, [.int x.2], rfl, .int x.2, [], rfl, rfl, ?_⟩
      refine ⟨.int x.2, rfl, .int x.1, rfl, _, _, rfl, rfl, ?_⟩
      refine ⟨_, rfl, .int (x.2 - x.1), rfl, _, _, rfl, rfl, .inr ⟨by omega, by omega⟩, .int x.1, rfl, _, rfl, _, _, rfl, rfl, .inl ⟨by omega, by omega⟩, _, _, rfl, rfl, ?_⟩
      refine ⟨_, rfl, .int (x.2 - x.1), rfl, _, _, rfl, rfl, .inr ⟨by omega, by omega⟩, rfl, some (.int x.1), some (.int x.2), some (.int (x.2 - x.1)), ?_⟩
      rw [sn]
      rfl
    · obtain ⟨rfl, y4, y5, y6, rfl⟩ := p
      rw [List.length_map, pairedLen h2', List.take_length]
      have bd := mend_bd gw w8 ws.length
      rw [List.take_length] at bd
      exact ⟨_, rfl, _, rfl, _, _, rfl, bd.1, bd.2.1, log30 bd.2.1 bd.2.2.2, q⟩
end
end Rd

set_option Elab.async false
set_option linter.all false
set_option maxRecDepth 100000
set_option maxHeartbeats 4000000
namespace Rd
open PySem PySem.Spec PyProof.Rows L2 Dt
abbrev sLle : Stmt := topS 30
abbrev nLle : List Str := ["riddle", "part", "weights"]
theorem scLle : FnScope nLle ["riddle"] (defScope sLle) := ⟨rfl, rfl, rfl, by decide +kernel, rfl, by decide +kernel, by decide +kernel⟩
abbrev sLbo : Stmt := topS 31
abbrev nLbo : List Str := ["riddle", "weights", "top", "below", "place", "one", "other", "total"]
theorem scLbo : FnScope nLbo ["riddle", "weights"] (defScope sLbo) := ⟨rfl, rfl, rfl, by decide +kernel, rfl, by decide +kernel, by decide +kernel⟩
def spLle : Sp := fun vs H Q _ => ∃ (ri : Addr) (wds : List WD) (many hues : Int), vs = [.ref ri] ∧ IsRid H ri many hues wds ∧ GoodR many hues wds ∧
  (∀ H' t, Same H H' → Lst wds hues none → H' t = some (.tup [.non, .non]) → Q (.ref t) H') ∧ (∀ H' t l a, Same H H' → Lst wds hues (some a) → H l = none → IsFrs H' l (alk wds.length a) → H' t = some (.tup [.int a, .ref l]) → Q (.ref t) H')
def spLbo : Sp := fun vs H Q _ => ∃ (ri wl : Addr) (wds : List WD) (many hues : Int) (ws : List Fc), vs = [.ref ri, .ref wl] ∧ IsRid H ri many hues wds ∧ GoodR many hues wds ∧ IsFrs H wl ws ∧ GoodW 150 ws ∧ ws.length ≤ 8 ∧
  ∀ H' t t1 t2, Same H H' → H' t = some (.tup [.ref t1, .ref t2]) → IsPr H' t1 (lowI (keptF (hues ^ many.toNat) ws).1 (keptF (hues ^ many.toNat) ws).2) → IsPr H' t2 (lowI (mendF ws).1 (mendF ws).2) → Q (.ref t) H'
structure TxtLe (P : Program) (w : World) (K : PySem.W.Frag) (mg : Str → Option Value) (base : Heap) : Prop where
  m_range : mg "range" = none
  m_len : mg "len" = none
  c__law_lowest : Cal P w K mg base 1 "_law_lowest" ["top", "below"] spLow
  c__law_shown : Cal P w K mg base 2 "_law_shown" ["riddle", "weights"] spLsw
structure TxtBo (P : Program) (w : World) (K : PySem.W.Frag) (mg : Str → Option Value) (base : Heap) : Prop where
  m_range : mg "range" = none
  c__law_lowest : Cal P w K mg base 1 "_law_lowest" ["top", "below"] spLow
section
variable {P : Program} {w : World} {K : PySem.W.Frag} {mg : Str → Option Value} {base : Heap}
theorem ok_lle {f : Addr} {fd : FuncData} {k : Nat} (F : Fun K "_law_least" "_law_least" sLle f fd) (T : TxtLe P w K mg base) : FnOk P w K mg base CX0 (k + 3) f fd ["riddle"] spLle := by
  refine F.ok scLle (fun vs H Q E h => ?_) (fun cdv A outer s H vs Q E hr h => ?_)
  · obtain ⟨ri, wds, many, hues, rfl, _⟩ := h
    rfl
  · obtain ⟨ri, wds, many, hues, rfl, hrd, gr, q1, q2⟩ := h
    refine ⟨_, (pss_cons (ps_for PassesOwn.never rfl (pi_range2 (by rfl) T.m_range (pa_cons pe_int (pa_cons pe_int pa_nil))) (pg_name (i := 1) scLle.nd rfl (Or.inl rfl))
  (pss_cons (ps_set (i := 2) scLle.nd rfl (Or.inl rfl) (pe_op op_rep (pe_lst (pa_cons (pe_cal T.c__law_lowest (hr.mono (by omega)) (by rfl) (pa_cons (pv 1) (pa_cons pe_int pa_nil))) pa_nil)) (pe_callB call_len_seq (by rfl) T.m_len (by decide +kernel) (pa_cons (pe_ix ix_tup (pv 0) pe_int (fun _ _ => rfl)) pa_nil))))
  (pss_one (ps_if (pt_val (pe_cal T.c__law_shown (hr.mono (by omega)) (by rfl) (pa_cons (pv 0) (pa_cons (pv 2) pa_nil))))
  (pss_one (ps_ret (pe_tup (pa_cons (pv 1) (pa_cons (pv 2) pa_nil))))) pss_nil))))
  (pss_one (ps_ret (pe_tup (pa_cons pe_non (pa_cons pe_non pa_nil)))))), ?_⟩
    have e8 := gr.eight
    obtain ⟨wt, was, r1, r2, r3⟩ := id hrd
    have hl : was.length = wds.length := pairedLen r3
    refine ⟨1, 64, rfl, ⟨by decide, by decide, by decide, by decide⟩, for_range (lo := 1) (n := 63) (fun i σ H3 => Same H H3 ∧ (∀ b : Int, 1 ≤ b → b < 1 + (i : Int) → shownB wds hues (alk wds.length b) = false) ∧ ∃ y1 y2, σ = [some (.ref ri), y1, y2]) ⟨fun _ _ e => e, fun b h1 h2 => by omega, none, none, rfl⟩ (fun i σ H3 hi p => ?_) (fun σ H3 p => ?_)⟩
    · obtain ⟨s3, no, y1, y2, rfl⟩ := p
      refine ⟨.int (1 + (i : Int)), rfl, 1 + (i : Int), 64, rfl, by omega, by decide, by decide, fun H4 t4 s4 nt4 p4 => ⟨(by show 1 ≤ sizeLine; decide), fun l1 nl1 => ?_⟩⟩
      have u1 := same_upd (o := .lst [V.ref t4]) nl1
      have s05 := (s3.trans s4).trans u1
      refine ⟨.ref ri, rfl, ri, _, 2, _, rfl, rfl, .inl (.inl (s05 _ _ r1)), atI_nat (j := 2) rfl, wt, _, rfl, .inr (.inl (.inl (s05 _ _ r2))), l1, _, _, rfl, rfl, upd_same, by omega, by rw [List.length_map]; omega, ?_, fun le nle => ?_⟩
      · rw [List.length_map, Int.toNat_natCast]
        show 1 * _ ≤ sizeLine
        exact Nat.le_of_lt (small1000 (by omega))
      rw [List.length_map, Int.toNat_natCast, rep_flat V.ref t4 was.length]
      have u2 := same_upd (o := .lst ((List.replicate was.length t4).map V.ref)) nle
      have s06 := s05.trans u2
      have frs : IsFrs _ le (alk wds.length (1 + (i : Int))) := ⟨_, upd_same, by rw [← hl]; exact pairedRep (F := IsPr _) (u2 _ _ (u1 _ _ p4)) _⟩
      have nle0 : H le = none := s05.free nle
      generalize upd (upd H4 l1 (.lst [V.ref t4])) le (.lst ((List.replicate was.length t4).map V.ref)) = H6 at s06 frs
      refine ⟨.ref ri, rfl, .ref le, rfl, ri, le, wds, many, hues, _, rfl, hrd.mono (tups_same s06), gr, frs, alk_good (by omega) (by omega), by unfold alk; rw [List.length_replicate], fun H7 s7 => ⟨_, rfl, ite2 (fun e => ?_) (fun e => ?_)⟩⟩
      · refine ⟨.int (1 + (i : Int)), rfl, .ref le, rfl, (by show 2 ≤ sizeLine; decide), fun t nt => ?_⟩
        have st := same_upd (o := .tup [.int (1 + (i : Int)), .ref le]) nt
        exact q2 _ t le (1 + (i : Int)) ((s06.trans s7).trans st) ⟨by omega, by omega, e, no⟩ nle0 (frs.seqs (seqs_same (s7.trans st))) upd_same
      · refine ⟨s06.trans s7, fun b h1 h2 => ?_, _, _, rfl⟩
        by_cases z : b = 1 + (i : Int)
        · rw [z]; exact Bool.eq_false_iff.mpr e
        · exact no b h1 (by omega)
    · obtain ⟨s3, no, y1, y2, rfl⟩ := p
      refine ⟨(by show 2 ≤ sizeLine; decide), fun t nt => ?_⟩
      exact q1 _ t (s3.trans (same_upd nt)) (fun b h1 h2 => no b h1 (by omega)) upd_same
theorem ok_lbo {f : Addr} {fd : FuncData} {k : Nat} (F : Fun K "_law_bounds" "_law_bounds" sLbo f fd) (T : TxtBo P w K mg base) : FnOk P w K mg base CX0 (k + 2) f fd ["riddle", "weights"] spLbo := by
  refine F.ok scLbo (fun vs H Q E h => ?_) (fun cdv A outer s H vs Q E hr h => ?_)
  · obtain ⟨ri, wl, wds, many, hues, ws, rfl, _⟩ := h
    rfl
  · obtain ⟨ri, wl, wds, many, hues, ws, rfl, hrd, gr, hw, gw, w8, q⟩ := h
    refine ⟨_, (pss_cons (ps_asg (pe_tup (pa_cons pe_int (pa_cons pe_int pa_nil))) (pg_tup rfl (pgs_cons (pg_name (i := 2) scLbo.nd rfl (Or.inl rfl)) (pgs_cons (pg_name (i := 3) scLbo.nd rfl (Or.inl rfl)) pgs_nil))))
  (pss_cons (ps_for PassesOwn.never rfl (pi_range1 (by rfl) T.m_range (pa_cons (pe_ix ix_tup (pv 0) pe_int (fun _ _ => rfl)) pa_nil)) (pg_name (i := 4) scLbo.nd rfl (Or.inl rfl))
  (pss_one (ps_set (i := 2) scLbo.nd rfl (Or.inl rfl) (pe_op op_mul (pv 2) (pe_ix ix_tup (pv 0) pe_int (fun _ _ => rfl))))))
  (pss_cons (ps_for PassesOwn.never rfl (pi_list (pv 1)) (pg_tup rfl (pgs_cons (pg_name (i := 5) scLbo.nd rfl (Or.inl rfl)) (pgs_cons (pg_name (i := 6) scLbo.nd rfl (Or.inl rfl)) pgs_nil)))
  (pss_one (ps_par (i := 2) (j := 3) rfl scLbo.nd rfl rfl (by decide) rfl rfl (pa_cons (pe_op op_mul (pv 2) (pe_op op_sub (pv 6) (pv 5))) (pa_cons (pe_op op_mul (pv 3) (pv 6)) pa_nil)) (by rfl))))
  (pss_cons (ps_set (i := 7) scLbo.nd rfl (Or.inl rfl) (pe_tup (pa_cons pe_int (pa_cons pe_int pa_nil))))
  (pss_cons (ps_for PassesOwn.never rfl (pi_list (pv 1)) (pg_tup rfl (pgs_cons (pg_name (i := 5) scLbo.nd rfl (Or.inl rfl)) (pgs_cons (pg_name (i := 6) scLbo.nd rfl (Or.inl rfl)) pgs_nil)))
  (pss_one (ps_set (i := 7) scLbo.nd rfl (Or.inl rfl) (pe_tup (pa_cons (pe_op op_add (pe_op op_mul (pe_ix ix_tup (pv 7) pe_int (fun _ _ => rfl)) (pe_op op_sub (pv 6) (pv 5))) (pe_op op_mul (pv 5) (pe_ix ix_tup (pv 7) pe_int (fun _ _ => rfl)))) (pa_cons (pe_op op_mul (pe_ix ix_tup (pv 7) pe_int (fun _ _ => rfl)) (pe_op op_sub (pv 6) (pv 5))) pa_nil))))))
  (pss_one (ps_ret (pe_tup (pa_cons (pe_cal T.c__law_lowest (hr.mono (by omega)) (by rfl) (pa_cons (pv 2) (pa_cons (pv 3) pa_nil))) (pa_cons (pe_cal T.c__law_lowest (hr.mono (by omega)) (by rfl) (pa_cons (pe_ix ix_tup (pv 7) pe_int (fun _ _ => rfl)) (pa_cons (pe_ix ix_tup (pv 7) pe_int (fun _ _ => rfl)) pa_nil))) pa_nil)))))))))), ?_⟩
    obtain ⟨wt, was, r1, r2, r3⟩ := id hrd
    have m1 := gr.m1
    have m6 := gr.m6
    have h2 := gr.h2
    have h4 := gr.h4
    have pb := pow_bd (show 0 ≤ hues by omega) h4 (i := many.toNat) (by omega)
    have p1 : 1 ≤ hues ^ many.toNat := by
      have : 0 < hues ^ many.toNat := Int.pow_pos (by omega)
      omega
    obtain ⟨ts, h1, hp⟩ := id hw
    have tl := pairedLen hp
    refine ⟨(by show 2 ≤ sizeLine; decide), fun tz ntz => ⟨tz, _, rfl, .inl (.inl upd_same), rfl, .int 1, [.int 1], rfl, .int 1, [], rfl, rfl, ?_⟩⟩
    have uz := same_upd (o := .tup [.int 1, .int 1]) ntz
    have q : ∀ H' t t1 t2, Same (upd H tz (.tup [.int 1, .int 1])) H' → H' t = some (.tup [.ref t1, .ref t2]) → IsPr H' t1 (lowI (keptF (hues ^ many.toNat) ws).1 (keptF (hues ^ many.toNat) ws).2) → IsPr H' t2 (lowI (mendF ws).1 (mendF ws).2) → Q (.ref t) H' := fun H' t t1 t2 a b c d => q H' t t1 t2 (uz.trans a) b c d
    have h1 := uz _ _ h1
    have hp := pairedMap (fun _ _ e => uz _ _ e) hp
    have r1 := uz _ _ r1
    clear hw hrd r2 r3
    generalize upd H tz (.tup [.int 1, .int 1]) = H at q h1 hp r1
    refine ⟨.ref ri, rfl, ri, _, 0, _, rfl, rfl, .inl (.inl r1), atI_nat (j := 0) rfl, many, rfl, by omega, by omega, ?_⟩
    refine for_range (lo := 0) (n := many.toNat) (fun i σ H3 => H3 = H ∧ ∃ y4, σ = [some (.ref ri), some (.ref wl), some (.int (hues ^ i)), some (.int 1), y4, none, none, none]) ⟨rfl, none, by rw [Int.pow_zero]; rfl⟩ (fun i σ H3 hi p => ?_) (fun σ H3 p => ?_)
    · obtain ⟨rfl, y4, rfl⟩ := p
      have b := pow_bd (show 0 ≤ hues by omega) h4 (i := i) (by omega)
      exact ⟨_, rfl, .ref ri, rfl, ri, _, 1, _, rfl, rfl, .inl (.inl r1), atI_nat (j := 1) rfl, hues ^ i, hues, rfl, rfl, .inl ⟨by omega, by omega⟩, rfl, some (.int (0 + (i : Int))), by rw [Int.pow_succ]; rfl⟩
    obtain ⟨rfl, y4, rfl⟩ := p
    generalize hues ^ many.toNat = N at pb p1 q
    refine ⟨.ref wl, rfl, wl, rfl, ⟨_, .inl (.inl h1)⟩, ?_⟩
    refine for_list (K := K) (a := wl) (xs := ts.map V.ref) (fun j σ H4 => H4 = H3 ∧ ∃ y5 y6, σ = [some (.ref ri), some (.ref wl), some (.int ((ws.take j).foldl kSt (N, 1)).1), some (.int ((ws.take j).foldl kSt (N, 1)).2), y4, y5, y6, none]) ⟨rfl, none, none, rfl⟩ (fun j σ H4 _ p => by obtain ⟨rfl, _⟩ := p; exact .inl (.inl h1)) (fun j x σ H4 hx p => ?_) (fun σ H4 p => ?_)
    · obtain ⟨t, et, rfl⟩ := map_get hx
      obtain ⟨x, ex, isx⟩ := pairedGetL hp et
      obtain ⟨rfl, y5, y6, rfl⟩ := p
      have gx := gw.each x (List.mem_of_getElem? ex)
      have sn := fold_snoc kSt (N, 1) ex
      refine ⟨t, _, rfl, .inl (.inl isx), rfl, .int x.1, [.int x.2], rfl, .int x.2, [], rfl, rfl, ?_⟩
      refine ⟨_, rfl, .int x.2, rfl, .int x.1, rfl, _, _, rfl, rfl, _, _, rfl, rfl, .inr ⟨by omega, by omega⟩, _, rfl, .int x.2, rfl, _, _, rfl, rfl, .inr ⟨by omega, by omega⟩, _, _, rfl, rfl, some (.int x.1), some (.int x.2), ?_⟩
      rw [sn]
      rfl
    obtain ⟨rfl, y5, y6, rfl⟩ := p
    rw [List.length_map, tl, List.take_length]
    have bk := kept_bd gw w8 p1 pb.2 ws.length
    rw [List.take_length] at bk
    -- total
    refine ⟨(by show 2 ≤ sizeLine; decide), fun t0 nt0 => ?_⟩
    have u0 := same_upd (o := .tup [.int 0, .int 1]) nt0
    refine ⟨.ref wl, rfl, wl, rfl, ⟨_, .inl (.inl (u0 _ _ h1))⟩, ?_⟩
    refine for_list (K := K) (a := wl) (xs := ts.map V.ref) (fun j σ H5 => Same H4 H5 ∧ ∃ t, IsPr H5 t ((ws.take j).foldl mSt (0, 1)) ∧ ∃ y5 y6, σ = [some (.ref ri), some (.ref wl), some (.int (ws.foldl kSt (N, 1)).1), some (.int (ws.foldl kSt (N, 1)).2), y4, y5, y6, some (.ref t)]) ⟨u0, t0, upd_same, _, _, rfl⟩ (fun j σ H5 _ p => .inl (.inl (p.1 _ _ h1))) (fun j x σ H5 hx p => ?_) (fun σ H5 p => ?_)
    · obtain ⟨t, et, rfl⟩ := map_get hx
      obtain ⟨x, ex, isx⟩ := pairedGetL hp et
      obtain ⟨s5, tt, ist, y5, y6, rfl⟩ := p
      have gx := gw.each x (List.mem_of_getElem? ex)
      have sn := fold_snoc mSt (0, 1) ex
      refine ⟨t, _, rfl, .inl (.inl (s5 _ _ isx)), rfl, .int x.1, [.int x.2], rfl, .int x.2, [], rfl, rfl, ?_⟩
      refine ⟨.ref tt, rfl, tt, _, 0, _, rfl, rfl, .inl (.inl ist), atI_nat (j := 0) rfl, .int x.2, rfl, .int x.1, rfl, _, _, rfl, rfl, _, _, rfl, rfl, .inr ⟨by omega, by omega⟩, .int x.1, rfl, .ref tt, rfl, tt, _, 1, _, rfl, rfl, .inl (.inl ist), atI_nat (j := 1) rfl, _, _, rfl, rfl, .inl ⟨by omega, by omega⟩, _, _, rfl, rfl, .ref tt, rfl, tt, _, 1, _, rfl, rfl, .inl (.inl ist), atI_nat (j := 1) rfl, .int x.2, rfl, .int x.1, rfl, _, _, rfl, rfl, _, _, rfl, rfl, .inr ⟨by omega, by omega⟩, (by show 2 ≤ sizeLine; decide), fun t2 nt2 => ?_⟩
      refine ⟨s5.trans (same_upd nt2), t2, ?_, some (.int x.1), some (.int x.2), rfl⟩
      rw [sn]
      exact upd_same
    · obtain ⟨s5, tt, ist, y5, y6, rfl⟩ := p
      rw [List.length_map, tl, List.take_length] at ist
      have bm := mend_bd gw w8 ws.length
      rw [List.take_length] at bm
      refine ⟨_, rfl, _, rfl, _, _, rfl, by omega, bk.2.1, log30 bk.2.1 bk.2.2.2, fun H6 t1 s6 nt1 p1' => ?_⟩
      have ist6 := s6 _ _ ist
      refine ⟨.ref tt, rfl, tt, _, 0, _, rfl, rfl, .inl (.inl ist6), atI_nat (j := 0) rfl, .ref tt, rfl, tt, _, 1, _, rfl, rfl, .inl (.inl ist6), atI_nat (j := 1) rfl, _, _, rfl, bm.1, bm.2.1, log30 bm.2.1 bm.2.2.2, fun H7 t2 s7 nt2 p2' => ⟨(by show 2 ≤ sizeLine; decide), fun t nt => ?_⟩⟩
      have st := same_upd (o := .tup [.ref t1, .ref t2]) nt
      exact q _ t t1 t2 (((s5.trans s6).trans s7).trans st) upd_same (st _ _ (s7 _ _ p1')) (st _ _ p2')
end
end Rd

set_option Elab.async false
set_option linter.all false
set_option maxRecDepth 100000
set_option maxHeartbeats 4000000
namespace Rd
open PySem PySem.Spec PyProof.Rows L2 Dt
abbrev sLaw : Stmt := topS 32
abbrev nLaw : List Str := ["script", "start", "tape", "small", "riddle", "part", "weights", "again", "found", "handed", "told"]
theorem scLaw : FnScope nLaw ["script"] (defScope sLaw) := ⟨rfl, rfl, rfl, by decide +kernel, rfl, by decide +kernel, by decide +kernel⟩
/-- what is told of the least weights -/
def TellW (tp : Addr) (n : Nat) (H : Hp) : Option Int → V → V → Prop
  | none, pv, wv => pv = .non ∧ wv = .non
  | some a, pv, wv => pv = .int a ∧ 1 ≤ a ∧ a < 64 ∧ ∃ l, wv = .ref l ∧ l ≠ tp ∧ IsFrs H l (alk n a)
theorem TellW.seqs {tp : Addr} {n : Nat} {H H' : Hp} {pv wv : V} (s : Seqs H H') : ∀ {r : Option Int}, TellW tp n H r pv wv → TellW tp n H' r pv wv
  | none, h => h
  | some a, ⟨h1, h2, h3, l, h4, h5, h6⟩ => ⟨h1, h2, h3, l, h4, h5, h6.seqs s⟩
theorem log64 {a : Int} (h1 : 1 ≤ a) (h2 : a < 64) : a.natAbs.log2 < 1920 := by
  have hz : a.natAbs ≠ 0 := by omega
  have := (Nat.log2_lt hz).mpr (show a.natAbs < 2 ^ 6 by omega)
  omega
def toldD (x y : Fc) : PyData := .tuple [frD x, frD y]
structure TxtL (P : Program) (w : World) (K : PySem.W.Frag) (mg : Str → Option Value) (base : Heap) (Ps : List Addr) : Prop where
  m_range : mg "range" = none
  m_repr : mg "repr" = none
  m_max : mg "max" = none
  m_min : mg "min" = none
  m_len : mg "len" = none
  m_list : mg "list" = none
  c__law_tape : Cal P w K mg base 1 "_law_tape" ["script", "start"] (spTap K)
  c__law_digit : Cal P w K mg base 1 "_law_digit" ["tape", "many"] spDig
  c__law_riddle : Cal P w K mg base 3 "_law_riddle" ["tape", "small"] spRid
  c__law_sparse : Cal P w K mg base 3 "_law_sparse" ["tape"] spSpa
  c__law_weights : Cal P w K mg base 2 "_law_weights" ["tape", "riddle"] spLwe
  c__law_least : Cal P w K mg base 3 "_law_least" ["riddle"] spLle
  c__law_bounds : Cal P w K mg base 2 "_law_bounds" ["riddle", "weights"] spLbo
  c_least_a : Cal P w K mg base 7 "least_a" ["riddle"] (spLea Ps)
  c_weights_of : Cal P w K mg base 8 "weights_of" ["riddle"] (spWof Ps)
  c_least_kept : Cal P w K mg base 3 "least_kept" ["riddle", "weights"] spLkp
  c_most_mended : Cal P w K mg base 3 "most_mended" ["riddle", "weights"] spMmd
section
variable {P : Program} {w : World} {K : PySem.W.Frag} {mg : Str → Option Value} {base : Heap}
set_option maxHeartbeats 16000000 in
theorem body_law {fa a : Addr} {Ps : List Addr} {s : Shared} {H : Hp} {cdv : Value} {ns : List Int} (T : TxtL P w K mg base Ps) (hl : ns.length ≤ 63) (hT : Tabs Ps H) (hS : SqL K H a (ns.map V.int))
    (hr : Room 8 (callerA.deeper (envOfC (Str.ofString "law") (defScope sLaw) s.heap.objs.size fa cdv))) :
    ∃ t, PSs (cxOf CX0 P w K mg base nLaw (Str.ofString "law") (defScope sLaw) fa cdv callerA [] s H (fun _ _ _ => False)).nox (defBody sLaw) t ∧ t { nx := fun _ _ => False, rt := fun v _ => v = .bl true } (start nLaw [.ref a]) H := by
  have hg : (callerA.deeper (envOfC (Str.ofString "law") (defScope sLaw) s.heap.objs.size fa cdv)).guards = some [] := rfl
  refine ⟨_, (pss_cons (ps_for PassesOwn.never rfl (pi_range1 (by rfl) T.m_range (pa_cons (pe_callB (call_max2 rfl) (by rfl) T.m_max (by decide +kernel) (pa_cons pe_int (pa_cons (pe_callB (call_min2 rfl) (by rfl) T.m_min (by decide +kernel) (pa_cons pe_int (pa_cons (pe_callB call_len_seq (by rfl) T.m_len (by decide +kernel) (pa_cons (pv 0) pa_nil)) pa_nil))) pa_nil))) pa_nil)) (pg_name (i := 1) scLaw.nd rfl (Or.inl rfl))
  (pss_cons (ps_set (i := 2) scLaw.nd rfl (Or.inl rfl) (pe_cal T.c__law_tape (hr.mono (by omega)) (by rfl) (pa_cons (pv 0) (pa_cons (pv 1) pa_nil))))
  (pss_cons (ps_set (i := 3) scLaw.nd rfl (Or.inl rfl) (pe_cmpR op_eq (pe_cal T.c__law_digit (hr.mono (by omega)) (by rfl) (pa_cons (pv 2) (pa_cons pe_int pa_nil))) pe_int (nomark _)))
  (pss_cons (ps_set (i := 4) scLaw.nd rfl (Or.inl rfl) (pe_ix ix_list (pe_lst (pa_cons (pe_cal T.c__law_riddle (hr.mono (by omega)) (by rfl) (pa_cons (pv 2) (pa_cons (pv 3) pa_nil))) (pa_cons (pe_cal T.c__law_sparse (hr.mono (by omega)) (by rfl) (pa_cons (pv 2) pa_nil)) (pa_cons (pe_cal T.c__law_sparse (hr.mono (by omega)) (by rfl) (pa_cons (pv 2) pa_nil)) pa_nil)))) (pe_cal T.c__law_digit (hr.mono (by omega)) (by rfl) (pa_cons (pv 2) (pa_cons pe_int pa_nil))) (fun _ _ => rfl)))
  (C8.pss_cut (ps_asg (pe_cal T.c__law_least (hr.mono (by omega)) (by rfl) (pa_cons (pv 4) pa_nil)) (pg_tup rfl (pgs_cons (pg_name (i := 5) scLaw.nd rfl (Or.inl rfl)) (pgs_cons (pg_name (i := 6) scLaw.nd rfl (Or.inl rfl)) pgs_nil))))
  (C8.pss_cut (ps_if (pt_cmpR op_ne (pe_callB (call_repr3 hg hr.units) (by rfl) T.m_repr (by decide +kernel) (pa_cons (pe_cal T.c_least_a (hr.mono (by omega)) (by rfl) (pa_cons (pv 4) pa_nil)) pa_nil)) (pe_callB (call_repr3 hg hr.units) (by rfl) T.m_repr (by decide +kernel) (pa_cons (pv 5) pa_nil)) (nomark _))
  (pss_one (ps_ret pe_bl)) pss_nil)
  (pss_cons (ps_for PassesOwn.never rfl (pi_range1 (by rfl) T.m_range (pa_cons pe_int pa_nil)) (pg_name (i := 7) scLaw.nd rfl (Or.inl rfl))
  (C8.pss_cut (ps_set (i := 8) scLaw.nd rfl (Or.inl rfl) (pe_cal T.c_weights_of (hr.mono (by omega)) (by rfl) (pa_cons (pv 4) pa_nil)))
  (C8.pss_cut (ps_if (pt_cmpR op_ne (pe_callB (call_repr3 hg hr.units) (by rfl) T.m_repr (by decide +kernel) (pa_cons (pv 8) pa_nil)) (pe_callB (call_repr3 hg hr.units) (by rfl) T.m_repr (by decide +kernel) (pa_cons (pv 6) pa_nil)) (nomark _))
  (pss_one (ps_ret pe_bl)) pss_nil)
  (pss_one (ps_if (pt_cmpR op_notN (pv 8) pe_non (nomark _))
  (pss_one (ps_expr (pe_bm PySem.F.plainAttrs_list PySem.F.slot_list_append PySem.F.type_list_append mt_append (pv 8) (pa_cons (pe_tup (pa_cons pe_int (pa_cons pe_int pa_nil))) pa_nil)))) pss_nil)))))
  (pss_cons (ps_set (i := 6) scLaw.nd rfl (Or.inl rfl) (pe_cal T.c__law_weights (hr.mono (by omega)) (by rfl) (pa_cons (pv 2) (pa_cons (pv 4) pa_nil))))
  (pss_cons (ps_set (i := 9) scLaw.nd rfl (Or.inl rfl) (pe_callTy call_list_of (by rfl) T.m_list (by decide +kernel) (pa_cons (pv 6) pa_nil)))
  (pss_cons (ps_set (i := 10) scLaw.nd rfl (Or.inl rfl) (pe_tup (pa_cons (pe_cal T.c_least_kept (hr.mono (by omega)) (by rfl) (pa_cons (pv 4) (pa_cons (pv 9) pa_nil))) (pa_cons (pe_cal T.c_most_mended (hr.mono (by omega)) (by rfl) (pa_cons (pv 4) (pa_cons (pv 9) pa_nil))) pa_nil))))
  (pss_one (ps_if (PW.pt (pw_or (pt_cmpR op_ne (pe_callB (call_repr3 hg hr.units) (by rfl) T.m_repr (by decide +kernel) (pa_cons (pv 10) pa_nil)) (pe_callB (call_repr3 hg hr.units) (by rfl) T.m_repr (by decide +kernel) (pa_cons (pe_cal T.c__law_bounds (hr.mono (by omega)) (by rfl) (pa_cons (pv 4) (pa_cons (pv 6) pa_nil))) pa_nil)) (nomark _)) (pw_or1 (pt_cmpR (op_neD hr.units) (pv 9) (pv 6) (nomark _)))))
  (pss_one (ps_ret pe_bl)) pss_nil))))))))))))
  (pss_one (ps_ret pe_bl))), ?_⟩
  refine ⟨.ref a, rfl, a, _, rfl, .inl hS, 5, _, rfl, 1, _, rfl, ?_⟩
  rw [List.length_map]
  obtain ⟨c1, c5⟩ : 1 ≤ (if (if (ns.length : Int) < 5 then (ns.length : Int) else 5) > 1 then (if (ns.length : Int) < 5 then (ns.length : Int) else 5) else 1) ∧ (if (if (ns.length : Int) < 5 then (ns.length : Int) else 5) > 1 then (if (ns.length : Int) < 5 then (ns.length : Int) else 5) else 1) ≤ 5 := by split <;> split <;> omega
  generalize (if (if (ns.length : Int) < 5 then (ns.length : Int) else 5) > 1 then (if (ns.length : Int) < 5 then (ns.length : Int) else 5) else 1) = cells at c1 c5
  refine ⟨cells, rfl, by omega, by omega, for_range (lo := 0) (n := cells.toNat) (fun i σ H2 => Tabs Ps H2 ∧ SqL K H2 a (ns.map V.int) ∧ ∃ y1 y2 y3 y4 y5 y6 y7 y8 y9 y10, σ = [some (.ref a), y1, y2, y3, y4, y5, y6, y7, y8, y9, y10]) ⟨hT, hS, none, none, none, none, none, none, none, none, none, none, rfl⟩ (fun i σ H2 hi p => ?_) (fun σ H2 p => ?_)⟩
  · obtain ⟨hT2, hS2, y1, y2, y3, y4, y5, y6, y7, y8, y9, y10, rfl⟩ := p
    -- tape
    refine ⟨.ref a, rfl, .int (0 + (i : Int)), rfl, a, ns, _, rfl, hS2, hl, by omega, by omega, fun H3 tp s3 ntp tp3 => ?_⟩
    have L3 : LI K a (ns.map V.int) Ps tp H3 := ⟨tp3, hT2.same s3, sq_keep hS2 (s3 a), fun e H' => sq_new hS2 ntp e H'⟩
    -- riddle
    refine ⟨.ref tp, rfl, tp, 2, rfl, tp3, by decide, by decide, fun H4 d D4 _ _ => ⟨rfl, ?_⟩⟩
    have L4 := L3.taped D4
    generalize decide (V.int d = V.int 0) = sm
    refine ⟨.ref tp, rfl, .bl sm, rfl, tp, sm, rfl, L4.tape, fun H5 ra manyA huesA wdsA D5 ridA grA neA szA => ?_⟩
    have L5 := L4.taped D5
    refine ⟨.ref tp, rfl, tp, rfl, L5.tape, fun H6 rb manyB huesB wdsB D6 ridB grB neB szB => ?_⟩
    have L6 := L5.taped D6
    refine ⟨.ref tp, rfl, tp, rfl, L6.tape, fun H6' rc manyC huesC wdsC D6' ridC grC neC szC' => ⟨(by show 3 ≤ sizeLine; decide), fun lr nlr => ?_⟩⟩
    have L6' := L6.taped D6'
    have s7 := same_upd (o := .lst [V.ref ra, .ref rb, .ref rc]) nlr
    have L7 := L6'.same s7
    have nlt : lr ≠ tp := L6'.tape.new nlr
    have ridA7 := ((ridA.mono (D6.tups L5.tape)).mono (D6'.tups L6.tape)).mono (tups_same s7)
    have ridB7 := (ridB.mono (D6'.tups L6.tape)).mono (tups_same s7)
    have ridC7 := ridC.mono (tups_same s7)
    have hlr : upd H6' lr (.lst [V.ref ra, .ref rb, .ref rc]) lr = some (.lst [V.ref ra, .ref rb, .ref rc]) := upd_same
    generalize upd H6' lr (.lst [V.ref ra, .ref rb, .ref rc]) = H7 at L7 ridA7 ridB7 ridC7 hlr s7
    refine ⟨.ref tp, rfl, tp, 3, rfl, L7.tape, by decide, by decide, fun H8 c D8 c0 c1 => ?_⟩
    have L8 := L7.taped D8
    have tu8 := D8.tups L7.tape
    obtain ⟨ri, many, hues, wds, hix, rid, gr⟩ : ∃ ri many hues wds, atI [V.ref ra, .ref rb, .ref rc] c = some (.ref ri) ∧ IsRid H8 ri many hues wds ∧ GoodR many hues wds := by
      have : c = 0 ∨ c = 1 ∨ c = 2 := by omega
      rcases this with rfl | rfl | rfl
      · exact ⟨ra, manyA, huesA, wdsA, rfl, ridA7.mono tu8, grA⟩
      · exact ⟨rb, manyB, huesB, wdsB, rfl, ridB7.mono tu8, grB⟩
      · exact ⟨rc, manyC, huesC, wdsC, rfl, ridC7.mono tu8, grC⟩
    refine ⟨lr, _, c, _, rfl, rfl, .inl (.inl (D8.1 _ _ nlt hlr)), hix, ?_⟩
    clear ridA ridB ridC grA grB grC neA neB neC szA szB szC' ridA7 ridB7 ridC7 hix
    have e8 := gr.eight
    -- part, weights
    refine ⟨fun σ H9 => LI K a (ns.map V.int) Ps tp H9 ∧ IsRid H9 ri many hues wds ∧ ∃ r pv wv, Lst wds hues r ∧ TellW tp wds.length H9 r pv wv ∧ σ = [some (.ref a), some (.int (0 + (i : Int))), some (.ref tp), some (.bl sm), some (.ref ri), some pv, some wv, y7, y8, y9, y10], ?_, ?_⟩
    · refine ⟨.ref ri, rfl, ri, wds, many, hues, rfl, rid, gr, fun H9 t s9 lr ht => ?_, fun H9 t l a' s9 lr nl frs ht => ?_⟩
      · exact ⟨t, _, rfl, .inl (.inl ht), rfl, .non, [.non], rfl, .non, [], rfl, rfl, L8.same s9, rid.mono (tups_same s9), none, .non, .non, lr, ⟨rfl, rfl⟩, rfl⟩
      · exact ⟨t, _, rfl, .inl (.inl ht), rfl, .int a', [.ref l], rfl, .ref l, [], rfl, rfl, L8.same s9, rid.mono (tups_same s9), some a', .int a', .ref l, lr, ⟨rfl, lr.1, lr.2.1, l, rfl, L8.tape.new nl, frs⟩, rfl⟩
    rintro σ H9 ⟨L9, rid9, r, pv, wv, lst, tel, rfl⟩
    -- least_a
    refine ⟨fun σ H10 => LI K a (ns.map V.int) Ps tp H10 ∧ IsRid H10 ri many hues wds ∧ TellW tp wds.length H10 r pv wv ∧ σ = [some (.ref a), some (.int (0 + (i : Int))), some (.ref tp), some (.bl sm), some (.ref ri), some pv, some wv, y7, y8, y9, y10], ?_, ?_⟩
    · refine ⟨.ref ri, rfl, ri, wds, many, hues, rfl, rid9, gr, L9.tabs, fun H10 r2 f10 lst2 => ?_⟩
      obtain rfl := Lst.one lst2 lst
      have L10 := L9.frs f10
      have sq10 := f10.seqs L9.tabs
      have rid10 := rid9.mono sq10.1
      have tel10 := tel.seqs sq10
      cases r2 with
      | none =>
        obtain ⟨e1, e2⟩ := id tel10
        subst e1 e2
        exact .inr (.inl ⟨rfl, .non, rfl, .inr (.inl ⟨rfl, rfl, _, rfl, iteNS rfl ⟨L10, rid10, tel10, rfl⟩⟩)⟩)
      | some z =>
        obtain ⟨e1, z1, z2, _⟩ := id tel10
        subst e1
        exact .inl ⟨z, rfl, log64 z1 z2, .int z, rfl, .inl ⟨z, rfl, log64 z1 z2, rfl, _, rfl, iteNS rfl ⟨L10, rid10, tel10, rfl⟩⟩⟩
    rintro σ H10 ⟨L10, rid10, tel10, rfl⟩
    -- again
    refine ⟨2, rfl, by decide, by decide, for_range (lo := 0) (n := 2) (fun j σ H11 => LI K a (ns.map V.int) Ps tp H11 ∧ IsRid H11 ri many hues wds ∧ TellW tp wds.length H11 r pv wv ∧ ∃ y7 y8, σ = [some (.ref a), some (.int (0 + (i : Int))), some (.ref tp), some (.bl sm), some (.ref ri), some pv, some wv, y7, y8, y9, y10]) ⟨L10, rid10, tel10, _, _, rfl⟩ (fun j σ H11 hj p => ?_) (fun σ H11 p => ?_)⟩
    · obtain ⟨L11, rid11, tel11, z7, z8, rfl⟩ := p
      refine ⟨fun σ H12 => FrS Ps H11 H12 ∧ (∃ fv, (match r with | none => fv = .non | some z => ∃ l, fv = .ref l ∧ H11 l = none ∧ IsFrs H12 l (alk wds.length z)) ∧ σ = [some (.ref a), some (.int (0 + (i : Int))), some (.ref tp), some (.bl sm), some (.ref ri), some pv, some wv, some (.int (0 + (j : Int))), some fv, y9, y10]), ?_, ?_⟩
      · refine ⟨.ref ri, rfl, ri, wds, many, hues, rfl, rid11, gr, L11.tabs, fun H12 f12 lst2 => ?_, fun H12 z l f12 lst2 nl frs => ?_⟩
        · obtain rfl := Lst.one lst2 lst
          exact ⟨f12, .non, rfl, rfl⟩
        · obtain rfl := Lst.one lst2 lst
          exact ⟨f12, .ref l, ⟨l, rfl, nl, frs⟩, rfl⟩
      rintro σ H12 ⟨f12, fv, hfv, rfl⟩
      have L12 := L11.frs f12
      have sq12 := f12.seqs L11.tabs
      have rid12 := rid11.mono sq12.1
      have tel12 := tel11.seqs sq12
      refine ⟨fun σ H13 => H13 = H12 ∧ σ = [some (.ref a), some (.int (0 + (i : Int))), some (.ref tp), some (.bl sm), some (.ref ri), some pv, some wv, some (.int (0 + (j : Int))), some fv, y9, y10], ?_, ?_⟩
      · cases r with
        | none =>
          obtain ⟨e1, e2⟩ := id tel12
          subst e1 e2 hfv
          exact ⟨.non, rfl, .inr (.inl ⟨rfl, .non, rfl, .inr (.inl ⟨rfl, rfl, _, rfl, iteNS rfl ⟨rfl, rfl⟩⟩)⟩)⟩
        | some z =>
          obtain ⟨e1, z1, z2, l2, e2, nl2, frs2⟩ := id tel12
          obtain ⟨l, e3, nl, frs⟩ := id hfv
          subst e1 e2 e3
          have f := fine_frs (by decide) (alk_good (n := wds.length) z1 z2) (by unfold alk; rw [List.length_replicate]; omega)
          exact ⟨.ref l, rfl, .inr (.inr ⟨l, _, rfl, dpFrs frs, f.sho, f.noD, Nat.lt_of_le_of_lt f.dep (by decide), f.shows (by decide) (by decide), .ref l2, rfl, .inr (.inr ⟨l2, _, rfl, dpFrs frs2, f.sho, f.noD, Nat.lt_of_le_of_lt f.dep (by decide), f.shows (by decide) (by decide), rfl, _, rfl, iteNS rfl ⟨rfl, rfl⟩⟩)⟩)⟩
      rintro σ H13 ⟨rfl, rfl⟩
      cases r with
      | none =>
        subst hfv
        exact ⟨.non, rfl, rfl, _, rfl, iteF ⟨L12, rid12, tel12, _, _, rfl⟩⟩
      | some z =>
        obtain ⟨e1, z1, z2, l2, e2, nl2, frs2⟩ := id tel11
        obtain ⟨l, e3, nl, frs⟩ := id hfv
        subst e1 e2 e3
        obtain ⟨ts, hts, pts⟩ := id frs
        have tl := pairedLen pts
        have ak : (alk wds.length z).length = wds.length := by unfold alk; rw [List.length_replicate]
        refine ⟨.ref l, rfl, rfl, _, rfl, iteT ⟨.ref l, rfl, .inl ⟨rfl, _, .inl (.inl hts)⟩, (by show 2 ≤ sizeLine; decide), fun t nt => ?_⟩⟩
        have st := same_upd (o := .tup [.int 1, .int 2]) nt
        have f14 : FrS Ps H11 _ := (f12.same st).put (o := .lst (ts.map V.ref ++ [.ref t])) nl (L11.tabs.new nl)
        have sq14 := f14.seqs L11.tabs
        refine ⟨l, _, .ref t, rfl, rfl, st _ _ hts, ?_, L11.frs f14, rid11.mono sq14.1, tel11.seqs sq14, _, _, rfl⟩
        rw [List.length_map]
        exact small1000 (by omega)
    obtain ⟨L11, rid11, tel11, z7, z8, rfl⟩ := p
    clear tel tel10 tel11
    -- weights
    refine ⟨.ref tp, rfl, .ref ri, rfl, tp, ri, wds, many, hues, rfl, L11.tape, rid11, gr, fun H12 wl ws D12 nwl frs gw lw => ?_⟩
    have L12 := L11.taped D12
    have rid12 := rid11.mono (D12.tups L11.tape)
    -- handed
    obtain ⟨ts, h1, hp⟩ := id frs
    refine ⟨.ref wl, rfl, wl, _, rfl, .inl (.inl (.inl h1)), fun lh nlh => ?_⟩
    have s13 := same_upd (o := .lst (ts.map V.ref)) nlh
    have L13 := L12.same s13
    have han13 : IsFrs _ lh ws := ⟨ts, upd_same, pairedMap (fun _ _ e => s13 _ _ e) hp⟩
    have frs13 := frs.seqs (seqs_same s13)
    have rid13 := rid12.mono (tups_same s13)
    generalize upd H12 lh (.lst (ts.map V.ref)) = H13 at L13 han13 frs13 rid13
    -- told
    refine ⟨.ref ri, rfl, .ref lh, rfl, ri, lh, wds, many, hues, ws, rfl, rid13, gr, han13, gw, by omega, fun H14 t1 s14 nt1 p1 => ?_⟩
    refine ⟨.ref ri, rfl, .ref lh, rfl, _, lh, ws, rfl, han13.seqs (seqs_same s14), gw, by omega, fun H15 t2 s15 nt2 p2 => ⟨(by show 2 ≤ sizeLine; decide), fun t nt => ?_⟩⟩
    have st := same_upd (o := .tup [.ref t1, .ref t2]) nt
    have s16 := (s14.trans s15).trans st
    have p1' := st _ _ (s15 _ _ p1)
    have p2' := st _ _ p2
    have ht : upd H15 t (.tup [.ref t1, .ref t2]) t = some (.tup [.ref t1, .ref t2]) := upd_same
    have L16 := L13.same s16
    have han16 := han13.seqs (seqs_same s16)
    have frs16 := frs13.seqs (seqs_same s16)
    have rid16 := rid13.mono (tups_same s16)
    generalize upd H15 t (.tup [.ref t1, .ref t2]) = H16 at L16 han16 frs16 rid16 p1' p2' ht
    have m1 := gr.m1
    have m6 := gr.m6
    have hh2 := gr.h2
    have pb := pow_bd (show 0 ≤ hues by omega) gr.h4 (i := many.toNat) (by omega)
    have pp : 1 ≤ hues ^ many.toNat := by
      have : 0 < hues ^ many.toNat := Int.pow_pos (by omega)
      omega
    have bk := kept_bd gw (by omega) pp pb.2 ws.length
    have bm := mend_bd gw (by omega) ws.length
    rw [List.take_length] at bk bm
    have lk := low_ok (a := (keptF (hues ^ many.toNat) ws).1) (b := (keptF (hues ^ many.toNat) ws).2) (by unfold keptF; omega) bk.2.1
    have lm := low_ok (a := (mendF ws).1) (b := (mendF ws).2) bm.1 bm.2.1
    have bk1 : (keptF (hues ^ many.toNat) ws).1 < 10 ^ 30 := bk.2.2.1
    have bk2 : (keptF (hues ^ many.toNat) ws).2 < 10 ^ 30 := bk.2.2.2
    have bm1 : (mendF ws).1 < 10 ^ 30 := bm.2.2.1
    have bm2 : (mendF ws).2 < 10 ^ 30 := bm.2.2.2
    have fk : FineW (frD (lowI (keptF (hues ^ many.toNat) ws).1 (keptF (hues ^ many.toNat) ws).2)) 2 222 := fineW_fr lk.1 (by omega) (by omega) (by omega)
    have fm : FineW (frD (lowI (mendF ws).1 (mendF ws).2)) 2 222 := fineW_fr lm.1 (by omega) (by omega) (by omega)
    have ft : FineW (toldD (lowI (keptF (hues ^ many.toNat) ws).1 (keptF (hues ^ many.toNat) ws).2) (lowI (mendF ws).1 (mendF ws).2)) 3 500 := (FineW.tuple (.cons fk (.cons fm (.nil _)))).mono (by omega) (by omega)
    have dp : ∀ (H' : Hp) (t t1 t2 : Addr), H' t = some (.tup [.ref t1, .ref t2]) → IsPr H' t1 (lowI (keptF (hues ^ many.toNat) ws).1 (keptF (hues ^ many.toNat) ws).2) → IsPr H' t2 (lowI (mendF ws).1 (mendF ws).2) → Dp K H' (.ref t) (toldD (lowI (keptF (hues ^ many.toNat) ws).1 (keptF (hues ^ many.toNat) ws).2) (lowI (mendF ws).1 (mendF ws).2)) := fun H' t t1 t2 a1 a2 a3 =>
      .tup (.inl (.inl a1)) (.cons (.tup (.inl (.inl a2)) (.cons (.int _) (.cons (.int _) .nil))) (.cons (.tup (.inl (.inl a3)) (.cons (.int _) (.cons (.int _) .nil))) .nil))
    refine ⟨.ref t, rfl, .inr (.inr ⟨t, _, rfl, dp H16 t t1 t2 ht p1' p2', ft.sho, ft.noD, Nat.lt_of_le_of_lt ft.dep (by decide), ft.shows (by decide), .ref ri, rfl, .ref wl, rfl, ri, wl, wds, many, hues, ws, rfl, rid16, gr, frs16, gw, by omega, fun H17 t' t1' t2' s17 ht' q1 q2 => .inr (.inr ⟨t', _, rfl, dp H17 t' t1' t2' ht' q1 q2, ft.sho, ft.noD, Nat.lt_of_le_of_lt ft.dep (by decide), ft.shows (by decide), rfl, _, rfl, iteNS rfl ?_⟩)⟩)⟩
    have L17 := L16.same s17
    have han17 := han16.seqs (seqs_same s17)
    have frs17 := frs16.seqs (seqs_same s17)
    have f0 := fine_frs (by decide) gw (by omega)
    refine ⟨.ref lh, rfl, .ref wl, rfl, _, _, dpFrs han17, dpFrs frs17, f0.shaped (by decide), f0.shaped (by decide), _, rfl, ?_⟩
    rw [fine_eqv f0]
    refine iteF ?_
    exact ⟨L17.tabs, L17.scr, _, _, _, _, _, _, _, _, _, _, rfl⟩
  · obtain ⟨hT2, hS2, y1, y2, y3, y4, y5, y6, y7, y8, y9, y10, rfl⟩ := p
    exact rfl
end
end Rd

set_option Elab.async false
set_option linter.all false
set_option maxRecDepth 100000
set_option maxHeartbeats 4000000
namespace Rd
open PySem PySem.Spec PyProof.Rows L2 Dt
theorem all_mk {l : PySem.W.OpenLaw} {w : World} {K : PySem.W.Frag} {h : Heap} {mg : Str → Option Value} {fa : Addr} {tb : Str → Addr × Addr} (X : K.In h) (G : h.Ns mainGlobals mg) (hfa : mg "law" = some (.ref fa)) (ht : ∀ y ∈ [("clash" : Str), ("shows_soon" : Str)], Lg.TabOf mg h y (tb y))
    {f1 f2 f3 f4 f5 f6 f7 f8 f9 f10 f11 f12 f13 f14 f15 f16 f17 f18 f19 f20 f21 f22 f23 f24 f25 f26 f27 f28 : Addr} {od1 an1 od2 an2 od3 an3 od4 an4 od5 an5 od6 an6 od7 an7 od8 an8 od9 an9 od10 an10 od11 an11 od12 an12 od13 an13 od14 an14 od15 an15 od16 an16 od17 an17 od18 an18 od19 an19 od20 an20 od21 an21 od22 an22 od23 an23 od24 an24 od25 an25 od26 an26 od27 an27 od28 an28 : Option Addr} {sl1 sl2 sl3 sl4 sl5 sl6 sl7 sl8 sl9 sl10 sl11 sl12 sl13 sl14 sl15 sl16 sl17 sl18 sl19 sl20 sl21 sl22 sl23 sl24 sl25 sl26 sl27 sl28 : Array (Option Value)} {oc1 kV1 dc1 pm1 cd1 ct1 oc2 kV2 dc2 pm2 cd2 ct2 oc3 kV3 dc3 pm3 cd3 ct3 oc4 kV4 dc4 pm4 cd4 ct4 oc5 kV5 dc5 pm5 cd5 ct5 oc6 kV6 dc6 pm6 cd6 ct6 oc7 kV7 dc7 pm7 cd7 ct7 oc8 kV8 dc8 pm8 cd8 ct8 oc9 kV9 dc9 pm9 cd9 ct9 oc10 kV10 dc10 pm10 cd10 ct10 oc11 kV11 dc11 pm11 cd11 ct11 oc12 kV12 dc12 pm12 cd12 ct12 oc13 kV13 dc13 pm13 cd13 ct13 oc14 kV14 dc14 pm14 cd14 ct14 oc15 kV15 dc15 pm15 cd15 ct15 oc16 kV16 dc16 pm16 cd16 ct16 oc17 kV17 dc17 pm17 cd17 ct17 oc18 kV18 dc18 pm18 cd18 ct18 oc19 kV19 dc19 pm19 cd19 ct19 oc20 kV20 dc20 pm20 cd20 ct20 oc21 kV21 dc21 pm21 cd21 ct21 oc22 kV22 dc22 pm22 cd22 ct22 oc23 kV23 dc23 pm23 cd23 ct23 oc24 kV24 dc24 pm24 cd24 ct24 oc25 kV25 dc25 pm25 cd25 ct25 oc26 kV26 dc26 pm26 cd26 ct26 oc27 kV27 dc27 pm27 cd27 ct27 oc28 kV28 dc28 pm28 cd28 ct28 : Value} {tk_PARTS : Tok}
    (a1 : PySem.W.nsIn K mainGlobals "common_divisor" = some (some (.ref f1))) (l1 : K.lookup f1 = some ⟨oc1, od1, .func (PySem.W.fnOf "common_divisor" "common_divisor" (defArgs sGcd) (defBody sGcd) (defScope sGcd) .none kV1 dc1 pm1 an1 cd1 ct1), sl1⟩) (c1 : PySem.W.codeIn K cd1 "common_divisor" = true) (k1 : PySem.W.keepIn K (.ref f1) = true)
    (a2 : PySem.W.nsIn K mainGlobals "lowest" = some (some (.ref f2))) (l2 : K.lookup f2 = some ⟨oc2, od2, .func (PySem.W.fnOf "lowest" "lowest" (defArgs sLow) (defBody sLow) (defScope sLow) .none kV2 dc2 pm2 an2 cd2 ct2), sl2⟩) (c2 : PySem.W.codeIn K cd2 "lowest" = true) (k2 : PySem.W.keepIn K (.ref f2) = true)
    (a3 : PySem.W.nsIn K mainGlobals "fillings_number" = some (some (.ref f3))) (l3 : K.lookup f3 = some ⟨oc3, od3, .func (PySem.W.fnOf "fillings_number" "fillings_number" (defArgs sFnu) (defBody sFnu) (defScope sFnu) .none kV3 dc3 pm3 an3 cd3 ct3), sl3⟩) (c3 : PySem.W.codeIn K cd3 "fillings_number" = true) (k3 : PySem.W.keepIn K (.ref f3) = true)
    (a4 : PySem.W.nsIn K mainGlobals "clash" = some (some (.ref f4))) (l4 : K.lookup f4 = some ⟨oc4, od4, .func (PySem.W.fnOf "clash" "clash" (defArgs sCla) (defBody sCla) (defScope sCla) .none kV4 dc4 pm4 an4 cd4 ct4), sl4⟩) (c4 : PySem.W.codeIn K cd4 "clash" = true) (k4 : PySem.W.keepIn K (.ref f4) = true)
    (a5 : PySem.W.nsIn K mainGlobals "clashing" = some (some (.ref f5))) (l5 : K.lookup f5 = some ⟨oc5, od5, .func (PySem.W.fnOf "clashing" "clashing" (defArgs sCls) (defBody sCls) (defScope sCls) .none kV5 dc5 pm5 an5 cd5 ct5), sl5⟩) (c5 : PySem.W.codeIn K cd5 "clashing" = true) (k5 : PySem.W.keepIn K (.ref f5) = true)
    (a6 : PySem.W.nsIn K mainGlobals "share" = some (some (.ref f6))) (l6 : K.lookup f6 = some ⟨oc6, od6, .func (PySem.W.fnOf "share" "share" (defArgs sShr) (defBody sShr) (defScope sShr) .none kV6 dc6 pm6 an6 cd6 ct6), sl6⟩) (c6 : PySem.W.codeIn K cd6 "share" = true) (k6 : PySem.W.keepIn K (.ref f6) = true)
    (a7 : PySem.W.nsIn K mainGlobals "room" = some (some (.ref f7))) (l7 : K.lookup f7 = some ⟨oc7, od7, .func (PySem.W.fnOf "room" "room" (defArgs sRoo) (defBody sRoo) (defScope sRoo) .none kV7 dc7 pm7 an7 cd7 ct7), sl7⟩) (c7 : PySem.W.codeIn K cd7 "room" = true) (k7 : PySem.W.keepIn K (.ref f7) = true)
    (a8 : PySem.W.nsIn K mainGlobals "is_at_most" = some (some (.ref f8))) (l8 : K.lookup f8 = some ⟨oc8, od8, .func (PySem.W.fnOf "is_at_most" "is_at_most" (defArgs sAtm) (defBody sAtm) (defScope sAtm) .none kV8 dc8 pm8 an8 cd8 ct8), sl8⟩) (c8 : PySem.W.codeIn K cd8 "is_at_most" = true) (k8 : PySem.W.keepIn K (.ref f8) = true)
    (a9 : PySem.W.nsIn K mainGlobals "shows_soon" = some (some (.ref f9))) (l9 : K.lookup f9 = some ⟨oc9, od9, .func (PySem.W.fnOf "shows_soon" "shows_soon" (defArgs sSho) (defBody sSho) (defScope sSho) .none kV9 dc9 pm9 an9 cd9 ct9), sl9⟩) (c9 : PySem.W.codeIn K cd9 "shows_soon" = true) (k9 : PySem.W.keepIn K (.ref f9) = true)
    (a10 : PySem.W.nsIn K mainGlobals "alike_weights" = some (some (.ref f10))) (l10 : K.lookup f10 = some ⟨oc10, od10, .func (PySem.W.fnOf "alike_weights" "alike_weights" (defArgs sAlw) (defBody sAlw) (defScope sAlw) .none kV10 dc10 pm10 an10 cd10 ct10), sl10⟩) (c10 : PySem.W.codeIn K cd10 "alike_weights" = true) (k10 : PySem.W.keepIn K (.ref f10) = true)
    (a11 : PySem.W.nsIn K mainGlobals "least_a" = some (some (.ref f11))) (l11 : K.lookup f11 = some ⟨oc11, od11, .func (PySem.W.fnOf "least_a" "least_a" (defArgs sLea) (defBody sLea) (defScope sLea) .none kV11 dc11 pm11 an11 cd11 ct11), sl11⟩) (c11 : PySem.W.codeIn K cd11 "least_a" = true) (k11 : PySem.W.keepIn K (.ref f11) = true)
    (a12 : PySem.W.nsIn K mainGlobals "weights_of" = some (some (.ref f12))) (l12 : K.lookup f12 = some ⟨oc12, od12, .func (PySem.W.fnOf "weights_of" "weights_of" (defArgs sWof) (defBody sWof) (defScope sWof) .none kV12 dc12 pm12 an12 cd12 ct12), sl12⟩) (c12 : PySem.W.codeIn K cd12 "weights_of" = true) (k12 : PySem.W.keepIn K (.ref f12) = true)
    (a13 : PySem.W.nsIn K mainGlobals "least_kept" = some (some (.ref f13))) (l13 : K.lookup f13 = some ⟨oc13, od13, .func (PySem.W.fnOf "least_kept" "least_kept" (defArgs sLkp) (defBody sLkp) (defScope sLkp) .none kV13 dc13 pm13 an13 cd13 ct13), sl13⟩) (c13 : PySem.W.codeIn K cd13 "least_kept" = true) (k13 : PySem.W.keepIn K (.ref f13) = true)
    (a14 : PySem.W.nsIn K mainGlobals "most_mended" = some (some (.ref f14))) (l14 : K.lookup f14 = some ⟨oc14, od14, .func (PySem.W.fnOf "most_mended" "most_mended" (defArgs sMmd) (defBody sMmd) (defScope sMmd) .none kV14 dc14 pm14 an14 cd14 ct14), sl14⟩) (c14 : PySem.W.codeIn K cd14 "most_mended" = true) (k14 : PySem.W.keepIn K (.ref f14) = true)
    (a15 : PySem.W.nsIn K mainGlobals "_law_tape" = some (some (.ref f15))) (l15 : K.lookup f15 = some ⟨oc15, od15, .func (PySem.W.fnOf "_law_tape" "_law_tape" (defArgs sTap) (defBody sTap) (defScope sTap) .none kV15 dc15 pm15 an15 cd15 ct15), sl15⟩) (c15 : PySem.W.codeIn K cd15 "_law_tape" = true) (k15 : PySem.W.keepIn K (.ref f15) = true)
    (a16 : PySem.W.nsIn K mainGlobals "_law_digit" = some (some (.ref f16))) (l16 : K.lookup f16 = some ⟨oc16, od16, .func (PySem.W.fnOf "_law_digit" "_law_digit" (defArgs sDig) (defBody sDig) (defScope sDig) .none kV16 dc16 pm16 an16 cd16 ct16), sl16⟩) (c16 : PySem.W.codeIn K cd16 "_law_digit" = true) (k16 : PySem.W.keepIn K (.ref f16) = true)
    (a17 : PySem.W.nsIn K mainGlobals "_law_wish" = some (some (.ref f17))) (l17 : K.lookup f17 = some ⟨oc17, od17, .func (PySem.W.fnOf "_law_wish" "_law_wish" (defArgs sWis) (defBody sWis) (defScope sWis) .none kV17 dc17 pm17 an17 cd17 ct17), sl17⟩) (c17 : PySem.W.codeIn K cd17 "_law_wish" = true) (k17 : PySem.W.keepIn K (.ref f17) = true)
    (a18 : PySem.W.nsIn K mainGlobals "_law_sizes" = some (some (.ref f18))) (l18 : K.lookup f18 = some ⟨oc18, od18, .func (PySem.W.fnOf "_law_sizes" "_law_sizes" (defArgs sSzs) (defBody sSzs) (defScope sSzs) .none kV18 dc18 pm18 an18 cd18 ct18), sl18⟩) (c18 : PySem.W.codeIn K cd18 "_law_sizes" = true) (k18 : PySem.W.keepIn K (.ref f18) = true)
    (a19 : PySem.W.nsIn K mainGlobals "_law_riddle" = some (some (.ref f19))) (l19 : K.lookup f19 = some ⟨oc19, od19, .func (PySem.W.fnOf "_law_riddle" "_law_riddle" (defArgs sRid) (defBody sRid) (defScope sRid) .none kV19 dc19 pm19 an19 cd19 ct19), sl19⟩) (c19 : PySem.W.codeIn K cd19 "_law_riddle" = true) (k19 : PySem.W.keepIn K (.ref f19) = true)
    (a20 : PySem.W.nsIn K mainGlobals "_law_lowest" = some (some (.ref f20))) (l20 : K.lookup f20 = some ⟨oc20, od20, .func (PySem.W.fnOf "_law_lowest" "_law_lowest" (defArgs sLwl) (defBody sLwl) (defScope sLwl) .none kV20 dc20 pm20 an20 cd20 ct20), sl20⟩) (c20 : PySem.W.codeIn K cd20 "_law_lowest" = true) (k20 : PySem.W.keepIn K (.ref f20) = true)
    (a21 : PySem.W.nsIn K mainGlobals "_law_share" = some (some (.ref f21))) (l21 : K.lookup f21 = some ⟨oc21, od21, .func (PySem.W.fnOf "_law_share" "_law_share" (defArgs sLsh) (defBody sLsh) (defScope sLsh) .none kV21 dc21 pm21 an21 cd21 ct21), sl21⟩) (c21 : PySem.W.codeIn K cd21 "_law_share" = true) (k21 : PySem.W.keepIn K (.ref f21) = true)
    (a22 : PySem.W.nsIn K mainGlobals "_law_clash" = some (some (.ref f22))) (l22 : K.lookup f22 = some ⟨oc22, od22, .func (PySem.W.fnOf "_law_clash" "_law_clash" (defArgs sLca) (defBody sLca) (defScope sLca) .none kV22 dc22 pm22 an22 cd22 ct22), sl22⟩) (c22 : PySem.W.codeIn K cd22 "_law_clash" = true) (k22 : PySem.W.keepIn K (.ref f22) = true)
    (a23 : PySem.W.nsIn K mainGlobals "_law_shown" = some (some (.ref f23))) (l23 : K.lookup f23 = some ⟨oc23, od23, .func (PySem.W.fnOf "_law_shown" "_law_shown" (defArgs sLsw) (defBody sLsw) (defScope sLsw) .none kV23 dc23 pm23 an23 cd23 ct23), sl23⟩) (c23 : PySem.W.codeIn K cd23 "_law_shown" = true) (k23 : PySem.W.keepIn K (.ref f23) = true)
    (a24 : PySem.W.nsIn K mainGlobals "_law_sparse" = some (some (.ref f24))) (l24 : K.lookup f24 = some ⟨oc24, od24, .func (PySem.W.fnOf "_law_sparse" "_law_sparse" (defArgs sSpa) (defBody sSpa) (defScope sSpa) .none kV24 dc24 pm24 an24 cd24 ct24), sl24⟩) (c24 : PySem.W.codeIn K cd24 "_law_sparse" = true) (k24 : PySem.W.keepIn K (.ref f24) = true)
    (a25 : PySem.W.nsIn K mainGlobals "_law_weights" = some (some (.ref f25))) (l25 : K.lookup f25 = some ⟨oc25, od25, .func (PySem.W.fnOf "_law_weights" "_law_weights" (defArgs sLwe) (defBody sLwe) (defScope sLwe) .none kV25 dc25 pm25 an25 cd25 ct25), sl25⟩) (c25 : PySem.W.codeIn K cd25 "_law_weights" = true) (k25 : PySem.W.keepIn K (.ref f25) = true)
    (a26 : PySem.W.nsIn K mainGlobals "_law_least" = some (some (.ref f26))) (l26 : K.lookup f26 = some ⟨oc26, od26, .func (PySem.W.fnOf "_law_least" "_law_least" (defArgs sLle) (defBody sLle) (defScope sLle) .none kV26 dc26 pm26 an26 cd26 ct26), sl26⟩) (c26 : PySem.W.codeIn K cd26 "_law_least" = true) (k26 : PySem.W.keepIn K (.ref f26) = true)
    (a27 : PySem.W.nsIn K mainGlobals "_law_bounds" = some (some (.ref f27))) (l27 : K.lookup f27 = some ⟨oc27, od27, .func (PySem.W.fnOf "_law_bounds" "_law_bounds" (defArgs sLbo) (defBody sLbo) (defScope sLbo) .none kV27 dc27 pm27 an27 cd27 ct27), sl27⟩) (c27 : PySem.W.codeIn K cd27 "_law_bounds" = true) (k27 : PySem.W.keepIn K (.ref f27) = true)
    (a28 : PySem.W.nsIn K mainGlobals "law" = some (some (.ref f28))) (l28 : K.lookup f28 = some ⟨oc28, od28, .func (PySem.W.fnOf "law" "law" (defArgs sLaw) (defBody sLaw) (defScope sLaw) .none kV28 dc28 pm28 an28 cd28 ct28), sl28⟩) (c28 : PySem.W.codeIn K cd28 "law" = true) (k28 : PySem.W.keepIn K (.ref f28) = true)
    (z_abs : PySem.W.nsIn K mainGlobals "abs" = some none)
    (z_all : PySem.W.nsIn K mainGlobals "all" = some none)
    (z_any : PySem.W.nsIn K mainGlobals "any" = some none)
    (z_enumerate : PySem.W.nsIn K mainGlobals "enumerate" = some none)
    (z_len : PySem.W.nsIn K mainGlobals "len" = some none)
    (z_list : PySem.W.nsIn K mainGlobals "list" = some none)
    (z_max : PySem.W.nsIn K mainGlobals "max" = some none)
    (z_min : PySem.W.nsIn K mainGlobals "min" = some none)
    (z_range : PySem.W.nsIn K mainGlobals "range" = some none)
    (z_repr : PySem.W.nsIn K mainGlobals "repr" = some none)
    (z_sorted : PySem.W.nsIn K mainGlobals "sorted" = some none)
    (z_tuple : PySem.W.nsIn K mainGlobals "tuple" = some none)
    (q_PARTS : PySem.W.nsIn K mainGlobals "PARTS" = some (some (.int 64 tk_PARTS))) :
    ∃ fd : FuncData, Fun K "law" "law" sLaw fa fd ∧ (∀ (s : Shared) (v : Value), BindsTo s fd ⟨[v], []⟩ [("script", v)]) ∧ ∀ (base : Heap) (H : Hp) (cdv : Value) (a : Addr) (ns : List Int) (s : Shared), K.In base → base.Ns mainGlobals mg → (∀ y ∈ [("clash" : Str), ("shows_soon" : Str)], GxR.TabB base mg (tb y).1 (tb y).2) → (∀ y ∈ [("clash" : Str), ("shows_soon" : Str)], H (tb y).2 = some (.tbl #[])) → ns.length ≤ 63 → (∀ z ∈ ns, Builtin.Int.intBits z ≤ 1048576) → SqL K H a (ns.map V.int) → Room 8 (callerA.deeper (envOfC "law" (defScope sLaw) s.heap.objs.size fa cdv)) →
        ∃ t, PSs (cxOf CX0 l.prog w K mg base nLaw "law" (defScope sLaw) fa cdv callerA [] s H (fun _ _ _ => False)).nox (defBody sLaw) t ∧ t { nx := fun _ _ => False, rt := fun v _ => v = .bl true } (start nLaw [.ref a]) H := by
  have e := hfa.symm.trans (PySem.W.mg_of X G a28)
  cases e
  have F1 := fun_mk (st := sGcd) l1 c1 k1
  have F2 := fun_mk (st := sLow) l2 c2 k2
  have F3 := fun_mk (st := sFnu) l3 c3 k3
  have F4 := fun_mk (st := sCla) l4 c4 k4
  have F5 := fun_mk (st := sCls) l5 c5 k5
  have F6 := fun_mk (st := sShr) l6 c6 k6
  have F7 := fun_mk (st := sRoo) l7 c7 k7
  have F8 := fun_mk (st := sAtm) l8 c8 k8
  have F9 := fun_mk (st := sSho) l9 c9 k9
  have F10 := fun_mk (st := sAlw) l10 c10 k10
  have F11 := fun_mk (st := sLea) l11 c11 k11
  have F12 := fun_mk (st := sWof) l12 c12 k12
  have F13 := fun_mk (st := sLkp) l13 c13 k13
  have F14 := fun_mk (st := sMmd) l14 c14 k14
  have F15 := fun_mk (st := sTap) l15 c15 k15
  have F16 := fun_mk (st := sDig) l16 c16 k16
  have F17 := fun_mk (st := sWis) l17 c17 k17
  have F18 := fun_mk (st := sSzs) l18 c18 k18
  have F19 := fun_mk (st := sRid) l19 c19 k19
  have F20 := fun_mk (st := sLwl) l20 c20 k20
  have F21 := fun_mk (st := sLsh) l21 c21 k21
  have F22 := fun_mk (st := sLca) l22 c22 k22
  have F23 := fun_mk (st := sLsw) l23 c23 k23
  have F24 := fun_mk (st := sSpa) l24 c24 k24
  have F25 := fun_mk (st := sLwe) l25 c25 k25
  have F26 := fun_mk (st := sLle) l26 c26 k26
  have F27 := fun_mk (st := sLbo) l27 c27 k27
  have F28 := fun_mk (st := sLaw) l28 c28 k28
  have b1 := F1.binds (ps := ["one", "other"]) fun _ _ _ _ _ _ us hl => match us, hl with | [_, _], _ => rfl
  have b2 := F2.binds (ps := ["above", "below"]) fun _ _ _ _ _ _ us hl => match us, hl with | [_, _], _ => rfl
  have b3 := F3.binds (ps := ["many", "hues"]) fun _ _ _ _ _ _ us hl => match us, hl with | [_, _], _ => rfl
  have b4 := F4.binds (ps := ["one", "other"]) fun _ _ _ _ _ _ us hl => match us, hl with | [_, _], _ => rfl
  have b5 := F5.binds (ps := ["riddle"]) fun _ _ _ _ _ _ us hl => match us, hl with | [_], _ => rfl
  have b6 := F6.binds (ps := ["wish", "hues"]) fun _ _ _ _ _ _ us hl => match us, hl with | [_, _], _ => rfl
  have b7 := F7.binds (ps := ["weights", "number", "clashes"]) fun _ _ _ _ _ _ us hl => match us, hl with | [_, _, _], _ => rfl
  have b8 := F8.binds (ps := ["one", "other"]) fun _ _ _ _ _ _ us hl => match us, hl with | [_, _], _ => rfl
  have b9 := F9.binds (ps := ["riddle", "weights"]) fun _ _ _ _ _ _ us hl => match us, hl with | [_, _], _ => rfl
  have b10 := F10.binds (ps := ["riddle", "a"]) fun _ _ _ _ _ _ us hl => match us, hl with | [_, _], _ => rfl
  have b11 := F11.binds (ps := ["riddle"]) fun _ _ _ _ _ _ us hl => match us, hl with | [_], _ => rfl
  have b12 := F12.binds (ps := ["riddle"]) fun _ _ _ _ _ _ us hl => match us, hl with | [_], _ => rfl
  have b13 := F13.binds (ps := ["riddle", "weights"]) fun _ _ _ _ _ _ us hl => match us, hl with | [_, _], _ => rfl
  have b14 := F14.binds (ps := ["riddle", "weights"]) fun _ _ _ _ _ _ us hl => match us, hl with | [_, _], _ => rfl
  have b15 := F15.binds (ps := ["script", "start"]) fun _ _ _ _ _ _ us hl => match us, hl with | [_, _], _ => rfl
  have b16 := F16.binds (ps := ["tape", "many"]) fun _ _ _ _ _ _ us hl => match us, hl with | [_, _], _ => rfl
  have b17 := F17.binds (ps := ["tape", "many", "hues", "most"]) fun _ _ _ _ _ _ us hl => match us, hl with | [_, _, _, _], _ => rfl
  have b18 := F18.binds (ps := ["tape", "small"]) fun _ _ _ _ _ _ us hl => match us, hl with | [_, _], _ => rfl
  have b19 := F19.binds (ps := ["tape", "small"]) fun _ _ _ _ _ _ us hl => match us, hl with | [_, _], _ => rfl
  have b20 := F20.binds (ps := ["top", "below"]) fun _ _ _ _ _ _ us hl => match us, hl with | [_, _], _ => rfl
  have b21 := F21.binds (ps := ["riddle", "number"]) fun _ _ _ _ _ _ us hl => match us, hl with | [_, _], _ => rfl
  have b22 := F22.binds (ps := ["riddle", "one", "other"]) fun _ _ _ _ _ _ us hl => match us, hl with | [_, _, _], _ => rfl
  have b23 := F23.binds (ps := ["riddle", "weights"]) fun _ _ _ _ _ _ us hl => match us, hl with | [_, _], _ => rfl
  have b24 := F24.binds (ps := ["tape"]) fun _ _ _ _ _ _ us hl => match us, hl with | [_], _ => rfl
  have b25 := F25.binds (ps := ["tape", "riddle"]) fun _ _ _ _ _ _ us hl => match us, hl with | [_, _], _ => rfl
  have b26 := F26.binds (ps := ["riddle"]) fun _ _ _ _ _ _ us hl => match us, hl with | [_], _ => rfl
  have b27 := F27.binds (ps := ["riddle", "weights"]) fun _ _ _ _ _ _ us hl => match us, hl with | [_, _], _ => rfl
  have m_abs := PySem.W.mg_none_of X G z_abs
  have m_all := PySem.W.mg_none_of X G z_all
  have m_any := PySem.W.mg_none_of X G z_any
  have m_enumerate := PySem.W.mg_none_of X G z_enumerate
  have m_len := PySem.W.mg_none_of X G z_len
  have m_list := PySem.W.mg_none_of X G z_list
  have m_max := PySem.W.mg_none_of X G z_max
  have m_min := PySem.W.mg_none_of X G z_min
  have m_range := PySem.W.mg_none_of X G z_range
  have m_repr := PySem.W.mg_none_of X G z_repr
  have m_sorted := PySem.W.mg_none_of X G z_sorted
  have m_tuple := PySem.W.mg_none_of X G z_tuple
  have g1 := PySem.W.mg_of X G a1
  have g2 := PySem.W.mg_of X G a2
  have g3 := PySem.W.mg_of X G a3
  have g4 := PySem.W.mg_of X G a4
  have g5 := PySem.W.mg_of X G a5
  have g6 := PySem.W.mg_of X G a6
  have g7 := PySem.W.mg_of X G a7
  have g8 := PySem.W.mg_of X G a8
  have g9 := PySem.W.mg_of X G a9
  have g10 := PySem.W.mg_of X G a10
  have g11 := PySem.W.mg_of X G a11
  have g12 := PySem.W.mg_of X G a12
  have g13 := PySem.W.mg_of X G a13
  have g14 := PySem.W.mg_of X G a14
  have g15 := PySem.W.mg_of X G a15
  have g16 := PySem.W.mg_of X G a16
  have g17 := PySem.W.mg_of X G a17
  have g18 := PySem.W.mg_of X G a18
  have g19 := PySem.W.mg_of X G a19
  have g20 := PySem.W.mg_of X G a20
  have g21 := PySem.W.mg_of X G a21
  have g22 := PySem.W.mg_of X G a22
  have g23 := PySem.W.mg_of X G a23
  have g24 := PySem.W.mg_of X G a24
  have g25 := PySem.W.mg_of X G a25
  have g26 := PySem.W.mg_of X G a26
  have g27 := PySem.W.mg_of X G a27
  have g28 := PySem.W.mg_of X G a28
  have tc4 := (ht "clash" (by decide)).code X g4 l4
  cases tc4
  have tc9 := (ht "shows_soon" (by decide)).code X g9 l9
  cases tc9
  refine ⟨_, F28, fun s v => .of_eq rfl, fun base H cdv a ns s kb gb tB tH hl hb hS hrm => ?_⟩
  have TB4 := tB "clash" (by decide)
  have TH4 := tH "clash" (by decide)
  have TB9 := tB "shows_soon" (by decide)
  have TH9 := tH "shows_soon" (by decide)
  have C1 : Cal l.prog w K mg base 1 "common_divisor" ["one", "other"] spGcd := ⟨_, _, ok_gcd (k := 0) F1, g1, k1, b1⟩
  have C2 : Cal l.prog w K mg base 2 "lowest" ["above", "below"] spLow := ⟨_, _, ok_low (k := 0) F2 { c_common_divisor := C1 }, g2, k2, b2⟩
  have C3 : Cal l.prog w K mg base 1 "fillings_number" ["many", "hues"] spFnu := ⟨_, _, ok_fnu (k := 0) F3 { m_range := m_range }, g3, k3, b3⟩
  have C4 : Cal l.prog w K mg base 1 "clash" ["one", "other"] (spCla [(tb "clash").2, (tb "shows_soon").2]) := ⟨_, _, ok_cla (k := 0) ⟨⟨_, _, _, _, _, _, _, _, rfl, l4, c4⟩⟩ TB4 (by simp) { m_any := m_any }, g4, k4, b4⟩
  have C5 : Cal l.prog w K mg base 2 "clashing" ["riddle"] (spCls [(tb "clash").2, (tb "shows_soon").2]) := ⟨_, _, ok_cls (k := 0) F5 { m_enumerate := m_enumerate, c_clash := C4 }, g5, k5, b5⟩
  have C6 : Cal l.prog w K mg base 3 "share" ["wish", "hues"] spShr := ⟨_, _, ok_shr (k := 0) F6 { m_len := m_len, c_lowest := C2, c_fillings_number := C3 }, g6, k6, b6⟩
  have C7 : Cal l.prog w K mg base 3 "room" ["weights", "number", "clashes"] spRoo := ⟨_, _, ok_roo (k := 0) F7 { c_lowest := C2 }, g7, k7, b7⟩
  have C8 : Cal l.prog w K mg base 1 "is_at_most" ["one", "other"] spAtm := ⟨_, _, ok_atm (k := 0) F8, g8, k8, b8⟩
  have C9 : Cal l.prog w K mg base 6 "shows_soon" ["riddle", "weights"] (spSho [(tb "clash").2, (tb "shows_soon").2]) := ⟨_, _, ok_sho (k := 0) ⟨⟨_, _, _, _, _, _, _, _, rfl, l9, c9⟩⟩ TB9 (by simp) { m_all := m_all, m_enumerate := m_enumerate, c_clashing := C5, c_share := C6, c_room := C7, c_is_at_most := C8 }, g9, k9, b9⟩
  have C10 : Cal l.prog w K mg base 3 "alike_weights" ["riddle", "a"] spAlw := ⟨_, _, ok_alw (k := 0) F10 { g_PARTS := ⟨_, PySem.W.mg_of X G q_PARTS, ⟨_, rfl⟩⟩, c_lowest := C2 }, g10, k10, b10⟩
  have C11 : Cal l.prog w K mg base 7 "least_a" ["riddle"] (spLea [(tb "clash").2, (tb "shows_soon").2]) := ⟨_, _, ok_lea (k := 0) F11 { m_range := m_range, g_PARTS := ⟨_, PySem.W.mg_of X G q_PARTS, ⟨_, rfl⟩⟩, c_alike_weights := C10, c_shows_soon := C9 }, g11, k11, b11⟩
  have C12 : Cal l.prog w K mg base 8 "weights_of" ["riddle"] (spWof [(tb "clash").2, (tb "shows_soon").2]) := ⟨_, _, ok_wof (k := 0) F12 { c_least_a := C11, c_alike_weights := C10 }, g12, k12, b12⟩
  have C13 : Cal l.prog w K mg base 3 "least_kept" ["riddle", "weights"] spLkp := ⟨_, _, ok_lkp (k := 0) F13 { c_lowest := C2, c_fillings_number := C3 }, g13, k13, b13⟩
  have C14 : Cal l.prog w K mg base 3 "most_mended" ["riddle", "weights"] spMmd := ⟨_, _, ok_mmd (k := 0) F14 { c_lowest := C2 }, g14, k14, b14⟩
  have C15 : Cal l.prog w K mg base 1 "_law_tape" ["script", "start"] (spTap K) := ⟨_, _, ok_tap (k := 0) F15 { m_len := m_len, m_abs := m_abs }, g15, k15, b15⟩
  have C16 : Cal l.prog w K mg base 1 "_law_digit" ["tape", "many"] spDig := ⟨_, _, ok_dig (k := 0) F16, g16, k16, b16⟩
  have C17 : Cal l.prog w K mg base 2 "_law_wish" ["tape", "many", "hues", "most"] spWis := ⟨_, _, ok_wis (k := 0) F17 { m_range := m_range, m_list := m_list, m_min := m_min, m_len := m_len, m_sorted := m_sorted, m_tuple := m_tuple, c__law_digit := C16 }, g17, k17, b17⟩
  have C18 : Cal l.prog w K mg base 2 "_law_sizes" ["tape", "small"] spSzs := ⟨_, _, ok_szs (k := 0) F18 { m_range := m_range, m_list := m_list, m_min := m_min, m_len := m_len, m_sorted := m_sorted, m_tuple := m_tuple, c__law_digit := C16 }, g18, k18, b18⟩
  have C19 : Cal l.prog w K mg base 3 "_law_riddle" ["tape", "small"] spRid := ⟨_, _, ok_rid (k := 0) F19 { m_range := m_range, m_list := m_list, m_min := m_min, m_len := m_len, m_sorted := m_sorted, m_tuple := m_tuple, c__law_digit := C16, c__law_wish := C17, c__law_sizes := C18 }, g19, k19, b19⟩
  have C20 : Cal l.prog w K mg base 1 "_law_lowest" ["top", "below"] spLow := ⟨_, _, ok_lwl (k := 0) F20 { m_abs := m_abs }, g20, k20, b20⟩
  have C21 : Cal l.prog w K mg base 1 "_law_share" ["riddle", "number"] spLsh := ⟨_, _, ok_lsh (k := 0) F21 { m_len := m_len }, g21, k21, b21⟩
  have C22 : Cal l.prog w K mg base 1 "_law_clash" ["riddle", "one", "other"] spLca := ⟨_, _, ok_lca (k := 0) F22, g22, k22, b22⟩
  have C23 : Cal l.prog w K mg base 2 "_law_shown" ["riddle", "weights"] spLsw := ⟨_, _, ok_lsw (k := 0) F23 { m_range := m_range, m_len := m_len, c__law_clash := C22, c__law_share := C21 }, g23, k23, b23⟩
  have C24 : Cal l.prog w K mg base 3 "_law_sparse" ["tape"] spSpa := ⟨_, _, ok_spa (k := 0) F24 { m_range := m_range, m_len := m_len, m_tuple := m_tuple, c__law_digit := C16, c__law_wish := C17 }, g24, k24, b24⟩
  have C25 : Cal l.prog w K mg base 2 "_law_weights" ["tape", "riddle"] spLwe := ⟨_, _, ok_lwe (k := 0) F25 { m_range := m_range, m_len := m_len, c__law_digit := C16, c__law_lowest := C20, c__law_share := C21 }, g25, k25, b25⟩
  have C26 : Cal l.prog w K mg base 3 "_law_least" ["riddle"] spLle := ⟨_, _, ok_lle (k := 0) F26 { m_range := m_range, m_len := m_len, c__law_lowest := C20, c__law_shown := C23 }, g26, k26, b26⟩
  have C27 : Cal l.prog w K mg base 2 "_law_bounds" ["riddle", "weights"] spLbo := ⟨_, _, ok_lbo (k := 0) F27 { m_range := m_range, c__law_lowest := C20 }, g27, k27, b27⟩
  have hTs : Tabs [(tb "clash").2, (tb "shows_soon").2] H := fun P hP => by
    simp only [List.mem_cons, List.not_mem_nil, or_false] at hP
    rcases hP with rfl | rfl
    · exact ⟨#[], TH4, trivial⟩
    · exact ⟨#[], TH9, trivial⟩
  exact body_law (Ps := [(tb "clash").2, (tb "shows_soon").2]) { m_range := m_range, m_repr := m_repr, m_max := m_max, m_min := m_min, m_len := m_len, m_list := m_list, c__law_tape := C15, c__law_digit := C16, c__law_riddle := C19, c__law_sparse := C24, c__law_weights := C25, c__law_least := C26, c__law_bounds := C27, c_least_a := C11, c_weights_of := C12, c_least_kept := C13, c_most_mended := C14 } hl hTs hS hrm
end Rd

set_option Elab.async false
set_option linter.all false
set_option maxRecDepth 100000
set_option maxHeartbeats 4000000
open PySem PySem.W PyProof.Rows
set_option maxHeartbeats 0 in
theorem PySem.Challenge.cw_redraw_k34_weights_and_bounds_told_holds : PySem.Challenge.rw_redraw_k34_weights_and_bounds_told.Holds := by
  w_on; o_law; k_head; (case hw => w_witness2)
  k_fill
  refine Lg.walk_of (l := PySem.Challenge.rw_redraw_k34_weights_and_bounds_told) (n := 63) (k := 8) (x := "law") (qual := "law") (par := "script") (st := Rd.sLaw) (N := Rd.nLaw) ["clash", "shows_soon"] rfl (by decide) rfl ⟨rfl, by decide, by decide⟩ (by rfl) ?hK (fun w h Y => PySem.W.kIn_of Y) Rd.scLaw ?F
  case hK => intro w; kernel_rfl
  case F =>
    intro w mg fa h tb KX G hmg ht
    refine' Rd.all_mk KX G hmg ht ?a1 ?l1 ?c1 ?k1 ?a2 ?l2 ?c2 ?k2 ?a3 ?l3 ?c3 ?k3 ?a4 ?l4 ?c4 ?k4 ?a5 ?l5 ?c5 ?k5 ?a6 ?l6 ?c6 ?k6 ?a7 ?l7 ?c7 ?k7 ?a8 ?l8 ?c8 ?k8 ?a9 ?l9 ?c9 ?k9 ?a10 ?l10 ?c10 ?k10 ?a11 ?l11 ?c11 ?k11 ?a12 ?l12 ?c12 ?k12 ?a13 ?l13 ?c13 ?k13 ?a14 ?l14 ?c14 ?k14 ?a15 ?l15 ?c15 ?k15 ?a16 ?l16 ?c16 ?k16 ?a17 ?l17 ?c17 ?k17 ?a18 ?l18 ?c18 ?k18 ?a19 ?l19 ?c19 ?k19 ?a20 ?l20 ?c20 ?k20 ?a21 ?l21 ?c21 ?k21 ?a22 ?l22 ?c22 ?k22 ?a23 ?l23 ?c23 ?k23 ?a24 ?l24 ?c24 ?k24 ?a25 ?l25 ?c25 ?k25 ?a26 ?l26 ?c26 ?k26 ?a27 ?l27 ?c27 ?k27 ?a28 ?l28 ?c28 ?k28 ?z_abs ?z_all ?z_any ?z_enumerate ?z_len ?z_list ?z_max ?z_min ?z_range ?z_repr ?z_sorted ?z_tuple ?q_PARTS
    (case a1 => k_is); (case l1 => k_is); (case c1 => k_is); (case k1 => k_is); (case a2 => k_is); (case l2 => k_is); (case c2 => k_is); (case k2 => k_is); (case a3 => k_is); (case l3 => k_is); (case c3 => k_is); (case k3 => k_is); (case a4 => k_is); (case l4 => k_is); (case c4 => k_is); (case k4 => k_is); (case a5 => k_is); (case l5 => k_is); (case c5 => k_is); (case k5 => k_is); (case a6 => k_is); (case l6 => k_is); (case c6 => k_is); (case k6 => k_is); (case a7 => k_is); (case l7 => k_is); (case c7 => k_is); (case k7 => k_is); (case a8 => k_is); (case l8 => k_is); (case c8 => k_is); (case k8 => k_is); (case a9 => k_is); (case l9 => k_is); (case c9 => k_is); (case k9 => k_is); (case a10 => k_is); (case l10 => k_is); (case c10 => k_is); (case k10 => k_is); (case a11 => k_is); (case l11 => k_is); (case c11 => k_is); (case k11 => k_is); (case a12 => k_is); (case l12 => k_is); (case c12 => k_is); (case k12 => k_is); (case a13 => k_is); (case l13 => k_is); (case c13 => k_is); (case k13 => k_is); (case a14 => k_is); (case l14 => k_is); (case c14 => k_is); (case k14 => k_is); (case a15 => k_is); (case l15 => k_is); (case c15 => k_is); (case k15 => k_is); (case a16 => k_is); (case l16 => k_is); (case c16 => k_is); (case k16 => k_is); (case a17 => k_is); (case l17 => k_is); (case c17 => k_is); (case k17 => k_is); (case a18 => k_is); (case l18 => k_is); (case c18 => k_is); (case k18 => k_is); (case a19 => k_is); (case l19 => k_is); (case c19 => k_is); (case k19 => k_is); (case a20 => k_is); (case l20 => k_is); (case c20 => k_is); (case k20 => k_is); (case a21 => k_is); (case l21 => k_is); (case c21 => k_is); (case k21 => k_is); (case a22 => k_is); (case l22 => k_is); (case c22 => k_is); (case k22 => k_is); (case a23 => k_is); (case l23 => k_is); (case c23 => k_is); (case k23 => k_is); (case a24 => k_is); (case l24 => k_is); (case c24 => k_is); (case k24 => k_is); (case a25 => k_is); (case l25 => k_is); (case c25 => k_is); (case k25 => k_is); (case a26 => k_is); (case l26 => k_is); (case c26 => k_is); (case k26 => k_is); (case a27 => k_is); (case l27 => k_is); (case c27 => k_is); (case k27 => k_is); (case a28 => k_is); (case l28 => k_is); (case c28 => k_is); (case k28 => k_is); (case z_abs => k_is); (case z_all => k_is); (case z_any => k_is); (case z_enumerate => k_is); (case z_len => k_is); (case z_list => k_is); (case z_max => k_is); (case z_min => k_is); (case z_range => k_is); (case z_repr => k_is); (case z_sorted => k_is); (case z_tuple => k_is); (case q_PARTS => k_is)
