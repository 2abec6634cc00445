import PyProof.Rows.All
import Wide.All
import OpenK.AllK
import Wide.FinOn
import HandS.ForMost
import HandS.AnyAll
import PyProof.TupleOfGen
import PyProof.WalksMore
import HandS.Zip
import KE.GoesEnum
import HandS.Deep
import PyProof.Rows.RegFStrParts
import HandS.SortInts
import HandS.TupSets
import HandS.EndBits
import KE.KNest
import KE.DatumIndex
import HandS.GenList
import HandS.Wide
import HandS.Codes
import HandS.Conv
import HandS.TupAny
import KE.KIndexOf
import HandS.IsInst
import HandS.Style
import HandS.TupMul
import HandS.Exc
import HandS.ExcIs
import HandS.ExcValue
import HandS.WordsExc
import HandS.ExcOwn
import PySem.Challenge.RW_redraw_k15_draws_told_back
set_option Elab.async false
set_option linter.all false
set_option maxRecDepth 100000
set_option maxHeartbeats 4000000
/-! generator expressions over a list or a tuple whose element keeps the heap: tuple(..), all(..), any(..) -/
namespace Gv
open PySem PySem.Spec PyProof.Rows L2
/-- a list or a tuple of these -/
def Sq (K : PySem.W.Frag) (H : Hp) (a : Addr) (xs : List V) : Prop := SqL K H a xs ∨ SqT K H a xs
section
variable {X : Cx} {pins : List (Addr × Obj)} {σ : L2.St} {H : Hp} {s : Shared}
/-- iter(a): its items, and a walk over them that writes its own new cell alone -/
theorem iter_sq {a : Addr} {xs : List V} (I : Inv X pins σ H s) (h : Sq X.K H a xs) :
    ∃ its : List Value, Vals xs its ∧ xs.length ≤ sizeLine ∧ a < s.heap.objs.size ∧ ∀ (Q : Value → Shared → Prop) (E : Value → Shared → Prop),
      (∀ (o : Obj) (St : Nat → Heap → Prop), (∀ A' : Around, A'.handled = none → Walks X.prog X.w A' s.heap.objs.size [s.heap.objs.size, a] [s.heap.objs.size] its.length (fun i v => its[i]? = some v) St) → St 0 (s.heap.push o) →
        Q (.ref s.heap.objs.size) { s with heap := s.heap.push o }) → wpAny (model X.prog X.w) X.A (pyIter (.ref a)) Q E s := by
  rcases h with h | h
  · obtain ⟨its, rv, pl, hz⟩ := I.list h
    have hL := pl.isList
    have hlt : a < s.heap.objs.size := let ⟨_, e, _⟩ := hL; Heap.lt_size e
    refine ⟨its, rv, hz, hlt, fun Q E k => wpAny_pyIter_list hL (k _ (fun i h => h.IsListIter s.heap.objs.size a i ∧ h.IsList a its.toArray) (fun A' hA => ?_) ⟨⟨_, Heap.get?_push_size _ rfl, rfl, rfl⟩, ?_⟩)⟩
    · have W := Walks.list (prog := X.prog) (w := X.w) hA s.heap.objs.size a (Nat.ne_of_lt hlt) its.toArray
      simpa using W
    · obtain ⟨o, e, r⟩ := hL
      exact ⟨o, Heap.get?_push_of_some _ e, r⟩
  · obtain ⟨its, rv, pl, hz⟩ := I.tuple h
    have hlt : a < s.heap.objs.size := pl.lt
    refine ⟨its, rv, hz, hlt, fun Q E k => wpAny_pyIter_tuple (show s.heap.IsTuple a its.toArray from pl) (k _ (fun i h => h.IsTupleIter s.heap.objs.size a i ∧ h.IsTuple a its.toArray) (fun A' hA => ?_) ⟨⟨_, Heap.get?_push_size _ rfl, rfl, rfl⟩, ?_⟩)⟩
    · have W := Walks.tuple (prog := X.prog) (w := X.w) hA s.heap.objs.size a (Nat.ne_of_lt hlt) its.toArray
      simpa using W
    · exact pl.push _
/-- the element, of the item x0 the value y0, with all that stood kept -/
def EltV (X : Cx) (pins : List (Addr × Obj)) (σ : L2.St) (scope : Scope) (x : Str) (elt : Expr) (P : Addr) (H1 : Hp) (xs ys : List V) : Prop :=
  ∀ (s1 t : Shared) (C : Addr) (code : Value) (bi : Addr) (A' : Around) (E' : Value → Shared → Prop) (i : Nat) (x0 : V) (u : Value) (m : Str → Option Value),
    Inv X pins σ H1 s1 → A'.handled = none → A'.units ≤ X.A.units + 8 → xs[i]? = some x0 → RelV x0 u → t.heap.Ns C m → m x = some u → (∀ b o, b ≠ P → s1.heap.get? b = some o → t.heap.get? b = some o) →
    wpAny (model X.prog X.w) A' (eval elt (genEnv scope (cloFrom X.env.cells scope.names []) C code bi X.env)) (fun y t' => (∃ y0, ys[i]? = some y0 ∧ RelV y0 y) ∧ Keeps t t') E' t
/-- the generator at g, about to give out the values ys -/
def Ready (X : Cx) (pins : List (Addr × Obj)) (σ : L2.St) (H1 : Hp) (P : Addr) (ys : List V) (g : Addr) (s5 : Shared) : Prop :=
  ∃ (fp wr : List Addr) (G : Array GenState → Array GenState → Prop) (F : Nat → Value → Prop) (St : Nat → Shared → Prop),
    WalksS X.prog X.w X.A.in4 g fp wr G ys.length F St ∧ St 0 s5 ∧ (∀ b ∈ fp, b < s5.heap.objs.size) ∧ g ∈ fp ∧ (∀ i s9, St i s9 → s9.TypeIs (.ref g) "generator") ∧
    (∀ j v, F j v → ∃ y, ys[j]? = some y ∧ RelV y v) ∧ ∀ s', Moved wr G s5 s' → ∃ H2, GxR.Tabbed P H1 H2 ∧ Inv X pins σ H2 s'
theorem gen_sq {c P : Addr} {elt iter : Expr} {x : Str} {px gpos : Pos} {scope : Scope} {te : TE} {k : Nat} {Q' : Value → Shared → Prop} {R : List V → Hp → Prop}
    (hr : Room k X.A) (TB : GxR.TabB X.base X.mg c P) (hcode : X.env.code = .ref c) (S : GxR.GenS X.env scope x) (hi : PE X iter te) (hs : ∀ v, genFold iter X.env v = pure v) (I : Inv X pins σ H s)
    (h : te σ H fun v H1 => ∃ (a : Addr) (xs ys : List V), v = .ref a ∧ Sq X.K H1 a xs ∧ ys.length = xs.length ∧ (∀ pins, EltV X pins σ scope x elt P H1 xs ys) ∧ GxR.TabG H1 P ∧ R ys H1)
    (hQ : ∀ ys H1 g s5, ys.length ≤ sizeLine → R ys H1 → Ready X pins σ H1 P ys g s5 → Q' (.ref g) s5) :
    wpAny (model X.prog X.w) X.A (eval (.GeneratorExp elt [⟨.Name x px, iter, [], 0⟩] scope gpos) X.env) Q' X.xe s := by
  refine wpAny_GeneratorExp_walksQD hr.hd S.co (closure_ok S.free) S.cell S.dot S.loc S.kind (by have := hr.dp; omega) (thn (hi.run pins s σ H _ I h) fun xv s1 ⟨v, H1, I1, r1, q1⟩ => ?_) hs
  obtain ⟨a, xs, ys, rfl, hsq, hyl, hel, ⟨ps, hP, ht⟩, q1⟩ := q1
  cases (show xv = Value.ref a from r1)
  obtain ⟨its, rv, hz, hlt, go⟩ := iter_sq I1 hsq
  refine go _ _ fun o St W st0 => ⟨I1.nolimit.push o, ?_⟩
  have tabS : s1.heap.get? P = some { cls := .none, data := .fields ps } := I1.hok P _ hP
  have ltP : P < s1.heap.objs.size := Heap.lt_size tabS
  have tab2 : (s1.heap.push o).get? P = some { cls := .none, data := .fields ps } := Heap.get?_push_of_some _ tabS
  have hd : PySem.W.CodeHd (s1.heap.push o) c P := TB.code.keeps fun b u e => Heap.get?_push_of_some _ (I1.bk b u e)
  have neI : s1.heap.objs.size ≠ P := fun z => Nat.lt_irrefl _ (z ▸ ltP)
  -- the code object of the expression, its table perhaps longer behind it
  have key : ∀ (REST : Value → Shared → Prop), (∀ (cv : Value) (h3 : Heap) (tk : Nat) (more : Array Value), Heap.ExtBut P (s1.heap.push o) h3 → (s1.heap.push o).objs.size ≤ h3.objs.size → h3.get? P = some { cls := .none, data := .fields (ps ++ more) } → TriplesOk (ps ++ more).toList → REST cv { s1 with heap := h3, toks := tk }) →
      wpAny (model X.prog X.w) X.A (genexprCode X.env gpos (X.env.qual ++ "<genexpr>") scope) REST X.xe { s1 with heap := s1.heap.push o } := fun REST fin => by
    cases hf : codeAmong gpos ps.toList with
    | some cv =>
      have e : ps = ps ++ #[] := by simp
      exact wpAny_genexprCode_hit hcode (hd.code tab2 ht) hf (fin cv _ s1.toks #[] (Heap.ExtBut.refl _ _) (Nat.le_refl _) (e ▸ tab2) (e ▸ ht))
    | none =>
      refine wpAny_genexprCodeX hcode (hd.code tab2 ht) (hd.tab tab2) hf fun c' h3 tk ex ge lt ic _ ta _ => ?_
      obtain ⟨_, _, _, _, _, _, _, _, _, _, _, _, _, _, _, _, _, _, _, tr, _⟩ := ic
      exact fin _ h3 tk _ ex (Nat.le_trans ge (Nat.le_of_lt lt)) ta.2 tr
  refine key _ fun cv h3 tk more ex ge tab3 tr3 => ?_
  obtain ⟨bm, ob, b1, b2, b3, b4, b5, b6, b7, b8⟩ := TB.bm
  have up : ∀ b u, b ≠ P → s1.heap.get? b = some u → h3.get? b = some u := fun b u n e => ex b u n (Heap.get?_push_of_some _ e)
  have sz : s1.heap.objs.size + 1 ≤ h3.objs.size := by rw [← Heap.size_push s1.heap o]; exact ge
  have nlS : cStatics ≠ P ∧ cStatics < s1.heap.objs.size := by
    obtain ⟨_, ns, _⟩ := I1.nolimit
    refine ⟨fun z => ?_, ns.lt⟩
    obtain ⟨o', es, ep, ho, hdd, _⟩ := ns
    rw [z, tabS] at ho
    cases ho
    cases hdd
  refine wpAny_builtinsFor (m := X.mg) (by rw [I1.ok.glob]; exact ((I1.mod.glob.keeps I1.bk).push o).extBut ex TB.gP) b1 b2 (up _ _ b4 (I1.bk _ _ b5)) b6 b7 b8 ?_
  refine ⟨s1.heap.objs.size, [s1.heap.objs.size, a], [s1.heap.objs.size], its.length, (fun i v => its[i]? = some v), St, (fun _ => true), (fun i y => ∃ y0, ys[i]? = some y0 ∧ RelV y0 y), rfl, W, ?_, ?_, (I1.nolimit.push o).extBut ex nlS.1, ?_, ?_, ?_⟩
  · refine (W X.A hr.hd).frame _ _ _ st0 fun b hb u e => ex b u (fun z => ?_) e
    rcases List.mem_cons.mp hb with q | q
    · exact neI (q.symm.trans z)
    · have q2 : b = a := by simpa using q
      exact absurd (q2.symm.trans z) (by
        intro az
        rcases hsq with hh | hh
        · obtain ⟨its', _, pl, _⟩ := I1.list hh
          obtain ⟨oo, _, e1, _, _, d1⟩ := pl
          rw [az, tabS] at e1
          cases e1
          cases d1
        · obtain ⟨its', _, pl, _⟩ := I1.tuple hh
          obtain ⟨oo, e1, _, _, d1⟩ := pl
          rw [az, tabS] at e1
          cases e1
          cases d1)
  · intro b hb
    show b < h3.objs.size
    rcases List.mem_cons.mp hb with q | q
    · rw [q]; exact Nat.lt_of_succ_le sz
    · have q2 : b = a := by simpa using q
      rw [q2]; exact Nat.lt_of_lt_of_le hlt (Nat.le_of_succ_le sz)
  · intro z
    have z2 : cStatics = s1.heap.objs.size := by simpa using z
    exact Nat.ne_of_lt nlS.2 z2
  · intro href hk
    refine ⟨fun A' E' i v t m hA _ _ hv hn hm hkp => ?_, fun A' E' i v t m hA _ hU hv _ hn hm hkp => ?_⟩
    · simp only [List.forIn_nil]
      exact wpAny_pure ⟨rfl, GxR.keeps_refl _⟩
    · have li : i < xs.length := by rw [rv.length]; exact (List.getElem?_eq_some_iff.mp hv).1
      obtain ⟨u, hu, ru⟩ := rv.get (List.getElem?_eq_getElem li)
      rw [hv] at hu
      cases hu
      refine wpAny_mono (hel pins s1 t _ cv _ A' E' i _ v m I1 hA hU (List.getElem?_eq_getElem li) ru hn hm fun b u n e => ?_) (fun y t' r => r) fun _ _ e => e
      have e3 := up b u n e
      refine hkp b (List.mem_range.mpr (Heap.lt_size e3)) (fun z => ?_) u (hk b u e3)
      have z2 : b = s1.heap.objs.size := by simpa using z
      exact Nat.lt_irrefl _ (z2 ▸ Heap.lt_size e)
  · intro g h5 tk5 gs hgb hag hsz5 hk5 W5 hat
    have el : its.length = ys.length := by rw [hyl, ← rv.length]
    simp only [GxR.passing_true, List.length_range, el] at W5 hat
    refine hQ ys H1 g _ (by rw [hyl]; exact hz) q1 ⟨_, _, _, _, _, W5, hat, ?_, List.mem_cons_self, fun i s9 st => st.1.typeIs, ?_, fun s' mv => ?_⟩
    · intro b hb
      show b < h5.objs.size
      rw [hsz5]
      rcases List.mem_cons.mp hb with q | q
      · rw [q]; exact Nat.lt_succ_self _
      · rcases List.mem_cons.mp q with q | q
        · rw [q]; exact Nat.lt_succ_of_lt hag
        · exact Nat.lt_succ_of_lt (Nat.lt_trans (List.mem_range.mp q) hag)
    · intro j v hv
      obtain ⟨i, hij, y0, hy, r⟩ := hv
      obtain ⟨hj, ej⟩ := List.getElem?_eq_some_iff.mp hij
      rw [List.getElem_range] at ej
      subst ej
      exact ⟨y0, hy, r⟩
    · have out : ∀ b u, s1.heap.get? b = some u → b ∉ h3.objs.size :: [s1.heap.objs.size] := fun b u e hb => by
        have l := Heap.lt_size e
        rcases List.mem_cons.mp hb with q | q
        · rw [q] at l
          exact absurd l (Nat.not_lt.mpr (Nat.le_of_succ_le sz))
        · have q2 : b = s1.heap.objs.size := by simpa using q
          exact Nat.lt_irrefl _ (q2 ▸ l)
      have J := GxR.inv_tab (more := more) (h' := s'.heap) (g' := s'.gens) (d' := s'.drawn) (t' := s'.toks) I1 hP (fun b u n e => mv.heap b u (out b u e) (hk5 b u (up b u n e))) (mv.heap P _ (out P _ tabS) (hk5 P _ tab3)) (AllBare.movedS (I1.bare.push hgb) mv)
      rw [GxR.sh_eta s1 s' mv.os] at J
      exact ⟨_, ⟨⟨ps ++ more, upd_same, tr3⟩, fun b hb => upd_ne hb⟩, J⟩
/-- tuple(elt for x in e) -/
def tTupG (X : Cx) (scope : Scope) (x : Str) (elt : Expr) (P : Addr) (te : TE) : TE := fun σ H Q => te σ H fun v H1 => ∃ (a : Addr) (xs ys : List V), v = .ref a ∧ Sq X.K H1 a xs ∧ ys.length = xs.length ∧ (∀ pins, EltV X pins σ scope x elt P H1 xs ys) ∧ GxR.TabG H1 P ∧
  ∀ H2, GxR.Tabbed P H1 H2 → ∀ p, H2 p = none → Q (.ref p) (upd H2 p (.tup ys))
theorem items_vals {ys : List V} {F : Nat → Value → Prop} {acc : Array Value} {n : Nat} (hn : ys.length = n) (hF : ∀ j v, F j v → ∃ y, ys[j]? = some y ∧ RelV y v) (h : ItemsOf F acc n) : Vals ys acc.toList := by
  have gen : ∀ (l : List Value) (zs : List V), zs.length = l.length → (∀ (j : Nat) (v : Value), l[j]? = some v → ∃ y, zs[j]? = some y ∧ RelV y v) → Vals zs l := by
    intro l
    induction l with
    | nil => intro zs e _; cases zs with
      | nil => exact .nil
      | cons z r => cases e
    | cons v r ih => intro zs e k; cases zs with
      | nil => cases e
      | cons z q =>
        obtain ⟨y, hy, ry⟩ := k 0 v rfl
        cases hy
        exact .cons ry (ih q (by simpa using e) fun j v hv => k (j + 1) v hv)
  refine gen acc.toList ys (by rw [hn, ← h.1]; simp) fun j v hv => hF j v (h.2 j v (by simpa using hv))
theorem pe_tupG {c P : Addr} {elt iter : Expr} {x : Str} {px p pos gpos : Pos} {scope : Scope} {te : TE} {k : Nat}
    (hr : Room k X.A) (hg : Gl X "tuple") (hm : X.mg "tuple" = none) (TB : GxR.TabB X.base X.mg c P) (hcode : X.env.code = .ref c) (S : GxR.GenS X.env scope x) (hi : PE X iter te) (hs : ∀ v, genFold iter X.env v = pure v)
    (he : starEach [.GeneratorExp elt [⟨.Name x px, iter, [], 0⟩] scope gpos] X.env = (false, eval (.GeneratorExp elt [⟨.Name x px, iter, [], 0⟩] scope gpos) X.env) :: starEach [] X.env := by rfl) :
    PE X (.Call (.Name "tuple" p) [.GeneratorExp elt [⟨.Name x px, iter, [], 0⟩] scope gpos] [] pos) (tTupG X scope x elt P te) := by
  refine ⟨fun pins s σ H Q I h => ?_⟩
  refine wpAny_Call_Name_kw (ld_blt I hg hm boot_tuple (PyProof.Rows.callWith_type1 ?_ he (by rfl)))
  rw [he]
  show wpAny _ _ (spliced ((false, _) :: backTo pos (starEach [] X.env))) _ _ s
  unfold tTupG at h
  refine Calls.spliced_cons (gen_sq (te := te) (R := fun ys H1 => ∀ H2, GxR.Tabbed P H1 H2 → ∀ p, H2 p = none → Q (.ref p) (upd H2 p (.tup ys))) hr TB hcode S hi hs I (H := H) h fun ys H1 g s5 hz hR hG => ?_)
  · obtain ⟨fp, wr, G, F, St, W, st, hfp, hgf, hty, hF, hI⟩ := hG
    refine Calls.spliced_nil (call_tuple_gen W.in4_3 hty st hfp hgf (fun s' acc mv ia => ?_) hz)
    obtain ⟨H2, hT, J⟩ := hI s' mv
    have rv := items_vals rfl hF ia
    refine ⟨.ref s'.heap.objs.size, _, J.laid (t' := s'.toks) (o := .tup ys) (fun b u e => Heap.get?_push_of_some _ e) (Nat.le_refl _) ⟨hz, acc.toList, rv, ?_⟩, rfl, hR H2 hT _ (J.hok.fresh (Nat.le_refl _))⟩
    have z := IsTup.new s'.heap acc
    simpa using z
/-- all(elt for x in e), any(elt for x in e), the element True or False -/
def tAllG (X : Cx) (scope : Scope) (x : Str) (elt : Expr) (P : Addr) (te : TE) : TE := fun σ H Q => te σ H fun v H1 => ∃ (a : Addr) (xs ys : List V), v = .ref a ∧ Sq X.K H1 a xs ∧ ys.length = xs.length ∧ (∀ pins, EltV X pins σ scope x elt P H1 xs ys) ∧ GxR.TabG H1 P ∧
  ∃ bs : List Bool, ys = bs.map V.bl ∧ ∀ H2, GxR.Tabbed P H1 H2 → Q (.bl (bs.all id)) H2
def tAnyG (X : Cx) (scope : Scope) (x : Str) (elt : Expr) (P : Addr) (te : TE) : TE := fun σ H Q => te σ H fun v H1 => ∃ (a : Addr) (xs ys : List V), v = .ref a ∧ Sq X.K H1 a xs ∧ ys.length = xs.length ∧ (∀ pins, EltV X pins σ scope x elt P H1 xs ys) ∧ GxR.TabG H1 P ∧
  ∃ bs : List Bool, ys = bs.map V.bl ∧ ∀ H2, GxR.Tabbed P H1 H2 → Q (.bl (bs.any id)) H2
theorem truth_bls {A : Around} {bs : List Bool} {F : Nat → Value → Prop} (hF : ∀ j v, F j v → ∃ y, (bs.map V.bl)[j]? = some y ∧ RelV y v) : TruthOf X.prog X.w A F (fun j => bs.getD j false) := by
  intro j v t Q E hv hq
  obtain ⟨y, hy, r⟩ := hF j v hv
  rw [List.getElem?_map] at hy
  cases e : bs[j]? with
  | none => rw [e] at hy; cases hy
  | some b =>
    rw [e] at hy
    cases hy
    cases (show v = Value.bool b from r)
    have e2 : bs.getD j false = b := by rw [List.getD_eq_getElem?_getD, e]; rfl
    exact wpAny_truthy_bool (by rw [← e2]; exact hq)
theorem all_range (bs : List Bool) : (List.range bs.length).all (fun j => bs.getD j false) = bs.all id := by
  rw [Bool.eq_iff_iff, List.all_eq_true, List.all_eq_true]
  constructor
  · intro h b hb
    obtain ⟨j, hj, e⟩ := List.getElem_of_mem hb
    have q := h j (List.mem_range.mpr hj)
    rw [List.getD_eq_getElem?_getD, List.getElem?_eq_getElem hj, e] at q
    exact q
  · intro h j hj
    have hj' := List.mem_range.mp hj
    rw [List.getD_eq_getElem?_getD, List.getElem?_eq_getElem hj']
    exact h _ (List.getElem_mem hj')
theorem any_range (bs : List Bool) : (List.range bs.length).any (fun j => bs.getD j false) = bs.any id := by
  rw [Bool.eq_iff_iff, List.any_eq_true, List.any_eq_true]
  constructor
  · intro ⟨j, hj, q⟩
    have hj' := List.mem_range.mp hj
    rw [List.getD_eq_getElem?_getD, List.getElem?_eq_getElem hj'] at q
    exact ⟨_, List.getElem_mem hj', q⟩
  · intro ⟨b, hb, q⟩
    obtain ⟨j, hj, e⟩ := List.getElem_of_mem hb
    refine ⟨j, List.mem_range.mpr hj, ?_⟩
    rw [List.getD_eq_getElem?_getD, List.getElem?_eq_getElem hj, e]
    exact q
theorem pe_allG {c P : Addr} {elt iter : Expr} {x : Str} {px p pos gpos : Pos} {scope : Scope} {te : TE} {k : Nat}
    (hr : Room k X.A) (hg : Gl X "all") (hm : X.mg "all" = none) (TB : GxR.TabB X.base X.mg c P) (hcode : X.env.code = .ref c) (S : GxR.GenS X.env scope x) (hi : PE X iter te) (hs : ∀ v, genFold iter X.env v = pure v)
    (he : starEach [.GeneratorExp elt [⟨.Name x px, iter, [], 0⟩] scope gpos] X.env = (false, eval (.GeneratorExp elt [⟨.Name x px, iter, [], 0⟩] scope gpos) X.env) :: starEach [] X.env := by rfl) :
    PE X (.Call (.Name "all" p) [.GeneratorExp elt [⟨.Name x px, iter, [], 0⟩] scope gpos] [] pos) (tAllG X scope x elt P te) := by
  refine ⟨fun pins s σ H Q I h => ?_⟩
  refine wpAny_Call_Name_kw (ld_blt I hg hm boot_all (PyProof.Rows.callWith_builtin1 ?_ he (by rfl)))
  rw [he]
  show wpAny _ _ (spliced ((false, _) :: backTo pos (starEach [] X.env))) _ _ s
  unfold tAllG at h
  refine Calls.spliced_cons (gen_sq (te := te) (R := fun ys H1 => ∃ bs : List Bool, ys = bs.map V.bl ∧ ∀ H2, GxR.Tabbed P H1 H2 → Q (.bl (bs.all id)) H2) hr TB hcode S hi hs I (H := H) h fun ys H1 g s5 hz hR hG => ?_)
  obtain ⟨bs, rfl, hR⟩ := hR
  obtain ⟨fp, wr, G, F, St, W, st, hfp, hgf, hty, hF, hI⟩ := hG
  refine Calls.spliced_nil (call_all_walkS (W.in4_1.self 0 _ _ _ st ⟨g, fp, wr, G, _, F, St, _, rfl, W.in4_1, st, truth_bls hF, fun s' mv => ?_⟩))
  obtain ⟨H2, hT, J⟩ := hI s' mv
  refine ⟨.bl _, H2, J, rfl, ?_⟩
  rw [List.length_map, all_range]
  exact hR H2 hT
theorem pe_anyG {c P : Addr} {elt iter : Expr} {x : Str} {px p pos gpos : Pos} {scope : Scope} {te : TE} {k : Nat}
    (hr : Room k X.A) (hg : Gl X "any") (hm : X.mg "any" = none) (TB : GxR.TabB X.base X.mg c P) (hcode : X.env.code = .ref c) (S : GxR.GenS X.env scope x) (hi : PE X iter te) (hs : ∀ v, genFold iter X.env v = pure v)
    (he : starEach [.GeneratorExp elt [⟨.Name x px, iter, [], 0⟩] scope gpos] X.env = (false, eval (.GeneratorExp elt [⟨.Name x px, iter, [], 0⟩] scope gpos) X.env) :: starEach [] X.env := by rfl) :
    PE X (.Call (.Name "any" p) [.GeneratorExp elt [⟨.Name x px, iter, [], 0⟩] scope gpos] [] pos) (tAnyG X scope x elt P te) := by
  refine ⟨fun pins s σ H Q I h => ?_⟩
  refine wpAny_Call_Name_kw (ld_blt I hg hm boot_any (PyProof.Rows.callWith_builtin1 ?_ he (by rfl)))
  rw [he]
  show wpAny _ _ (spliced ((false, _) :: backTo pos (starEach [] X.env))) _ _ s
  unfold tAnyG at h
  refine Calls.spliced_cons (gen_sq (te := te) (R := fun ys H1 => ∃ bs : List Bool, ys = bs.map V.bl ∧ ∀ H2, GxR.Tabbed P H1 H2 → Q (.bl (bs.any id)) H2) hr TB hcode S hi hs I (H := H) h fun ys H1 g s5 hz hR hG => ?_)
  obtain ⟨bs, rfl, hR⟩ := hR
  obtain ⟨fp, wr, G, F, St, W, st, hfp, hgf, hty, hF, hI⟩ := hG
  refine Calls.spliced_nil (call_any_walkS (W.in4_1.self 0 _ _ _ st ⟨g, fp, wr, G, _, F, St, _, rfl, W.in4_1, st, truth_bls hF, fun s' mv => ?_⟩))
  obtain ⟨H2, hT, J⟩ := hI s' mv
  refine ⟨.bl _, H2, J, rfl, ?_⟩
  rw [List.length_map, any_range]
  exact hR H2 hT
/-- an element f[x]: f a captured name of a tuple, x the walk's own -/
theorem elt_item {f x : Str} {scope : Scope} {P fa : Addr} {H1 : Hp} {xs ys zs : List V} {j : Nat} {p1 p2 p3 : Pos} (hk : scope.kind = .function) (hx : scope.names.lookup x = some .local) (hf : scope.names.lookup f = some .free)
    (hcl : (cloFrom X.env.cells scope.names []).lookup f = some ((X.env.cells.lookup f).getD 0)) (hj : X.N[j]? = some f) (hkf : X.env.kindOf f = some .cell) (hσ : σ[j]? = some (some (.ref fa))) (hq : SqT X.K H1 fa zs) (hT : GxR.TabG H1 P)
    (hv : ∀ (i : Nat) x0, xs[i]? = some x0 → ∃ (n : Int) (y : V), x0 = .int n ∧ atI zs n = some y ∧ ys[i]? = some y) (hdf : (f == ("__debug__" : Str)) = false := by decide) (hdx : (x == ("__debug__" : Str)) = false := by decide) (hcf : (f == ("__classdict__" : Str)) = false := by decide) :
    EltV X pins σ scope x (.Subscript (.Name f p1) (.Name x p2) p3) P H1 xs ys := by
  intro s1 t C code bi A' E' i x0 u m I hA hU hx0 ru hn hm hkp
  obtain ⟨n, y, rfl, hat, hy⟩ := hv i x0 hx0
  obtain ⟨tk, rfl⟩ := (show ∃ t, u = Value.int n t from ru)
  obtain ⟨ps, hP, _⟩ := hT
  have tabS : s1.heap.get? P = some { cls := .none, data := .fields ps } := I.hok P _ hP
  obtain ⟨m1, _, hl⟩ := I.loc
  obtain ⟨uf, rf, lk⟩ := hl j f _ hj hσ (.inr (.inl hkf))
  cases (show uf = Value.ref fa from rf)
  obtain ⟨c, hc, ic⟩ : ∃ c, X.env.cells.lookup f = some c ∧ s1.heap.IsCell c (some (.ref fa)) := by
    rcases lk with ⟨z, _⟩ | ⟨_, c, hc, ic⟩
    · rw [hkf] at z; cases z
    · exact ⟨c, hc, ic⟩
  have ic2 : t.heap.IsCell c (some (.ref fa)) := by
    obtain ⟨o, ho, hd⟩ := ic
    refine ⟨o, hkp c o (fun z => ?_) ho, hd⟩
    rw [z, tabS] at ho
    cases ho
    cases hd
  obtain ⟨its, rv, pl, hz⟩ := I.tuple hq
  have pl2 : IsTup t.heap fa its.toArray := by
    obtain ⟨o, ho, hcl', nn, hd⟩ := pl
    refine ⟨o, hkp fa o (fun z => ?_) ho, hcl', nn, hd⟩
    rw [z, tabS] at ho
    cases ho
    cases hd
  obtain ⟨jj, h1, h2, h3, h4, h5⟩ := atI_get hat
  obtain ⟨wv, ew, rw'⟩ := rv.get h2
  have hlen := rv.length
  have hn63 := line63
  have clf : (genEnv scope (cloFrom X.env.cells scope.names []) C code bi X.env).cells.lookup f = some c := by
    show (cloFrom X.env.cells scope.names []).lookup f = some c
    rw [hcl, hc]
    rfl
  refine Subscript_ (wpAny_Name (wpAny_loadName_free hk hf clf ic2 (wpAny_Name (wpAny_loadName_local hk hx hn hm ?_) hdx) hcf) hdf)
  exact subscriptTail_builtinR (x := wv) pl2.typeIs slot_tuple_getitem.lookup
    (getItem_tuple (j := jj) (Q := fun r s' => r = wv ∧ ((∃ y0, ys[i]? = some y0 ∧ RelV y0 r) ∧ Keeps t s')) pl2 (by omega) (by omega) (by rw [List.size_toArray, ← hlen]; exact h1) (by simpa using ew) ⟨rfl, ⟨y, hy, rw'⟩, GxR.keeps_refl _⟩) (by rfl)
end
end Gv

set_option Elab.async false
set_option linter.all false
set_option maxRecDepth 100000
set_option maxHeartbeats 4000000
/-! enumerate(t), t a tuple -/
namespace Et
open PySem PySem.Spec PyProof.Rows L2
theorem meets_one {v : Value} {o : Obj} {B : Heap → Prop} (hB : Begins v o B) :
    Meets (Builtin.«enumerate.__new__» ⟨[.type "enumerate", v], []⟩) (fun _ R s => B s.heap ∧
      R (.ok (.ret (.ref (s.heap.push o).objs.size))) { s with heap := (s.heap.push o).push { cls := .type "enumerate", data := .fields #[.none, .bool false, .ref s.heap.objs.size, rawInt 0, .none, .none] } }) :=
  .of_wp fun prog w A R s h => by
    obtain ⟨hp, g, d, tk, os⟩ := s
    obtain ⟨hb, h⟩ := h
    have hsub := sub_enumerate
    have begin1 : ∀ {A1 : Around} {E1 : Value → Shared → Prop} {Q1 : Value → Shared → Prop}, Q1 (.ref hp.objs.size) ⟨hp.push o, g, d, tk, os⟩ → wpAny (model prog w) A1 (pyIter v) Q1 E1 ⟨hp, g, d, tk, os⟩ := fun q => hB.iter prog w _ _ ⟨hp, g, d, tk, os⟩ _ hb q
    wp_walk using begin1
    refine wpAny_stack_any fun stk => wpAny_pure ?_
    split
    next c _ _ _ _ _ =>
      cases (c == Value.type "enumerate") <;> (wp_walk using begin1; exact ⟨_, rfl, h⟩)
    next => wp_walk using begin1; exact ⟨_, rfl, h⟩
theorem make {prog : Program} {w : World} {A : Around} {E : Value → Shared → Prop} {s : Shared} {v : Value} {o : Obj} {B : Heap → Prop} {Q : Value → Shared → Prop} (hB : Begins v o B) (hb : B s.heap)
    (k : ∀ h', IsEnum h' (s.heap.objs.size + 1) s.heap.objs.size 0 .none → h'.get? s.heap.objs.size = some o → (∀ b o, s.heap.get? b = some o → h'.get? b = some o) → Q (.ref (s.heap.objs.size + 1)) { s with heap := h' }) :
    wpAny (model prog w) A (call (.type "enumerate") [v]) Q E s := by
  refine callType_new F.called_enumerate (by decide) (F.typeCall_enumerate_1 _) (F.newCall_enumerate_1 _) (fun obj => F.args_object_init_2 obj _) F.entry_enumerate_new (meets_one hB) ⟨hb, ?_⟩
  have z : (s.heap.push o).objs.size = s.heap.objs.size + 1 := Heap.size_push ..
  generalize hn : ({ cls := .type "enumerate", data := .fields #[.none, .bool false, .ref s.heap.objs.size, rawInt 0, .none, .none] } : Obj) = en
  have e : ((s.heap.push o).push en).get? (s.heap.objs.size + 1) = some en := by
    have q := Heap.get?_push_size (s.heap.push o) (o := en) (by rw [← hn]; rfl)
    rw [z] at q
    exact q
  have ie : IsEnum ((s.heap.push o).push en) (s.heap.objs.size + 1) s.heap.objs.size 0 .none := by
    subst hn
    exact e
  show _ ∧ _
  rw [z]
  exact ⟨⟨_, e, by rw [← hn]⟩, k _ ie (Heap.get?_push_of_some _ (Heap.get?_push_size _ hB.free)) fun b u x => Heap.get?_push_of_some _ (Heap.get?_push_of_some _ x)⟩
/-- the tuple at a walked with its places -/
def ItE (K : PySem.W.Frag) (a : Addr) : It :=
  ⟨fun i H => ∃ (xs : List V) (x : V), SqT K H a xs ∧ xs[i]? = some x, fun i H v H' => ∃ T x, v = .ref T ∧ H T = none ∧ H' = upd H T (.tup [.int (i : Nat), x]) ∧ ∀ xs, SqT K H a xs → xs[i]? = some x,
    fun i H => ∃ xs : List V, SqT K H a xs ∧ xs.length = i⟩
theorem turn {P : Program} {w : World} {K : PySem.W.Frag} {elts : List Expr} {kk : Nat} {tpos : Pos} (a e it : Addr) (hei : e ≠ it) :
    Turn P w K (.Tuple elts kk tpos) (ItE K a) [e, it] e (fun i h => (∃ old, IsEnum h e it ((i : Nat) : Int) old) ∧ h.IsTupleIter it a i) where
  mem := List.mem_cons_self
  obj := fun i h st b hb => by
    obtain ⟨⟨old, he⟩, o, ho, _, hd⟩ := st
    rcases List.mem_cons.mp hb with z | z
    · rw [z]; exact ⟨_, he, fun v q => nomatch q⟩
    · rw [List.mem_singleton.mp z]; exact ⟨o, ho, fun v q => by rw [hd] at q; cases q⟩
  keep := fun i h h' st k => ⟨let ⟨old, he⟩ := st.1; ⟨old, k e (by simp) _ he⟩, st.2.at fun o q => k it (by simp) o q⟩
  item := by
    intro X hP hw hK hc i pins s σ H E I hf st hg
    subst hP hw hK
    obtain ⟨⟨old, he⟩, hit⟩ := st
    obtain ⟨xs, x, hq, hx⟩ := hg
    obtain ⟨its, rv, pl, hz⟩ := I.tuple hq
    obtain ⟨u, hu, ru⟩ := rv.get hx
    have le : e < s.heap.objs.size := Heap.lt_size he
    have li : it < s.heap.objs.size := by obtain ⟨_, q, _⟩ := hit; exact Heap.lt_size q
    have nai : a ≠ it := fun z => by
      obtain ⟨o, q, hcl, _⟩ := hit
      obtain ⟨o2, q2, hcl2, _⟩ := pl
      rw [z, q] at q2
      cases q2
      rw [hcl] at hcl2
      exact absurd (Value.type.inj hcl2) (by decide)
    have nea : e ≠ a := fun z => by
      obtain ⟨o2, q2, hcl2, _⟩ := pl
      rw [← z] at q2
      have q3 := Option.some.inj (he.symm.trans q2)
      rw [← q3] at hcl2
      exact absurd (Value.type.inj hcl2) (by decide)
    have D := Draws.tuple (prog := X.prog) (w := X.w) (A := X.A.in1) (I.ok.hd hc) it a nai its.toArray
    have hlt : i < its.toArray.size := by simpa using (List.getElem?_eq_some_iff.mp hu).1
    refine wpAny_pyNext_enum_itemD D he ⟨hit, pl⟩ hlt hei (by simp [hei, nea]) fun y h' tk hy ho st' hT hsz hk => ?_
    obtain rfl : y = u := by
      have q : its[i]? = some y := by simpa using hy
      exact Option.some.inj (q.symm.trans hu)
    refine ⟨_, rfl, wpAny_letOwnedTupleGo_enum (s := { s with heap := h', toks := tk + 1 }) ho fun h'' he' sb => ?_⟩
    have tT : h''.get? s.heap.objs.size = some { cls := .type "tuple", data := .seq #[.int i tk, y] } := (sb.2 _ (Nat.ne_of_gt le)).trans hT
    have J : Inv X pins σ (upd H s.heap.objs.size (.tup [.int (i : Nat), x])) { s with heap := h'', toks := tk + 1 } :=
      I.turnedNew (ch := [e, it]) (fun b ob nb q => (sb.2 b (fun z => nb (by simp [z]))).trans (hk b ob (fun z => nb (by simp [z])) (fun z => nb (by simp [z])) q)) hf (Nat.le_refl _)
        ⟨by show 2 ≤ sizeLine; decide, [.int i tk, y], .cons ⟨_, rfl⟩ (.cons ru .nil), ⟨_, tT, rfl, _, rfl⟩⟩
    refine ⟨.ref s.heap.objs.size, _, J, rfl, ⟨_, x, rfl, I.hok.fresh (Nat.le_refl _), rfl, fun ys hy => by rw [I.tuple_inj hy hq]; exact hx⟩, ⟨⟨y, ?_⟩, st'.1.at fun o q => (sb.2 it (Ne.symm hei)).trans q⟩, fun b hb => ?_⟩
    · have c1 : ((i + 1 : Nat) : Int) = (i : Int) + 1 := by omega
      rw [c1]; exact he'
    · have lb : b < s.heap.objs.size := by
        rcases List.mem_cons.mp hb with z | z
        · rw [z]; exact le
        · rw [List.mem_singleton.mp z]; exact li
      rw [upd_ne (Nat.ne_of_lt lb)]
      exact (hf b hb).1
  done := by
    intro X hP hw hK hc i pins s σ H E I hf st hg
    subst hP hw hK
    obtain ⟨⟨old, he⟩, hit⟩ := st
    obtain ⟨xs, hq, hx⟩ := hg
    obtain ⟨its, rv, pl, hz⟩ := I.tuple hq
    obtain ⟨f0, f1, f2, f3, f4, f5⟩ := hf it (by simp)
    have hl := rv.length
    have nai : a ≠ it := fun z => by
      obtain ⟨o, q, hcl, _⟩ := hit
      obtain ⟨o2, q2, hcl2, _⟩ := pl
      rw [z, q] at q2
      cases q2
      rw [hcl] at hcl2
      exact absurd (Value.type.inj hcl2) (by decide)
    have D := Draws.tuple (prog := X.prog) (w := X.w) (A := X.A.in1) (I.ok.hd hc) it a nai its.toArray
    have en : i = its.toArray.size := by rw [List.size_toArray, ← hl, hx]
    exact wpAny_pyNext_enum_endD D he (by rw [← en]; exact ⟨hit, pl⟩) fun h' eb => ⟨rfl, I.turned (t' := s.toks) (fun b o hb q => eb b o hb q) f0 f1 f3 f4 f5⟩
  self := fun A i s Q E st h => let ⟨⟨_, he⟩, _⟩ := st; wpAny_pyIter_enum he h
def iEnumT (K : PySem.W.Frag) (ta : TA) : TI := fun σ H R => ta σ H fun vs H1 => ∃ a xs, vs = [.ref a] ∧ SqT K H1 a xs ∧ R (ItE K a) H1
theorem pi_enumT {X : Cx} {e : Expr} {ta : TA} {p pos tpos : Pos} {elts : List Expr} {kk : Nat} (hg : Gl X "enumerate") (hm : X.mg "enumerate" = none) (ha : PA X [e] ta) (hs : starEach [e] X.env = [(false, eval e X.env)] := by rfl) :
    PI X (.Tuple elts kk tpos) (.Call (.Name "enumerate" p) [e] [] pos) (iEnumT X.K ta) := by
  refine ⟨fun pins s σ H R I h => ?_⟩
  refine Call_ (ld_blt I hg hm boot_enumerate (PyProof.Rows.callWith_type1 (thn (ha.run pos pins s σ H _ I h) fun us s1 ⟨vs, H1, I1, r1, q1⟩ => ?_) hs rfl))
  obtain ⟨a, xs, rfl, hq, q⟩ := q1
  obtain ⟨u, rfl, ru⟩ := vals1 r1
  cases (show u = Value.ref a from ru)
  obtain ⟨its, rv, pl, hz⟩ := I1.tuple hq
  refine make (begins_tuple a its.toArray) pl fun h' ie io kp => wpAny_pyIter_enum ie ?_
  refine ⟨s1.heap.objs.size + 1, [s1.heap.objs.size + 1, s1.heap.objs.size], _, _, H1, rfl, I1.kept (t' := s1.toks) kp, turn a (s1.heap.objs.size + 1) s1.heap.objs.size (Nat.succ_ne_self _), ⟨⟨.none, ie⟩, _, io, rfl, rfl⟩, fun b hb => ?_, q⟩
  have lb : s1.heap.objs.size ≤ b := by
    rcases List.mem_cons.mp hb with z | z
    · rw [z]; exact Nat.le_succ _
    · rw [List.mem_singleton.mp z]; exact Nat.le_refl _
  exact I1.fpOk lb (I1.hok.fresh lb)
/-- for (i, x) in enumerate(t): an invariant over the turns -/
theorem for_enumT {K : PySem.W.Frag} {a : Addr} {xs : List V} {g : TG} {tb : TS} {D : Ends} {σ : L2.St} {H : Hp} (Pv : Nat → L2.St → Hp → Prop) (h0 : Pv 0 σ H) (hl : ∀ i σ H, i ≤ xs.length → Pv i σ H → SqT K H a xs)
    (hs : ∀ i x σ H T, xs[i]? = some x → Pv i σ H → H T = none → g (.ref T) σ (upd H T (.tup [.int (i : Nat), x])) fun σ2 H2 => tb { D with nx := Pv (i + 1), ct := Pv (i + 1), bk := D.nx } σ2 H2) (hd : ∀ σ H, Pv xs.length σ H → D.nx σ H) :
    ∃ W : Nat → Nat → L2.St → Hp → Prop, (∃ m, W 0 m σ H) ∧ ∀ i m σ H, W i m σ H →
      ((ItE K a).stop i H ∧ D.nx σ H) ∨ ((ItE K a).go i H ∧ ∃ N : L2.St → Hp → Prop, (∀ σ' H', N σ' H' → ∃ m', m' < m ∧ W (i + 1) m' σ' H') ∧ ∀ x H', (ItE K a).yld i H x H' → g x σ H' fun σ2 H2 => tb { D with nx := N, ct := N, bk := D.nx } σ2 H2) := by
  refine ⟨fun i m σ H => i + m = xs.length ∧ Pv i σ H, ⟨xs.length, by omega, h0⟩, ?_⟩
  rintro i m σ H ⟨e, p⟩
  have q := hl i σ H (by omega) p
  by_cases c : i < xs.length
  · refine .inr ⟨⟨xs, xs[i], q, List.getElem?_eq_getElem c⟩, Pv (i + 1), fun σ' H' p' => ⟨m - 1, by omega, by omega, p'⟩, fun v H' hy => ?_⟩
    obtain ⟨T, x, rfl, nT, rfl, fx⟩ := hy
    exact hs i x σ H T (fx xs q) p nT
  · have e2 : i = xs.length := by omega
    subst e2
    exact .inl ⟨⟨xs, q, rfl⟩, hd σ H p⟩
theorem lc_enumT {K : PySem.W.Frag} {a : Addr} {xs : List V} {g : TG} {tt : TT} {te : TE} {vs : List Nat} {σ : L2.St} {H1 : Hp} {D : Addr} {Qd : Hp → Prop} (Pv : Nat → Hp → Prop) (h0 : Pv 0 (upd H1 D (.lst []))) (hl : ∀ i H, i ≤ xs.length → Pv i H → SqT K H a xs)
    (hs : ∀ i x H T, xs[i]? = some x → Pv i H → H T = none → g (.ref T) (wipe σ vs) (upd H T (.tup [.int (i : Nat), x])) fun σ2 H2 => wipe σ2 vs = wipe σ vs ∧ tt σ2 H2 fun b H3 =>
      if b = true then te σ2 H3 fun y H4 => ∃ acc, H4 D = some (.lst acc) ∧ acc.length < sizeLine ∧ Pv (i + 1) (upd H4 D (.lst (acc ++ [y]))) else Pv (i + 1) H3) (hd : ∀ H, Pv xs.length H → Qd H) :
    ∃ W : Nat → Nat → Hp → Prop, (∃ m, W 0 m (upd H1 D (.lst []))) ∧ ∀ i m H, W i m H →
      ((ItE K a).stop i H ∧ Qd H) ∨ ((ItE K a).go i H ∧ ∃ Nx : Hp → Prop, (∀ H', Nx H' → ∃ m', m' < m ∧ W (i + 1) m' H') ∧ ∀ x H', (ItE K a).yld i H x H' → g x (wipe σ vs) H' fun σ2 H2 => wipe σ2 vs = wipe σ vs ∧ tt σ2 H2 fun b H3 =>
        if b = true then te σ2 H3 fun y H4 => ∃ acc, H4 D = some (.lst acc) ∧ acc.length < sizeLine ∧ Nx (upd H4 D (.lst (acc ++ [y]))) else Nx H3) := by
  refine ⟨fun i m H => i + m = xs.length ∧ Pv i H, ⟨xs.length, by omega, h0⟩, ?_⟩
  rintro i m H ⟨e, p⟩
  have q := hl i H (by omega) p
  by_cases c : i < xs.length
  · refine .inr ⟨⟨xs, xs[i], q, List.getElem?_eq_getElem c⟩, Pv (i + 1), fun H' p' => ⟨m - 1, by omega, by omega, p'⟩, fun v H' hy => ?_⟩
    obtain ⟨T, x, rfl, nT, rfl, fx⟩ := hy
    exact hs i x H T (fx xs q) p nT
  · have e2 : i = xs.length := by omega
    subst e2
    exact .inl ⟨⟨xs, q, rfl⟩, hd H p⟩
end Et

set_option Elab.async false
set_option linter.all false
set_option maxRecDepth 100000
set_option maxHeartbeats 4000000
/-! riddles as they lie in the heap, their data, and what a filling breaks -/
namespace Dt
open PySem PySem.Spec PyProof.Rows L2
/-! ### in, of a tuple of data -/
def rInT (K : PySem.W.Frag) : R2 := fun x y H Q => ∃ d ds, Dp K H x d ∧ Dp K H y (.tuple ds) ∧ SeqAt.shaped d = true ∧ SeqAt.shaped (.tuple ds) = true ∧ Q (.bl (ds.any fun z => PyData.eqv z d)) H
theorem op_inT {X : Cx} (hu : X.A.units + 65 < cLine) : OpR X (compareOp .In) (rInT X.K) := by
  intro pins s σ H x y v u Q I rx ry h
  obtain ⟨d, ds, hd, he, sd, se, q⟩ := h
  obtain ⟨as, r1⟩ := Dp.reads I d x v hd rx
  obtain ⟨bs, r2⟩ := Dp.reads I (.tuple ds) y u he ry
  exact SeqAt.in_tuple_reads r2 r1 (SeqAt.canLay_of_shaped se) (SeqAt.canLay_of_shaped sd) (room_in_shaped sd hu) ⟨.bl _, H, I, rfl, q⟩
/-! ### wishes and riddles -/
abbrev Row := List Int
abbrev WD := List Int × List Row
def IsRow (H : Hp) (r : Addr) (row : Row) : Prop := H r = some (.tup (row.map V.int))
/-- a tuple of places whose object is known to have no dict -/
def IsPl (H : Hp) (a : Addr) (ns : List Int) : Prop := ∃ o : Obj, H a = some (.frz o (.tup (ns.map V.int))) ∧ o.cls = .type "tuple" ∧ o.dict = none
theorem IsPl.sq {K : PySem.W.Frag} {H : Hp} {a : Addr} {ns : List Int} (h : IsPl H a ns) : SqT K H a (ns.map V.int) := let ⟨o, e, _⟩ := h; .inl (.inr ⟨o, e⟩)
def IsWish (H : Hp) (wa : Addr) (wd : WD) : Prop := ∃ (pa ra : Addr) (rs : List Addr), H wa = some (.tup [.ref pa, .ref ra]) ∧ IsPl H pa wd.1 ∧ H ra = some (.tup (rs.map V.ref)) ∧ Paired (IsRow H) rs wd.2
def IsRid (H : Hp) (ri : Addr) (many hues : Int) (wds : List WD) : Prop := ∃ (wt : Addr) (was : List Addr), H ri = some (.tup [.int many, .int hues, .ref wt]) ∧ H wt = some (.tup (was.map V.ref)) ∧ Paired (IsWish H) was wds
/-- tuples stay -/
structure Tups (H H' : Hp) : Prop where
  tup : ∀ b xs, H b = some (.tup xs) → H' b = some (.tup xs)
  frz : ∀ b o xs, H b = some (.frz o (.tup xs)) → H' b = some (.frz o (.tup xs))
instance {H H' : Hp} : CoeFun (Tups H H') (fun _ => ∀ b xs, H b = some (.tup xs) → H' b = some (.tup xs)) := ⟨Tups.tup⟩
theorem Tups.refl (H : Hp) : Tups H H := ⟨fun _ _ e => e, fun _ _ _ e => e⟩
theorem Tups.trans {H H1 H2 : Hp} (a : Tups H H1) (b : Tups H1 H2) : Tups H H2 := ⟨fun c xs e => b.tup c xs (a.tup c xs e), fun c o xs e => b.frz c o xs (a.frz c o xs e)⟩
theorem tups_same {H H' : Hp} (s : Same H H') : Tups H H' := ⟨fun b xs e => s b _ e, fun b o xs e => s b _ e⟩
theorem tups_lst {H : Hp} {p : Addr} {ys : List V} {o : HO} (h : H p = some (.lst ys)) : Tups H (upd H p o) := ⟨fun b xs e => by
    rw [upd_ne (fun z => by rw [z, h] at e; cases e)]
    exact e, fun b o xs e => by
    rw [upd_ne (fun z => by rw [z, h] at e; cases e)]
    exact e⟩
theorem IsPl.mono {H H' : Hp} {a : Addr} {ns : List Int} (t : Tups H H') (h : IsPl H a ns) : IsPl H' a ns := let ⟨o, e, r⟩ := h; ⟨o, t.frz _ _ _ e, r⟩
theorem pairedMap {α β : Type} {F G : α → β → Prop} : ∀ {l : List α} {m : List β}, (∀ a b, F a b → G a b) → Paired F l m → Paired G l m
  | _, _, _, .nil => .nil
  | _, _, k, .cons h t => .cons (k _ _ h) (pairedMap k t)
theorem pairedLen {α β : Type} {F : α → β → Prop} : ∀ {l : List α} {m : List β}, Paired F l m → l.length = m.length
  | _, _, .nil => rfl
  | _, _, .cons _ t => by rw [List.length_cons, List.length_cons, pairedLen t]
theorem pairedGet {α β : Type} {F : α → β → Prop} : ∀ {l : List α} {m : List β} {i : Nat} {b : β}, Paired F l m → m[i]? = some b → ∃ a, l[i]? = some a ∧ F a b
  | _, _, _, _, .nil, h => by simp at h
  | _, _, 0, _, .cons h _, e => by cases e; exact ⟨_, rfl, h⟩
  | _, _, i + 1, b, .cons _ t, e => pairedGet (i := i) (b := b) t e
theorem pairedGetL {α β : Type} {F : α → β → Prop} : ∀ {l : List α} {m : List β} {i : Nat} {a : α}, Paired F l m → l[i]? = some a → ∃ b, m[i]? = some b ∧ F a b
  | _, _, _, _, .nil, h => by simp at h
  | _, _, 0, _, .cons h _, e => by cases e; exact ⟨_, rfl, h⟩
  | _, _, i + 1, a, .cons _ t, e => pairedGetL (i := i) (a := a) t e
theorem IsWish.mono {H H' : Hp} {wa : Addr} {wd : WD} (t : Tups H H') (h : IsWish H wa wd) : IsWish H' wa wd := by
  obtain ⟨pa, ra, rs, h1, h2, h3, h4⟩ := h
  exact ⟨pa, ra, rs, t _ _ h1, h2.mono t, t _ _ h3, pairedMap (fun a b e => t _ _ e) h4⟩
theorem IsRid.mono {H H' : Hp} {ri : Addr} {m h : Int} {wds : List WD} (t : Tups H H') (x : IsRid H ri m h wds) : IsRid H' ri m h wds := by
  obtain ⟨wt, was, h1, h2, h3⟩ := x
  exact ⟨wt, was, t _ _ h1, t _ _ h2, pairedMap (fun _ _ e => IsWish.mono t e) h3⟩
/-- what may come of the law's drawing -/
structure Good (many hues : Int) (wd : WD) : Prop where
  one : 1 ≤ wd.1.length
  three : wd.1.length ≤ 3
  pl : ∀ p ∈ wd.1, 0 ≤ p ∧ p < many
  some_ : 1 ≤ wd.2.length
  few : wd.2.length ≤ 64
  row : ∀ r ∈ wd.2, r.length = wd.1.length ∧ ∀ h ∈ r, 0 ≤ h ∧ h < hues
structure GoodR (many hues : Int) (wds : List WD) : Prop where
  m1 : 1 ≤ many
  m6 : many ≤ 6
  h2 : 2 ≤ hues
  h4 : hues ≤ 4
  eight : wds.length ≤ 8
  each : ∀ wd ∈ wds, Good many hues wd
structure GoodF (many hues : Int) (fs : List Int) : Prop where
  len : (fs.length : Int) = many
  hue : ∀ h ∈ fs, 0 ≤ h ∧ h < hues
/-! ### the data -/
def rowD (r : Row) : PyData := .tuple (r.map .int)
def wishD (wd : WD) : PyData := .tuple [rowD wd.1, .tuple (wd.2.map rowD)]
def ridD (many hues : Int) (wds : List WD) : PyData := .tuple [.int many, .int hues, .tuple (wds.map wishD)]
section
variable {K : PySem.W.Frag} {H : Hp}
theorem dpInts : ∀ ns : List Int, DpAll K H (ns.map V.int) (ns.map PyData.int)
  | [] => .nil
  | n :: r => .cons (.int n) (dpInts r)
theorem dpRow {r : Addr} {row : Row} (h : IsRow H r row) : Dp K H (.ref r) (rowD row) := .tup (.inl (.inl h)) (dpInts row)
theorem dpRows : ∀ {rs : List Addr} {rows : List Row}, Paired (IsRow H) rs rows → DpAll K H (rs.map V.ref) (rows.map rowD)
  | _, _, .nil => .nil
  | _, _, .cons h t => .cons (dpRow h) (dpRows t)
theorem dpWish {wa : Addr} {wd : WD} (h : IsWish H wa wd) : Dp K H (.ref wa) (wishD wd) := by
  obtain ⟨pa, ra, rs, h1, h2, h3, h4⟩ := h
  exact .tup (.inl (.inl h1)) (.cons (.tup h2.sq (dpInts _)) (.cons (.tup (.inl (.inl h3)) (dpRows h4)) .nil))
theorem dpWishes : ∀ {was : List Addr} {wds : List WD}, Paired (IsWish H) was wds → DpAll K H (was.map V.ref) (wds.map wishD)
  | _, _, .nil => .nil
  | _, _, .cons h t => .cons (dpWish h) (dpWishes t)
theorem dpRid {ri : Addr} {m h : Int} {wds : List WD} (x : IsRid H ri m h wds) : Dp K H (.ref ri) (ridD m h wds) := by
  obtain ⟨wt, was, h1, h2, h3⟩ := x
  exact .tup (.inl (.inl h1)) (.cons (.int m) (.cons (.int h) (.cons (.tup (.inl (.inl h2)) (dpWishes h3)) .nil)))
end
/-! ### data of this kind is laid, shallow, light and shown -/
/-- a measure of data: laid, at most so deep, at most so heavy, ints short, no dict -/
structure Fine (d : PyData) (n w : Nat) : Prop where
  lay : d.canLay0 = true
  dep : d.depth ≤ n
  wei : d.weight ≤ w
  sho : d.showable = true
  noD : d.hasDict = false
  sh13 : d.intsShort 13 = true
structure FineAll (ds : List PyData) (n w : Nat) : Prop where
  lay : PyData.canLayAll0 ds = true
  dep : PyData.depthAll ds ≤ n
  wei : PyData.weightAll ds ≤ w
  sho : PyData.showableAll ds = true
  noD : PyData.hasDictAll ds = false
  sh13 : PyData.intsShortAll 13 ds = true
theorem FineAll.nil (n : Nat) : FineAll [] n 0 := ⟨rfl, Nat.zero_le _, Nat.le_refl _, rfl, rfl, rfl⟩
theorem FineAll.cons {d : PyData} {ds : List PyData} {n w u : Nat} (h : Fine d n w) (t : FineAll ds n u) : FineAll (d :: ds) n (w + 1 + u) := by
  refine ⟨?_, ?_, ?_, ?_, ?_, ?_⟩
  · simp only [PyData.canLayAll0, h.lay, t.lay, Bool.and_self]
  · have a := h.dep
    have b := t.dep
    simp only [PyData.depthAll]
    omega
  · have a := h.wei
    have b := t.wei
    simp only [PyData.weightAll]
    omega
  · simp only [PyData.showableAll, h.sho, t.sho, Bool.and_self]
  · simp only [PyData.hasDictAll, h.noD, t.noD, Bool.or_self]
  · simp only [PyData.intsShortAll, h.sh13, t.sh13, Bool.and_self]
theorem Fine.tuple {ds : List PyData} {n w : Nat} (t : FineAll ds n w) : Fine (.tuple ds) (n + 1) w := by
  refine ⟨by simp only [PyData.canLay0]; exact t.lay, ?_, by simp only [PyData.weight]; exact t.wei, by simp only [PyData.showable]; exact t.sho, by simp only [PyData.hasDict]; exact t.noD, by simp only [PyData.intsShort]; exact t.sh13⟩
  have a := t.dep
  simp only [PyData.depth]
  omega
theorem Fine.list {ds : List PyData} {n w : Nat} (t : FineAll ds n w) : Fine (.list ds) (n + 1) w := by
  refine ⟨by simp only [PyData.canLay0]; exact t.lay, ?_, by simp only [PyData.weight]; exact t.wei, by simp only [PyData.showable]; exact t.sho, by simp only [PyData.hasDict]; exact t.noD, by simp only [PyData.intsShort]; exact t.sh13⟩
  have a := t.dep
  simp only [PyData.depth]
  omega
theorem Fine.mono {d : PyData} {n w n' w' : Nat} (h : Fine d n w) (a : n ≤ n') (b : w ≤ w') : Fine d n' w' := ⟨h.lay, Nat.le_trans h.dep a, Nat.le_trans h.wei b, h.sho, h.noD, h.sh13⟩
theorem FineAll.mono {d : List PyData} {n w n' w' : Nat} (h : FineAll d n w) (a : n ≤ n') (b : w ≤ w') : FineAll d n' w' := ⟨h.lay, Nat.le_trans h.dep a, Nat.le_trans h.wei b, h.sho, h.noD, h.sh13⟩
theorem fineAll_map {α : Type} {f : α → PyData} {n w : Nat} : ∀ (l : List α), (∀ x ∈ l, Fine (f x) n w) → FineAll (l.map f) n (l.length * (w + 1))
  | [], _ => FineAll.nil n |>.mono (Nat.le_refl _) (Nat.zero_le _)
  | x :: r, h => by
    have t := fineAll_map r fun y hy => h y (List.mem_cons_of_mem _ hy)
    refine (FineAll.cons (h x List.mem_cons_self) t).mono (Nat.le_refl _) ?_
    rw [List.length_cons, Nat.succ_mul]
    omega
theorem fine_int {i : Int} (h0 : 0 ≤ i) (h1 : i < 64) : Fine (.int i) 1 7 := by
  obtain ⟨n, rfl⟩ : ∃ n : Nat, i = n := ⟨i.toNat, by omega⟩
  have hn : n < 64 := by omega
  have hl : n.log2 ≤ 5 := by
    by_cases e : n = 0
    · subst e; decide
    · have := (Nat.log2_lt e).mpr (show n < 2 ^ 6 by omega)
      omega
  refine ⟨rfl, by simp [PyData.depth], ?_, ?_, rfl, ?_⟩
  · simp only [PyData.weight]
    split
    · omega
    · have e : ((n : Int)).natAbs = n := by omega
      rw [e]
      omega
  · simp only [PyData.showable]
    have e : ((n : Int)).natAbs = n := by omega
    rw [e]
    exact decide_eq_true (by omega)
  · have all : ∀ m : Nat, m < 64 → PyData.intsShort 13 (.int (m : Int)) = true := by decide +kernel
    exact all n hn
theorem Fine.shaped {d : PyData} {n w : Nat} (h : Fine d n w) (hn : n ≤ 64) : SeqAt.shaped d = true := by
  show (d.canLay0 && decide (d.depth ≤ 64)) = true
  rw [h.lay, decide_eq_true (Nat.le_trans h.dep hn)]
  rfl
theorem Fine.shows {d : PyData} {n w : Nat} (h : Fine d n w) (hn : n ≤ 64) (hw : w ≤ 1048576) : d.shown.length ≤ sizeLine := by
  have l : d.layable0 = true := by
    show (d.canLay0 && decide (d.depth ≤ 64) && decide (d.weight ≤ 2 ^ 20)) = true
    rw [h.lay, decide_eq_true (Nat.le_trans h.dep hn), decide_eq_true (show d.weight ≤ 2 ^ 20 from Nat.le_trans h.wei (Nat.le_trans hw (by decide)))]
    rfl
  exact Nat.le_trans (shown_le13 l h.sh13) (by decide)
/-! ### equality of rows -/
theorem eqvAll_ints : ∀ a b : List Int, PyData.eqvAll (a.map .int) (b.map .int) = decide (a = b)
  | [], [] => by simp [PyData.eqvAll]
  | [], _ :: _ => by simp [PyData.eqvAll]
  | _ :: _, [] => by simp [PyData.eqvAll]
  | x :: r, y :: q => by
    simp only [List.map_cons, PyData.eqvAll, PyData.eqv, eqvAll_ints r q]
    by_cases h : x = y
    · subst h; simp
    · simp [h]
theorem eqv_row (a b : Row) : PyData.eqv (rowD a) (rowD b) = decide (a = b) := by
  unfold rowD
  rw [PyData.eqv]
  exact eqvAll_ints a b
theorem anyRows (r : Row) : ∀ rows : List Row, ((rows.map rowD).any fun z => PyData.eqv z (rowD r)) = decide (r ∈ rows)
  | [] => by simp
  | x :: q => by
    rw [List.map_cons, List.any_cons, anyRows r q, eqv_row]
    by_cases h : x = r
    · subst h; simp
    · have h2 : ¬ r = x := fun e => h e.symm
      simp [h, h2]
/-! ### what is broken -/
def atF (fs : List Int) (p : Int) : Int := fs.getD p.toNat 0
def huesA (fs ps : List Int) : List Int := ps.map (atF fs)
def brk (fs : List Int) (wd : WD) : Bool := decide (huesA fs wd.1 ∈ wd.2)
def brkAt (fs : List Int) (wds : List WD) (k : Nat) : Bool := match wds[k]? with
  | some wd => brk fs wd
  | none => false
def broL (fs : List Int) (wds : List WD) (i : Nat) : List Int := ((List.range i).filter (brkAt fs wds)).map fun (k : Nat) => (k : Int)
theorem brkAt_of {fs : List Int} {wds : List WD} {k : Nat} {wd : WD} (h : wds[k]? = some wd) : brkAt fs wds k = brk fs wd := by
  unfold brkAt
  rw [h]
theorem broL_yes {fs : List Int} {wds : List WD} {i : Nat} (h : brkAt fs wds i = true) : broL fs wds (i + 1) = broL fs wds i ++ [(i : Int)] := by
  unfold broL
  rw [List.range_succ, List.filter_append, List.map_append]
  simp [h]
theorem broL_no {fs : List Int} {wds : List WD} {i : Nat} (h : brkAt fs wds i = false) : broL fs wds (i + 1) = broL fs wds i := by
  unfold broL
  rw [List.range_succ, List.filter_append, List.map_append]
  simp [h]
theorem broL_len (fs : List Int) (wds : List WD) (i : Nat) : (broL fs wds i).length ≤ i := by
  unfold broL
  rw [List.length_map]
  have q := List.length_filter_le (brkAt fs wds) (List.range i)
  rw [List.length_range] at q
  exact q
theorem broL_mem {fs : List Int} {wds : List WD} {i : Nat} {z : Int} (h : z ∈ broL fs wds i) : 0 ≤ z ∧ z < i := by
  unfold broL at h
  obtain ⟨k, hk, rfl⟩ := List.mem_map.mp h
  have := List.mem_range.mp (List.mem_filter.mp hk).1
  omega
theorem at_some {fs : List Int} {many hues : Int} {p : Int} (h : GoodF many hues fs) (h0 : 0 ≤ p) (h1 : p < many) : fs[p.toNat]? = some (atF fs p) := by
  have hl := h.len
  have hp : p.toNat < fs.length := by omega
  unfold atF
  rw [List.getD_eq_getElem?_getD, List.getElem?_eq_getElem hp]
  rfl
theorem atI_fs {fs : List Int} {many hues : Int} {p : Int} (h : GoodF many hues fs) (h0 : 0 ≤ p) (h1 : p < many) : atI (fs.map V.int) p = some (.int (atF fs p)) := by
  have e : p = ((p.toNat : Nat) : Int) := by omega
  have g : (fs.map V.int)[p.toNat]? = some (.int (atF fs p)) := by rw [List.getElem?_map, at_some h h0 h1]; rfl
  rw [e]
  rw [← e]
  have q := atI_nat g
  rw [← e] at q
  exact q
/-! ### riddles are fine data -/
theorem fine_row {r : Row} (h : ∀ z ∈ r, 0 ≤ z ∧ z < 64) (hl : r.length ≤ 8) : Fine (rowD r) 2 64 :=
  (Fine.tuple (fineAll_map r fun z hz => fine_int (h z hz).1 (h z hz).2)).mono (by omega) (by omega)
theorem fine_wish {many hues : Int} {wd : WD} (g : Good many hues wd) (hm : many ≤ 6) (hh : hues ≤ 4) : Fine (wishD wd) 4 5000 := by
  have a : Fine (rowD wd.1) 2 64 := fine_row (fun z hz => ⟨(g.pl z hz).1, by have := (g.pl z hz).2; omega⟩) (by have := g.three; omega)
  have b : Fine (.tuple (wd.2.map rowD)) 3 4200 := by
    refine (Fine.tuple (fineAll_map wd.2 fun r hr => fine_row (fun z hz => ⟨((g.row r hr).2 z hz).1, by have := ((g.row r hr).2 z hz).2; omega⟩) (by have := (g.row r hr).1; have := g.three; omega))).mono (Nat.le_refl _) ?_
    have := g.few
    omega
  exact (Fine.tuple (FineAll.cons (a.mono (by omega) (Nat.le_refl _)) (FineAll.cons b (FineAll.nil _)))).mono (Nat.le_refl _) (by omega)
theorem fine_rid {many hues : Int} {wds : List WD} (g : GoodR many hues wds) : Fine (ridD many hues wds) 6 50000 := by
  have c : Fine (.tuple (wds.map wishD)) 5 40100 := by
    refine (Fine.tuple (fineAll_map wds fun wd hw => fine_wish (g.each wd hw) g.m6 g.h4)).mono (Nat.le_refl _) ?_
    have := g.eight
    omega
  have m := fine_int (i := many) (by have := g.m1; omega) (by have := g.m6; omega)
  have h := fine_int (i := hues) (by have := g.h2; omega) (by have := g.h4; omega)
  exact (Fine.tuple (FineAll.cons (m.mono (by omega) (Nat.le_refl _)) (FineAll.cons (h.mono (by omega) (Nat.le_refl _)) (FineAll.cons c (FineAll.nil _))))).mono (Nat.le_refl _) (by omega)
theorem fine_fill {many hues : Int} {fs : List Int} (g : GoodF many hues fs) (hm : many ≤ 6) (hh : hues ≤ 4) : Fine (rowD fs) 2 64 :=
  fine_row (fun z hz => ⟨(g.hue z hz).1, by have := (g.hue z hz).2; omega⟩) (by have := g.len; omega)
theorem fine_bro (fs : List Int) (wds : List WD) {i : Nat} (h : i ≤ 8) : Fine (.list ((broL fs wds i).map .int)) 2 64 := by
  refine (Fine.list (fineAll_map (broL fs wds i) fun z hz => fine_int (broL_mem hz).1 (by have := (broL_mem hz).2; omega))).mono (by omega) ?_
  have := broL_len fs wds i
  omega
end Dt

set_option Elab.async false
set_option linter.all false
set_option maxRecDepth 100000
set_option maxHeartbeats 4000000
/-! sorted(xs) of tuples of small ints, any number of them -/
namespace Tt
open PySem PySem.Spec PyProof.Rows L2
def rk (h : Heap) (B : Int) (v : Value) : Int := TS.code B (TS.intsOf h v)
theorem swo_rk (f : Value → Int) : SrtO.Swo fun v u => decide (f v < f u) := by
  refine ⟨fun x y h => ?_, fun x y z h1 h2 => ?_⟩
  · have a := of_decide_eq_true h
    exact decide_eq_false (by omega)
  · have a := of_decide_eq_false h1
    have b := of_decide_eq_false h2
    exact decide_eq_false (by omega)
section
variable {prog : Program} {w : World} {A : Around} {E : Value → Shared → Prop} {s : Shared}
theorem cmp_tups {d : Nat} {B : Int} {vs : List Value} (x : TS.TupsOk s.heap d B vs) (r : Value → Int) (hr : ∀ v, v ∈ vs → ∀ ns, TS.TupInts s.heap v ns → r v = TS.code B ns) :
    SrtO.Cmp prog w A s (tuples' true) (fun p => p.1 ∈ vs) (SrtO.lt2 fun v u => decide (r v < r u)) := by
  intro p q hp hq
  obtain ⟨ns, tp, lp, bp⟩ := x _ hp
  obtain ⟨ms, tq, lq, bq⟩ := x _ hq
  show wpAny (model prog w) A (keyLt' (tuples' true) p.1 q.1) (fun b s' => s' = s ∧ b = decide (r p.1 < r q.1)) (fun _ _ => False) s
  rw [hr _ hp _ tp, hr _ hq _ tq]
  obtain ⟨a, xs, e1, ⟨o, ho, hc, n, hdt⟩, i⟩ := tp
  obtain ⟨a', ys, e2, ⟨o', ho', hc', n', hdt'⟩, i'⟩ := tq
  rw [e1, e2]
  refine PySem.W.kat_lt ho hdt ho' hdt' ?_
  have l1 := i.length
  have l2 := i'.length
  rw [Array.length_toList] at l1 l2
  rw [show decide (xs.size < ys.size) = false from decide_eq_false (by omega)]
  exact TS.lex_ints 0 i i' (by omega) bp bq ⟨rfl, rfl⟩
theorem sortable {a : Addr} {d : Nat} {B : Int} {vs : List Value} (hd : 1 ≤ d) (h2 : 2 ≤ vs.length) (x : TS.TupsOk s.heap d B vs) (ha : ∀ o, s.heap.get? a = some o → o.cls ≠ .type "tuple") (r : Value → Int) (hr : ∀ v, v ∈ vs → ∀ ns, TS.TupInts s.heap v ns → r v = TS.code B ns) :
    SrtO.SortableO prog w A s a vs fun v u => decide (r v < r u) := by
  intro h' keep
  have k2 : ∀ b o, s.heap.get? b = some o → o.cls = .type "tuple" → h'.get? b = some o := fun b o e c => keep b o (fun z => by subst z; exact ha o e c) e
  have x' := x.keeps k2
  obtain ⟨fs, kt, hl, hi⟩ := TS.firsts_of hd vs x'
  refine ⟨tuples' true, fun Q E hq => ?_, cmp_tups (s := { s with heap := h' }) x' r fun v hv ns t => ?_⟩
  · refine PySem.W.kat_kind (T := .type "int") kt (by omega) (fun f hm => ?_) (by rfl) ?_
    · obtain ⟨n, t, rfl⟩ := hi f hm
      exact PySem.W.Looks.of_pure rfl
    · rw [show (Value.type "int" != Value.type "tuple") = true by decide +kernel]
      exact hq
  · obtain ⟨n0, t0, _⟩ := x v hv
    rw [show ns = n0 from t.ints.symm.trans (t0.keeps k2).ints]
    exact hr v hv n0 t0
end
/-- sorted(xs): ts the tuples' places, k what stands at each -/
def rSortedT (K : PySem.W.Frag) : List V → Hp → VK → Prop := fun vs H Q => ∃ (a : Addr) (ts : List Addr) (k : Addr → List Int) (d : Nat) (B : Int), vs = [.ref a] ∧ SqL K H a (ts.map V.ref) ∧ 1 ≤ d ∧ (∀ t ∈ ts, H t = some (.tup ((k t).map V.int)) ∧ (k t).length = d ∧ TS.Bd B (k t)) ∧
  ∀ (ts' : List Addr) (p : Addr), ts'.Perm ts → ts'.Pairwise (fun u v => TS.code B (k u) ≤ TS.code B (k v)) → H p = none → Q (.ref p) (upd H p (.lst (ts'.map V.ref)))
theorem vals_refs : ∀ {ts : List Addr} {us : List Value}, Vals (ts.map V.ref) us → us = ts.map Value.ref
  | [], _, .nil => rfl
  | t :: r, _, .cons h q => by
    cases h
    rw [vals_refs q]
    rfl
theorem refs_vals : ∀ ts : List Addr, Vals (ts.map V.ref) (ts.map Value.ref)
  | [] => .nil
  | t :: r => .cons rfl (refs_vals r)
theorem cr_sortedT {X : Cx} : CallR X (.builtin "sorted") (rSortedT X.K) := by
  intro pins s σ H vs us Q I r h
  obtain ⟨a, ts, k, d, B, rfl, hs, hd, ht, q⟩ := h
  obtain ⟨its, rv, hl, hz⟩ := I.list hs
  obtain ⟨u, rfl, ru⟩ := vals1 r
  cases (show u = Value.ref a from ru)
  obtain rfl := vals_refs rv
  have tup : ∀ t ∈ ts, TS.TupInts s.heap (.ref t) (k t) := fun t hm => by
    obtain ⟨_, its, rr, hT⟩ := I.hok t _ (ht t hm).1
    exact ⟨t, its.toArray, rfl, hT, by simpa using rr.ints⟩
  have ok : TS.TupsOk s.heap d B (ts.map Value.ref) := fun v hv => by
    obtain ⟨t, hm, rfl⟩ := List.mem_map.mp hv
    exact ⟨k t, tup t hm, (ht t hm).2.1, (ht t hm).2.2⟩
  have rk_at : ∀ v ∈ ts.map Value.ref, ∀ ns, TS.TupInts s.heap v ns → rk s.heap B v = TS.code B ns := fun v _ ns t => by
    unfold rk
    rw [t.ints]
  refine SrtO.sorted_ord (swo_rk (rk s.heap B)) hl.isList (by rw [← rv.length]; exact hz) (fun h2 h₁ a' ha' kk => ?_) fun out so sb => ?_
  · have keep : ∀ b o, s.heap.get? b = some o → o.cls = .type "tuple" → h₁.get? b = some o := fun b o e _ => (kk b o e).2
    refine sortable (s := { s with heap := h₁ }) hd h2 (ok.keeps keep) (fun o e c => ?_) (rk s.heap B) fun v hv ns t => ?_
    · have e' := Option.some.inj (e.symm.trans ha')
      rw [e'] at c
      exact absurd (Value.type.inj c) (by decide)
    · obtain ⟨n0, t0, _⟩ := ok v hv
      rw [show ns = n0 from t.ints.symm.trans (t0.keeps keep).ints]
      exact rk_at v hv n0 t0
  · obtain ⟨ep, he⟩ := PyProof.Rows.sortedAll_at s.heap (ts.map Value.ref) out.toArray
    have pm := sb.perm
    obtain ⟨ts', rfl, pt⟩ : ∃ ts' : List Addr, out = ts'.map Value.ref ∧ ts'.Perm ts := by
      have back : ∀ v ∈ out, ∃ t, v = Value.ref t := fun v hv => by
        obtain ⟨t, _, e⟩ := List.mem_map.mp (pm.mem_iff.mp hv)
        exact ⟨t, e.symm⟩
      have g : ∀ l : List Value, (∀ v ∈ l, ∃ t, v = Value.ref t) → ∃ m : List Addr, l = m.map Value.ref := by
        intro l
        induction l with
        | nil => intro _; exact ⟨[], rfl⟩
        | cons v r ih =>
          intro hv
          obtain ⟨t, rfl⟩ := hv v List.mem_cons_self
          obtain ⟨m, rfl⟩ := ih fun z hz => hv z (List.mem_cons_of_mem _ hz)
          exact ⟨t :: m, rfl⟩
      obtain ⟨m, rfl⟩ := g out back
      let f : Value → Addr := fun v => match v with | .ref t => t | _ => 0
      have q2 := pm.map f
      rw [List.map_map, List.map_map] at q2
      have e1 : (f ∘ Value.ref) = id := by funext z; rfl
      rw [e1, List.map_id, List.map_id] at q2
      exact ⟨m, rfl, q2⟩
    refine ⟨.ref (s.heap.objs.size + 1), _, I.laid (t' := s.toks) (o := .lst (ts'.map V.ref)) (fun _ _ => PyProof.Rows.sortedAll_old) (Nat.le_succ _) ⟨?_, ts'.map Value.ref, ep, refs_vals ts', he⟩, rfl, q ts' _ pt ?_ (I.hok.fresh (Nat.le_succ _))⟩
    · rw [List.length_map, pt.length_eq]
      rw [List.length_map] at hz
      exact hz
    · have so2 := List.pairwise_map.mp so
      refine List.Pairwise.imp_of_mem (fun {x y} hx hy h => ?_) so2
      have h2 := of_decide_eq_false h
      unfold rk at h2
      rw [(tup x (pt.mem_iff.mp hx)).ints, (tup y (pt.mem_iff.mp hy)).ints] at h2
      omega
end Tt

set_option Elab.async false
set_option linter.all false
set_option maxRecDepth 100000
set_option maxHeartbeats 4000000
/-! the law's own call: tables of code objects tracked, and no repr under way around it -/
namespace Lg
open PySem PySem.Spec PyProof.Rows L2
/-- the def's body, run where A stands -/
theorem run_at {P : Program} {w : World} {K : PySem.W.Frag} {mg : Str → Option Value} {base : Heap} {k : Nat} {f : Addr} {x qual : Str} {st : Stmt} {fd : FuncData} {N ps : List Str} {A : Around} {outer : List Env} {s : Shared} {H : Hp} {args : Args} {us : List Value} {vs : List V} {Q : VK} {E : XK}
    (F : Fun K x qual st f fd) (S : FnScope N ps (defScope st)) (hr : Room (k + 1) A) (e0 : Env0 P w K mg base A outer s H) (hb : BindsTo s fd args (ps.zip us)) (r : Vals vs us) (hl : vs.length = ps.length)
    (body : ∀ cdv : Value, Room k (A.deeper (envOfC qual (defScope st) s.heap.objs.size f cdv)) → ∃ t, PSs (cxOf CX0 P w K mg base N qual (defScope st) f cdv A outer s H E).nox (defBody st) t ∧ t { nx := fun _ H' => Q .non H', rt := Q } (start N vs) H) :
    codeAny (model P w) A (.call (.ref f) args) (CR CX0 outer P w H s Q E) s := by
  obtain ⟨oc, od, kV, doc, pm, an, cdv, ct, osl, rfl, lk, hcd⟩ := F.ex
  have old : ∀ b o, base.get? b = some o → s.heap.get? b = some o := fun b o e => (e0.bs b o e).1
  have KX := e0.mod.kin.keeps old
  have lim := e0.mod.nolimit.keeps old
  obtain ⟨t, pt, ht⟩ := body cdv (hr.deeper _)
  refine codeAny_call_function hr.depth (KX _ _ lk) rfl S.co S.gen rfl (PySem.W.codeRec_of KX hcd) (hb _ _ _ _ (wpAny_newFunctionEnv_cells S.kind (fun y hy => ?_) fun env he s1 ic => ?_))
  · rcases S.par y.1 (List.of_mem_zip (show (y.1, y.2) ∈ ps.zip us from hy)).1 with z | z
    · exact .inl z
    · exact .inr ⟨z, PySem.W.cellsFrom_some _ _ _ (.inl z)⟩
  · subst he
    refine ⟨lim.keeps ic.toInCall.keep, codeAny_func (wpAny_mono (pt.nox.run [] s1 (start N vs) H _ (inv_start S hr.hd e0 hl r ic) ht) (fun fl s' q => ?_) fun _ _ q => q)⟩
    cases fl with
    | ret u => obtain ⟨v, σ', H', J, rv, q⟩ := q; exact ⟨v, H', J.os, J.bare, J.base, J.hok, rv, q⟩
    | next => obtain ⟨σ', H', J, q⟩ := q; exact ⟨.non, H', J.os, J.bare, J.base, J.hok, rfl, q⟩
    | brk => obtain ⟨_, _, _, q⟩ := q; exact q.elim
    | cont => obtain ⟨_, _, _, q⟩ := q; exact q.elim
/-- the abstract heap at the law's call: the tables, and the script where the top didn't write it -/
def H0 (K : PySem.W.Frag) (T : List Addr) (a : Addr) (o : Obj) (xs : List V) : Hp := fun b => if b ∈ T then some (.tbl #[]) else if b = a ∧ K.lookup a = none then some (.frz o (.lst xs)) else none
theorem H0_three (K : PySem.W.Frag) (T : List Addr) (a : Addr) (o : Obj) (xs : List V) (b : Addr) : (b ∈ T ∧ H0 K T a o xs b = some (.tbl #[])) ∨ (b = a ∧ K.lookup a = none ∧ H0 K T a o xs b = some (.frz o (.lst xs))) ∨ (H0 K T a o xs b = none ∧ b ∉ T) := by
  unfold H0
  by_cases h : b ∈ T
  · exact .inl ⟨h, if_pos h⟩
  · by_cases h2 : b = a ∧ K.lookup a = none
    · exact .inr (.inl ⟨h2.1, h2.2, by rw [if_neg h, if_pos h2]⟩)
    · exact .inr (.inr ⟨by rw [if_neg h, if_neg h2], h⟩)
theorem law_at {P : Program} {w : World} {K : PySem.W.Frag} {mg mb : Str → Option Value} {k : Nat} {fa a : Addr} {cs : List (Addr × Addr)} {x qual : Str} {st : Stmt} {fd : FuncData} {N : List Str} {par : Str} {s : Shared} {vs : List Value} {ns : List Int}
    (KX : K.In s.heap) (hns : s.heap.Ns mainGlobals mg) (hbl : s.heap.Ns builtinsNs mb) (hbb : ∀ x : Str, x ≠ "__name__" → mb x = bootBuiltins x) (hlim : s.heap.NoLimit) (hg : s.gens = #[])
    (hT : ∀ p ∈ cs, s.heap.get? p.2 = some { cls := .none, data := .fields #[] }) (nT : ∀ p ∈ cs, K.lookup p.2 = none) (hC : ∀ p ∈ cs, PySem.W.CodeHd s.heap p.1 p.2)
    (hbm : ∃ (bm : Addr) (ob : Obj), mg "__builtins__" = some (.ref bm) ∧ bm ≠ builtinsNs ∧ s.heap.get? bm = some ob ∧ ob.cls = .type "module" ∧ ob.dict = some builtinsNs ∧ ob.data = .plain)
    (ha : s.heap.get? a = some { cls := .type "list", data := .seq vs.toArray }) (hi : IntsAre vs ns) (hlen : ns.length ≤ sizeLine) (hr : Room (k + 1) callerA)
    (F : Fun K x qual st fa fd) (S : FnScope N [par] (defScope st)) (hb : ∀ (s : Shared) (u : Value), BindsTo s fd ⟨[u], []⟩ [(par, u)])
    (body : ∀ (base : Heap) (H : Hp) (cdv : Value), K.In base → base.Ns mainGlobals mg → (∀ p ∈ cs, GxR.TabB base mg p.1 p.2) → (∀ p ∈ cs, H p.2 = some (.tbl #[])) → SqL K H a (ns.map V.int) → Room k (callerA.deeper (envOfC qual (defScope st) s.heap.objs.size fa cdv)) →
      ∃ t, PSs (cxOf CX0 P w K mg base N qual (defScope st) fa cdv callerA [] s H (fun _ _ _ => False)).nox (defBody st) t ∧ t { nx := fun _ _ => False, rt := fun v _ => v = .bl true } (start N [.ref a]) H) :
    codeAny (model P w) callerA (.call (.ref fa) ⟨[.ref a], []⟩) (fun r s' => r = .ok (.ret (.bool true)) ∧ OldK s.heap s'.heap ∧ s'.os = s.os ∧ AllBare s'.gens) s := by
  have rv := vals_ints hi
  have lv := hi.length
  generalize hso : ({ cls := .type "list", data := .seq vs.toArray } : Obj) = so at ha
  have inT : ∀ b, b ∈ cs.map (·.2) → s.heap.get? b = some { cls := .none, data := .fields #[] } ∧ K.lookup b = none := fun b h => by
    obtain ⟨p, hp, rfl⟩ := List.mem_map.mp h
    exact ⟨hT p hp, nT p hp⟩
  generalize hH : H0 K (cs.map (·.2)) a so (ns.map V.int) = H
  have three := H0_three K (cs.map (·.2)) a so (ns.map V.int)
  rw [hH] at three
  -- an object of another kind isn't tracked
  have clean : ∀ b o, s.heap.get? b = some o → o.data ≠ .fields #[] → (∀ v n, o.data ≠ .seq v n) → H b = none := fun b o e h1 h2 => by
    rcases three b with ⟨z, _⟩ | ⟨z, _, _⟩ | ⟨z, _⟩
    · rw [(inT b z).1] at e; cases e; exact absurd rfl h1
    · rw [z, ha, ← hso] at e; cases e; exact absurd rfl (h2 _ _)
    · exact z
  have low : ∀ b o, s.heap.get? b = some o → o.data ≠ .fields #[] → (∀ v n, o.data ≠ .seq v n) → (hidT s.heap H).get? b = some o := fun b o e h1 h2 => hidT_get e (clean b o e h1 h2)
  have lowNs : ∀ b m, s.heap.Ns b m → (hidT s.heap H).Ns b m := fun b m ⟨o, es, ep, e, d, q⟩ => ⟨o, es, ep, low b o e (by rw [d]; exact fun z => nomatch z) (by rw [d]; exact fun _ _ z => nomatch z), d, q⟩
  have kb : K.In (hidT s.heap H) := fun b o e => hidT_get (KX b o e) (by
    rcases three b with ⟨z, _⟩ | ⟨z, q, _⟩ | ⟨z, _⟩
    · rw [(inT b z).2] at e; cases e
    · rw [z, q] at e; cases e
    · exact z)
  have hok : HOk P w H s.heap := fun b u e => by
    rcases three b with ⟨z, q⟩ | ⟨z, _, q⟩ | ⟨q, _⟩
    · rw [e] at q; cases q; exact (inT b z).1
    · rw [e] at q; cases q; rw [z]; exact ⟨ha, by rw [List.length_map]; exact hlen, vs, 0, rv, by rw [ha, ← hso]⟩
    · rw [e] at q; cases q
  have tb : ∀ p ∈ cs, GxR.TabB (hidT s.heap H) mg p.1 p.2 := fun p hp => by
    refine ⟨?_, ?_, fun z => ?_⟩
    · obtain ⟨o, us, fl, t1, fg, t2, b1, tx, t3, e1, e2, e3, e4, rest⟩ := hC p hp
      exact ⟨o, us, fl, t1, fg, t2, b1, tx, t3, low _ _ e1 (by rw [e3]; intro z; cases z; simp at e4) (by rw [e3]; exact fun _ _ z => nomatch z), e2, e3, e4, rest⟩
    · obtain ⟨bm, ob, m1, m2, m3, m4, m5, m6⟩ := hbm
      refine ⟨bm, ob, m1, m2, fun z => ?_, fun z => ?_, low _ _ m3 (by rw [m6]; exact fun z => nomatch z) (by rw [m6]; exact fun _ _ z => nomatch z), m4, m5, m6⟩
      · obtain ⟨o, es, ep, e, d, _⟩ := hns
        rw [z, e] at m3; cases m3; rw [d] at m6; cases m6
      · rw [z, hT p hp] at m3; cases m3; cases m6
    · obtain ⟨o, es, ep, e, d, _⟩ := hns
      rw [z, hT p hp] at e; cases e; cases d
  have tabH : ∀ p ∈ cs, H p.2 = some (.tbl #[]) := fun p hp => by
    have hm : p.2 ∈ cs.map (·.2) := List.mem_map.mpr ⟨p, hp, rfl⟩
    rcases three p.2 with ⟨_, q⟩ | ⟨z, _, _⟩ | ⟨_, q⟩
    · exact q
    · have e := (inT _ hm).1
      rw [z, ha, ← hso] at e; cases e
    · exact absurd hm q
  have hS : SqL K H a (ns.map V.int) := by
    rcases three a with ⟨z, _⟩ | ⟨_, _, q⟩ | ⟨q, nt⟩
    · have e := (inT a z).1
      rw [ha, ← hso] at e; cases e
    · exact .inl (.inr ⟨so, q⟩)
    · cases e : K.lookup a with
      | none => rw [← hH] at q; unfold H0 at q; rw [if_neg nt, if_pos ⟨rfl, e⟩] at q; cases q
      | some o =>
        have e2 := KX a o e
        rw [ha, ← hso] at e2; cases e2
        exact .inr ⟨_, vs.toArray, _, e, rfl, rfl, rfl, by rw [List.size_toArray, lv]; exact hlen, by simpa using rv⟩
  have e0 : Env0 P w K mg (hidT s.heap H) callerA [] s H := ⟨rfl, ⟨kb, lowNs _ _ hns, ⟨mb, lowNs _ _ hbl, hbb⟩, let ⟨mc, q1, q2⟩ := hlim; ⟨mc, lowNs _ _ q1, q2⟩⟩, fun b o e => of_hidT e, Nat.le_of_eq (hidT_size _ _), trivial, (fun b z => nomatch z), hok, .of_eq hg⟩
  refine codeAny_mono (run_at (vs := [.ref a]) (us := [.ref a]) (Q := fun v _ => v = .bl true) (E := fun _ _ _ => False) F S hr e0 (hb s (.ref a)) (.cons rfl .nil) rfl fun cdv hrm => ?_) fun r s' h => ?_
  · obtain ⟨t, p1, p2⟩ := body _ H cdv kb (lowNs _ _ hns) tb tabH hS hrm
    refine ⟨t, p1, ?_⟩
    have e : (fun (_ : L2.St) (H' : Hp) => (fun (v : V) (_ : Hp) => v = V.bl true) V.non H') = fun _ _ => False := by
      funext _ _
      exact propext ⟨(fun z => nomatch z), fun z => z.elim⟩
    rw [e]
    exact p2
  · match r, h with
    | .ok (.ret u), h =>
      obtain ⟨v, H', os, bare, un, hok', r', q⟩ := h
      obtain rfl : v = .bl true := q
      obtain rfl : u = Value.bool true := r'
      have grown : ∀ p ∈ cs, ∃ more : Array Value, s'.heap.get? p.2 = some { cls := .none, data := .fields more } := fun p hp => by
        obtain ⟨more, z⟩ := un.tbls p.2 #[] (tabH p hp)
        exact ⟨_, hok' p.2 _ z⟩
      have kept : ∀ b o, b ∉ cs.map (·.2) → s.heap.get? b = some o → s'.heap.get? b = some o := fun b o nb e => by
        rcases three b with ⟨z, _⟩ | ⟨z, _, q⟩ | ⟨q, _⟩
        · exact absurd z nb
        · have z2 := hok' b _ (un.frzs b so _ q)
          rw [z, ha] at e
          cases e
          exact z2.1
        · exact un.keep b o e q (by intro z; cases z) (by intro z; cases z)
      refine ⟨rfl, ⟨fun b o e => ?_, fun b o e => ?_⟩, os, bare⟩
      · by_cases hm : b ∈ cs.map (·.2)
        · obtain ⟨p, hp, rfl⟩ := List.mem_map.mp hm
          obtain ⟨more, z⟩ := grown p hp
          rw [hT p hp] at e
          cases e
          exact .inr (.inl ⟨((hC p hp).tab (hT p hp)).isCodeTable, rfl, #[], more, rfl, by rw [Array.empty_append]; exact z⟩)
        · exact .inl (kept b o hm e)
      · by_cases hm : b ∈ cs.map (·.2)
        · obtain ⟨p, hp, rfl⟩ := List.mem_map.mp hm
          obtain ⟨more, z⟩ := grown p hp
          exact ⟨_, z⟩
        · exact ⟨o, kept b o hm e⟩
/-! ### repr of data -/
/-- repr(x), x data -/
theorem call_repr {X : Cx} (hg : X.A.guards = some []) (hu : X.A.units + 64 < cLine) : CallR X (.builtin "repr") (fun xs H Q => ∃ (a : Addr) (d : PyData), xs = [.ref a] ∧ Dp X.K H (.ref a) d ∧ d.showable = true ∧ d.hasDict = false ∧ d.depth < 63 ∧ d.shown.length ≤ sizeLine ∧ Q (.str d.shown) H) := by
  intro pins s σ H xs us Q I r h
  obtain ⟨a, d, rfl, hd, h1, h2, h3, h4, q⟩ := h
  obtain ⟨u, rfl, ru⟩ := vals1 r
  obtain ⟨as, rd⟩ := Dp.reads I d _ u hd ru
  cases (show u = Value.ref a from ru)
  refine repr_of_reads' rd h1 (fun e => by rw [h2] at e; cases e) hg (by omega) (fun _ _ e => e) (fun h' u tk hk => ?_) h4
  exact ⟨.str d.shown, H, I.kept (t' := _) hk, ⟨_, rfl⟩, q⟩
end Lg

set_option Elab.async false
set_option linter.all false
set_option maxRecDepth 100000
set_option maxHeartbeats 4000000
namespace Lg
open PySem PySem.Spec PyProof.Rows L2
/-- the code object and the table of the def named x -/
def TabOf (mg : Str → Option Value) (h : Heap) (x : Str) (p : Addr × Addr) : Prop :=
  ∃ (a : Addr) (o : Obj) (fd : FuncData), mg x = some (.ref a) ∧ h.get? a = some o ∧ o.data = .func fd ∧ fd.code = .ref p.1 ∧ PySem.W.CodeHd h p.1 p.2 ∧ h.get? p.2 = some { cls := .none, data := .fields #[] }
theorem TabOf.code {K : PySem.W.Frag} {mg : Str → Option Value} {h : Heap} {x : Str} {p : Addr × Addr} {f : Addr} {cl : Value} {dd : Option Addr} {fd : FuncData} {sl : Array (Option Value)} (T : TabOf mg h x p) (X : K.In h) (hf : mg x = some (.ref f)) (l : K.lookup f = some ⟨cl, dd, .func fd, sl⟩) : fd.code = .ref p.1 := by
  obtain ⟨a, o, fd', h1, h2, h3, h4, _⟩ := T
  rw [hf] at h1
  cases h1
  rw [X _ _ l] at h2
  cases h2
  cases h3
  exact h4
theorem no_tab {K : PySem.W.Frag} {h : Heap} {P : Addr} (X : K.In h) (hK : PySem.W.noTabs K = true) (e : h.get? P = some { cls := .none, data := .fields #[] }) : K.lookup P = none := by
  cases z : K.lookup P with
  | none => rfl
  | some o =>
    have z2 := X _ _ z
    rw [e] at z2
    cases z2
    exact absurd (show false = true from List.all_eq_true.mp hK (P, _) (PySem.W.mem_of_lookupK z)) Bool.false_ne_true
theorem walk_of {l : PySem.W.OpenLaw} {n k : Nat} {q : Program} {loose : List Str} {XP : (Str → Option Value) → Heap → Prop} {YP : World → Heap → Prop} {d : DefRec} {K : Params → PySem.W.Frag} {x qual par : Str} {st : Stmt} {N : List Str} (names : List Str)
    (hn : l.most = some n) (hn2 : n ≤ sizeLine) (hdf : d.params.defaults = []) (hr : Room (k + 1) callerA) (hrec : (names.all fun y => (recsOf q).any fun e => e.name == y) = true) (hK : ∀ w : World, PySem.W.noTabs (K w.params) = true) (hY : ∀ (w : World) (h : Heap), YP w h → (K w.params).In h) (S : FnScope N [par] (defScope st))
    (F : ∀ (w : World) (mg : Str → Option Value) (fa : Addr) (h : Heap) (tb : Str → Addr × Addr), (K w.params).In h → h.Ns mainGlobals mg → mg d.name = some (.ref fa) → (∀ y ∈ names, TabOf mg h y (tb y)) →
      ∃ fd : FuncData, Fun (K w.params) x qual st fa fd ∧ (∀ (s : Shared) (u : Value), BindsTo s fd ⟨[u], []⟩ [(par, u)]) ∧ ∀ (base : Heap) (H : Hp) (cdv : Value) (a : Addr) (ns : List Int) (s : Shared), (K w.params).In base → base.Ns mainGlobals mg → (∀ y ∈ names, GxR.TabB base mg (tb y).1 (tb y).2) → (∀ y ∈ names, H (tb y).2 = some (.tbl #[])) → ns.length ≤ n → (∀ z ∈ ns, Builtin.Int.intBits z ≤ 1048576) → SqL (K w.params) H a (ns.map V.int) → Room k (callerA.deeper (envOfC qual (defScope st) s.heap.objs.size fa cdv)) →
        ∃ t, PSs (cxOf CX0 l.prog w (K w.params) mg base N qual (defScope st) fa cdv callerA [] s H (fun _ _ _ => False)).nox (defBody st) t ∧ t { nx := fun _ _ => False, rt := fun v _ => v = .bl true } (start N [.ref a]) H) :
    PySem.W.WalkO q loose XP YP l.row.toRowW d [] (fun f vs => PySem.call f vs) := by
  refine Att.attach_callB hn hdf fun w s₀ s₁ mg mb fa o pm cd doc a vs ns G Y ho hd hcd hmg hobj hints hlen hbits hg => ?_
  have KX := hY w _ Y
  have ex : ∀ y : Str, ∃ p : Addr × Addr, y ∈ names → TabOf mg s₁.heap y p := fun y => by
    by_cases hy : y ∈ names
    · obtain ⟨dL, hm, hn1⟩ := List.any_eq_true.mp (List.all_eq_true.mp hrec y hy)
      have hn2 : dL.name = y := beq_iff_eq.mp hn1
      obtain ⟨a', o', fd', c', P', h1, h2, h3, h4, h5, h6⟩ := G.T.tab dL hm
      rw [hn2] at h1
      exact ⟨(c', P'), fun _ => ⟨a', o', fd', h1, h2, h3, h4, PySem.W.CodeHd.of h5 h6, h6.2⟩⟩
    · exact ⟨(0, 0), fun z => absurd z hy⟩
  have tbx : ∃ tb : Str → Addr × Addr, ∀ y ∈ names, TabOf mg s₁.heap y (tb y) := ⟨fun y => Classical.choose (ex y), fun y => Classical.choose_spec (ex y)⟩
  obtain ⟨tb, ht⟩ := tbx
  obtain ⟨fd, hF, hb, body⟩ := F w mg fa _ tb KX G.T.g hmg ht
  have cm : ∀ p ∈ names.map tb, ∃ y ∈ names, tb y = p := fun p hp => List.mem_map.mp hp
  refine law_at (cs := names.map tb) KX G.T.g G.T.b G.T.builtins G.T.nolimit hg (fun p hp => ?_) (fun p hp => ?_) (fun p hp => ?_) G.T.bmain hobj hints (Nat.le_trans hlen hn2) hr hF S hb fun base H cdv kb gn tB tH hS hrm => body base H cdv a ns s₁ kb gn (fun y hy => tB _ (List.mem_map_of_mem hy)) (fun y hy => tH _ (List.mem_map_of_mem hy)) hlen hbits hS hrm
  · obtain ⟨y, hy, rfl⟩ := cm p hp
    obtain ⟨_, _, _, _, _, _, _, _, z⟩ := ht y hy
    exact z
  · obtain ⟨y, hy, rfl⟩ := cm p hp
    obtain ⟨_, _, _, _, _, _, _, _, z⟩ := ht y hy
    exact no_tab KX (hK w) z
  · obtain ⟨y, hy, rfl⟩ := cm p hp
    obtain ⟨_, _, _, _, _, _, _, z, _⟩ := ht y hy
    exact z
end Lg

set_option Elab.async false
set_option linter.all false
set_option maxRecDepth 100000
set_option maxHeartbeats 4000000
/-! fillings, counts, clashes: the data -/
namespace Dt
open PySem PySem.Spec PyProof.Rows L2
def longer (hues : Nat) (f : List Int) : List (List Int) := (List.range hues).map fun (h : Nat) => f ++ [(h : Int)]
def fillL (hues : Nat) : Nat → List (List Int)
  | 0 => [[]]
  | n + 1 => (fillL hues n).flatMap (longer hues)
theorem fill_good {hues : Nat} : ∀ {n : Nat} {f : List Int}, f ∈ fillL hues n → f.length = n ∧ ∀ h ∈ f, 0 ≤ h ∧ h < (hues : Int)
  | 0, f, h => by
    cases List.mem_singleton.mp h
    exact ⟨rfl, fun _ z => nomatch z⟩
  | n + 1, f, h => by
    obtain ⟨g, hg, hf⟩ := List.mem_flatMap.mp h
    obtain ⟨k, hk, rfl⟩ := List.mem_map.mp hf
    obtain ⟨l, a⟩ := fill_good hg
    have hk := List.mem_range.mp hk
    refine ⟨by simp [l], fun z hz => ?_⟩
    rcases List.mem_append.mp hz with q | q
    · exact a z q
    · cases List.mem_singleton.mp q
      omega
theorem longer_len (hues : Nat) (f : List Int) : (longer hues f).length = hues := by simp [longer]
theorem flat_len {hues : Nat} : ∀ l : List (List Int), (l.flatMap (longer hues)).length = l.length * hues
  | [] => by simp
  | f :: r => by rw [List.flatMap_cons, List.length_append, longer_len, flat_len r, List.length_cons, Nat.succ_mul, Nat.add_comm]
theorem fill_len (hues : Nat) : ∀ n : Nat, (fillL hues n).length = hues ^ n
  | 0 => by simp [fillL]
  | n + 1 => by rw [fillL, flat_len, fill_len hues n, Nat.pow_succ]
theorem fill_goodF {many hues : Int} (m0 : 0 ≤ many) (h0 : 0 ≤ hues) {f : List Int} (h : f ∈ fillL hues.toNat many.toNat) : GoodF many hues f := by
  obtain ⟨a, b⟩ := fill_good h
  exact ⟨by omega, fun z hz => by have := b z hz; omega⟩
theorem pow_le_4096 {h n : Nat} (hh : h ≤ 4) (hn : n ≤ 6) : h ^ n ≤ 4096 := by
  have a : h ^ n ≤ 4 ^ n := Nat.pow_le_pow_left hh n
  have b : 4 ^ n ≤ 4 ^ 6 := Nat.pow_le_pow_right (by decide) hn
  have c : (4 : Nat) ^ 6 = 4096 := by decide
  omega
/-! ### counts -/
def bump (ns : List Int) (i : Nat) : List Int := ns.set i (ns.getD i 0 + 1)
def cnt0 (wds : List WD) : List Int := List.replicate (wds.length + 1) 0
def cntL (wds : List WD) (fss : List (List Int)) : List Int := fss.foldl (fun ns f => bump ns (broL f wds wds.length).length) (cnt0 wds)
theorem cnt_snoc (wds : List WD) (fss : List (List Int)) (f : List Int) : cntL wds (fss ++ [f]) = bump (cntL wds fss) (broL f wds wds.length).length := by
  unfold cntL
  rw [List.foldl_append]
  rfl
theorem bump_len (ns : List Int) (i : Nat) : (bump ns i).length = ns.length := by simp [bump]
theorem foldl_len (wds : List WD) : ∀ (fss : List (List Int)) (ns : List Int), (fss.foldl (fun ns f => bump ns (broL f wds wds.length).length) ns).length = ns.length
  | [], _ => rfl
  | f :: r, ns => by rw [List.foldl_cons, foldl_len wds r, bump_len]
theorem cnt_len (wds : List WD) (fss : List (List Int)) : (cntL wds fss).length = wds.length + 1 := by
  unfold cntL
  rw [foldl_len]
  simp [cnt0]
theorem bump_mem {ns : List Int} {i : Nat} {b : Int} (h : ∀ z ∈ ns, 0 ≤ z ∧ z ≤ b) (hb : 0 ≤ b) : ∀ z ∈ bump ns i, 0 ≤ z ∧ z ≤ b + 1 := fun z hz => by
  unfold bump at hz
  rcases List.mem_or_eq_of_mem_set hz with q | q
  · have := h z q; omega
  · subst q
    rw [List.getD_eq_getElem?_getD]
    cases e : ns[i]? with
    | none => simp; omega
    | some x => have := h x (List.mem_of_getElem? e); simp; omega
theorem foldl_mem (wds : List WD) : ∀ (fss : List (List Int)) (ns : List Int) (b : Int), 0 ≤ b → (∀ z ∈ ns, 0 ≤ z ∧ z ≤ b) → ∀ z ∈ fss.foldl (fun ns f => bump ns (broL f wds wds.length).length) ns, 0 ≤ z ∧ z ≤ b + fss.length
  | [], _, b, _, h => fun z hz => by have := h z hz; simp; omega
  | f :: r, ns, b, hb, h => fun z hz => by
    have := foldl_mem wds r (bump ns (broL f wds wds.length).length) (b + 1) (by omega) (bump_mem h hb) z hz
    rw [List.length_cons]
    omega
theorem cnt_mem (wds : List WD) (fss : List (List Int)) : ∀ z ∈ cntL wds fss, 0 ≤ z ∧ z ≤ fss.length := fun z hz => by
  have := foldl_mem wds fss (cnt0 wds) 0 (by omega) (fun z hz => by
    have := List.eq_of_mem_replicate hz
    omega) z hz
  omega
theorem bump_eq {ns : List Int} {i : Nat} {x : Int} (h : ns[i]? = some x) : bump ns i = ns.set i (x + 1) := by
  unfold bump
  rw [List.getD_eq_getElem?_getD, h]
  rfl
/-! ### clashes -/
def clB (a b : WD) : Bool := a.1.any fun p => decide (p ∈ b.1)
theorem clB_comm (a b : WD) : clB a b = clB b a := by
  rw [Bool.eq_iff_iff]
  unfold clB
  simp only [List.any_eq_true, decide_eq_true_eq]
  exact ⟨fun ⟨x, h1, h2⟩ => ⟨x, h2, h1⟩, fun ⟨x, h1, h2⟩ => ⟨x, h2, h1⟩⟩
def clAt (wds : List WD) (a : WD) (k : Nat) : Bool := match wds[k]? with
  | some wd => clB a wd
  | none => false
def clsL (wds : List WD) (a : WD) (i : Nat) : List Int := ((List.range i).filter (clAt wds a)).map fun (k : Nat) => (k : Int)
theorem clAt_of {wds : List WD} {a wd : WD} {k : Nat} (h : wds[k]? = some wd) : clAt wds a k = clB a wd := by
  unfold clAt
  rw [h]
theorem clsL_yes {wds : List WD} {a : WD} {i : Nat} (h : clAt wds a i = true) : clsL wds a (i + 1) = clsL wds a i ++ [(i : Int)] := by
  unfold clsL
  rw [List.range_succ, List.filter_append, List.map_append]
  simp [h]
theorem clsL_no {wds : List WD} {a : WD} {i : Nat} (h : clAt wds a i = false) : clsL wds a (i + 1) = clsL wds a i := by
  unfold clsL
  rw [List.range_succ, List.filter_append, List.map_append]
  simp [h]
theorem clsL_len (wds : List WD) (a : WD) (i : Nat) : (clsL wds a i).length ≤ i := by
  unfold clsL
  rw [List.length_map]
  have q := List.length_filter_le (clAt wds a) (List.range i)
  rw [List.length_range] at q
  exact q
theorem clsL_mem {wds : List WD} {a : WD} {i : Nat} {z : Int} (h : z ∈ clsL wds a i) : 0 ≤ z ∧ z < i := by
  unfold clsL at h
  obtain ⟨k, hk, rfl⟩ := List.mem_map.mp h
  have := List.mem_range.mp (List.mem_filter.mp hk).1
  omega
def clsAll (wds : List WD) : List (List Int) := wds.map fun wd => clsL wds wd wds.length
/-! ### fine data -/
theorem short_int (m : Nat) (h : m < 10 ^ 10) : PyData.intsShort 13 (.int (m : Int)) = true := by
  have e := (Nat.length_repr_le_iff (n := m) (by decide : 0 < 10)).mpr h
  show decide ((Str.ofString (Nat.repr m)).length ≤ 13) = true
  rw [decide_eq_true_eq, Str.ofString_eq_toList]
  have z : (Str.mk ((Nat.repr m).toList.map Char.toNat).toArray).length = (Nat.repr m).length := by
    show ((Nat.repr m).toList.map Char.toNat).toArray.size = _
    rw [List.size_toArray, List.length_map, String.length_toList]
  omega
theorem fine_intM {i : Int} (h0 : 0 ≤ i) (h1 : i < 5000) : Fine (.int i) 1 14 := by
  obtain ⟨n, rfl⟩ : ∃ n : Nat, i = n := ⟨i.toNat, by omega⟩
  have hn : n < 5000 := by omega
  have hl : n.log2 ≤ 12 := by
    by_cases e : n = 0
    · subst e; decide
    · have := (Nat.log2_lt e).mpr (show n < 2 ^ 13 by omega)
      omega
  refine ⟨rfl, by simp [PyData.depth], ?_, ?_, rfl, short_int n (by omega)⟩
  · simp only [PyData.weight]
    split
    · omega
    · have e : ((n : Int)).natAbs = n := by omega
      rw [e]
      omega
  · simp only [PyData.showable]
    have e : ((n : Int)).natAbs = n := by omega
    rw [e]
    exact decide_eq_true (by omega)
theorem fine_ints {ns : List Int} (h : ∀ z ∈ ns, 0 ≤ z ∧ z < 5000) : Fine (.list (ns.map .int)) 2 (ns.length * 15) :=
  (Fine.list (fineAll_map ns fun z hz => fine_intM (h z hz).1 (h z hz).2)).mono (by omega) (by omega)
def listsD (ls : List (List Int)) : PyData := .list (ls.map fun l => .list (l.map .int))
theorem fine_lists {ls : List (List Int)} (hl : ls.length ≤ 300) (h : ∀ l ∈ ls, l.length ≤ 20 ∧ ∀ z ∈ l, 0 ≤ z ∧ z < 5000) : Fine (listsD ls) 3 100000 := by
  refine (Fine.list (fineAll_map (n := 2) (w := 300) ls fun l hl => (fine_ints (h l hl).2).mono (Nat.le_refl _) (by have := (h l hl).1; omega))).mono (by omega) (by omega)
end Dt

set_option Elab.async false
set_option linter.all false
set_option maxRecDepth 100000
set_option maxHeartbeats 4000000
/-! elements of generator expressions: x in f[0] -/
namespace Gv
open PySem PySem.Spec PyProof.Rows L2
variable {X : Cx} {pins : List (Addr × Obj)} {σ : L2.St}
theorem reads_ints (h : Heap) : ∀ (ns : List Int) (us : List Value), Vals (ns.map V.int) us → ∃ as, ReadsAll h us (ns.map PyData.int) as
  | [], _, r => by cases r; exact ⟨_, .nil⟩
  | n :: q, _, r => by
    cases r with
    | cons r1 r2 =>
      obtain ⟨as, z⟩ := reads_ints h q _ r2
      obtain ⟨t, rfl⟩ := r1
      exact ⟨_, .cons (.int n t) z⟩
theorem canAll_ints : ∀ ns : List Int, PyData.canLayAll0 (ns.map PyData.int) = true
  | [] => rfl
  | n :: q => by simp only [List.map_cons, PyData.canLayAll0, PyData.canLay0, canAll_ints q, Bool.and_self]
theorem any_ints (n : Int) : ∀ ns : List Int, ((ns.map PyData.int).any fun y => PyData.eqv y (.int n)) = decide (n ∈ ns)
  | [] => by simp
  | m :: q => by
    rw [List.map_cons, List.any_cons, any_ints n q]
    by_cases e : m = n
    · subst e; simp [PyData.eqv]
    · have e2 : ¬ n = m := fun z => e z.symm
      simp [PyData.eqv, e, e2]
theorem elt_in0 {f x : Str} {scope : Scope} {P fa pa : Addr} {H1 : Hp} {xs ys zs : List V} {ns : List Int} {j jj : Nat} {p1 p2 p3 p4 p5 : Pos} (hk : scope.kind = .function) (hx : scope.names.lookup x = some .local) (hf : scope.names.lookup f = some .free)
    (hcl : (cloFrom X.env.cells scope.names []).lookup f = some ((X.env.cells.lookup f).getD 0)) (hj : X.N[j]? = some f) (hkf : X.env.kindOf f = some .cell) (hσ : σ[j]? = some (some (.ref fa))) (hq : SqT X.K H1 fa (.ref pa :: zs)) (hp : SqT X.K H1 pa (ns.map V.int)) (hT : GxR.TabG H1 P) (hu : X.A.units + 64 < cLine)
    (hv : ∀ (i : Nat) x0, xs[i]? = some x0 → ∃ (n : Int), x0 = .int n ∧ ys[i]? = some (.bl (decide (n ∈ ns)))) (hdf : (f == ("__debug__" : Str)) = false := by decide) (hdx : (x == ("__debug__" : Str)) = false := by decide) (hcf : (f == ("__classdict__" : Str)) = false := by decide) :
    EltV X pins σ scope x (.Compare (.Name x p1) [.In] [.Subscript (.Name f p2) (.Constant (.int 0) jj p3) p4] p5) P H1 xs ys := by
  intro s1 t C code bi A' E' i x0 u m I hA hU hx0 ru hn hm hkp
  obtain ⟨n, rfl, hy⟩ := hv i x0 hx0
  obtain ⟨tk, rfl⟩ := (show ∃ t, u = Value.int n t from ru)
  obtain ⟨ps, hP, _⟩ := hT
  have tabS : s1.heap.get? P = some { cls := .none, data := .fields ps } := I.hok P _ hP
  obtain ⟨m1, _, hl⟩ := I.loc
  obtain ⟨uf, rf, lk⟩ := hl j f _ hj hσ (.inr (.inl hkf))
  cases (show uf = Value.ref fa from rf)
  obtain ⟨c, hc, ic⟩ : ∃ c, X.env.cells.lookup f = some c ∧ s1.heap.IsCell c (some (.ref fa)) := by
    rcases lk with ⟨z, _⟩ | ⟨_, c, hc, ic⟩
    · rw [hkf] at z; cases z
    · exact ⟨c, hc, ic⟩
  have ic2 : t.heap.IsCell c (some (.ref fa)) := by
    obtain ⟨o, ho, hd⟩ := ic
    refine ⟨o, hkp c o (fun z => ?_) ho, hd⟩
    rw [z, tabS] at ho
    cases ho
    cases hd
  have tup2 : ∀ {a : Addr} {its : Array Value}, IsTup s1.heap a its → IsTup t.heap a its := fun {a its} pl => by
    obtain ⟨o, ho, hcl', nn, hd⟩ := pl
    refine ⟨o, hkp a o (fun z => ?_) ho, hcl', nn, hd⟩
    rw [z, tabS] at ho
    cases ho
    cases hd
  obtain ⟨its, rv, pl, hz⟩ := I.tuple hq
  have pl2 := tup2 pl
  obtain ⟨its2, rv2, plb, hz2⟩ := I.tuple hp
  have plb2 := tup2 plb
  have clf : (genEnv scope (cloFrom X.env.cells scope.names []) C code bi X.env).cells.lookup f = some c := by
    show (cloFrom X.env.cells scope.names []).lookup f = some c
    rw [hcl, hc]
    rfl
  have hat0 : atI (.ref pa :: zs) 0 = some (.ref pa) := atI_nat (j := 0) rfl
  obtain ⟨j2, h1, h2, h3, h4, h5⟩ := atI_get hat0
  obtain ⟨wv, ew, rw'⟩ := rv.get h2
  cases (show wv = Value.ref pa from rw')
  have hlen := rv.length
  refine wpAny_Compare1 ?_
  refine wpAny_Name (wpAny_loadName_local hk hx hn hm ?_) hdx
  refine Subscript_ (wpAny_Name (wpAny_loadName_free hk hf clf ic2 ?_ hcf) hdf)
  refine wpAny_Constant_int ?_
  refine subscriptTail_builtinR (x := Value.ref pa) (show IsTup { t with toks := t.toks + 1 }.heap fa its.toArray from pl2).typeIs slot_tuple_getitem.lookup
    (getItem_tuple (j := j2) (show IsTup { t with toks := t.toks + 1 }.heap fa its.toArray from pl2) (by decide) (by decide) (by rw [List.size_toArray, ← hlen]; exact h1) (by simpa using ew) ⟨rfl, ?_⟩) (by rfl)
  obtain ⟨as, ra⟩ := reads_ints t.heap ns its2 rv2
  obtain ⟨o, ho, hcl', nn, hd⟩ := plb2
  refine PySem.SeqAt.in_tuple_reads (xs := ns.map PyData.int) (d := .int n) (.tuple (h := t.heap) ho hcl' hd (by simpa using ra)) (.int n tk) (canAll_ints ns) rfl ?_ ⟨⟨_, hy, ?_⟩, GxR.keeps_tok _ _⟩
  · have : min (PyData.depthAll (ns.map PyData.int)) (PyData.int n).depth ≤ 1 := Nat.le_trans (Nat.min_le_right _ _) (by simp [PyData.depth])
    omega
  · rw [any_ints]
    rfl
end Gv

set_option Elab.async false
set_option linter.all false
set_option maxRecDepth 100000
set_option maxHeartbeats 4000000
/-! comprehensions with two fors: the loops; an item of a list, by values -/
namespace Cp
open PySem PySem.Spec PyProof.Rows L2
theorem lc2_list {K : PySem.W.Frag} {a : Addr} {xs : List V} {g : TG} {tt : TT} {B : L2.St → Hp → (Hp → Prop) → Prop} {vs : List Nat} {σ : L2.St} {H1 : Hp} {D : Addr} {Qd : Hp → Prop} (Pv : Nat → Hp → Prop) (h0 : Pv 0 (upd H1 D (.lst []))) (hl : ∀ i H, i ≤ xs.length → Pv i H → SqL K H a xs)
    (hs : ∀ i x H, xs[i]? = some x → Pv i H → g x (wipe σ vs) H fun σ2 H2 => wipe σ2 vs = wipe σ vs ∧ tt σ2 H2 fun b H3 => if b = true then B σ2 H3 (Pv (i + 1)) else Pv (i + 1) H3) (hd : ∀ H, Pv xs.length H → Qd H) :
    ∃ W : Nat → Nat → Hp → Prop, (∃ m, W 0 m (upd H1 D (.lst []))) ∧ ∀ i m H, W i m H →
      ((Itl K a).stop i H ∧ Qd H) ∨ ((Itl K a).go i H ∧ ∃ Nx : Hp → Prop, (∀ H', Nx H' → ∃ m', m' < m ∧ W (i + 1) m' H') ∧ ∀ x H', (Itl K a).yld i H x H' → g x (wipe σ vs) H' fun σ2 H2 => wipe σ2 vs = wipe σ vs ∧ tt σ2 H2 fun b H3 => if b = true then B σ2 H3 Nx else Nx H3) := by
  refine ⟨fun i m H => m = xs.length - i ∧ i ≤ xs.length ∧ Pv i H, ⟨xs.length, by simp, Nat.zero_le _, h0⟩, ?_⟩
  rintro i m H ⟨rfl, hi, p⟩
  have q := hl i H hi p
  by_cases hlt : i < xs.length
  · refine .inr ⟨⟨xs, xs[i], q, by simp [hlt]⟩, Pv (i + 1), fun H' p' => ⟨xs.length - (i + 1), by omega, rfl, hlt, p'⟩, fun x H' y => ?_⟩
    obtain ⟨e, y⟩ := y
    subst e
    exact hs i x _ (y xs q) p
  · have e : i = xs.length := by omega
    subst e
    exact .inl ⟨⟨xs, q, by simp⟩, hd H p⟩
theorem lcin_range {lo : Int} {n : Nat} {g : TG} {tt : TT} {te : TE} {vs : List Nat} {σ : L2.St} {H4 : Hp} {D : Addr} {Qd : Hp → Prop} (Pv : Nat → Hp → Prop) (h0 : Pv 0 H4)
    (hs : ∀ i H, i < n → Pv i H → g (.int (lo + i)) (wipe σ vs) H fun σ2 H2 => wipe σ2 vs = wipe σ vs ∧ tt σ2 H2 fun b H3 =>
      if b = true then te σ2 H3 fun y H4 => ∃ acc, H4 D = some (.lst acc) ∧ acc.length < sizeLine ∧ Pv (i + 1) (upd H4 D (.lst (acc ++ [y]))) else Pv (i + 1) H3) (hd : ∀ H, Pv n H → Qd H) :
    ∃ W : Nat → Nat → Hp → Prop, (∃ m, W 0 m H4) ∧ ∀ i m H, W i m H →
      ((Itr lo n).stop i H ∧ Qd H) ∨ ((Itr lo n).go i H ∧ ∃ Nx : Hp → Prop, (∀ H', Nx H' → ∃ m', m' < m ∧ W (i + 1) m' H') ∧ ∀ x H', (Itr lo n).yld i H x H' → g x (wipe σ vs) H' fun σ2 H2 => wipe σ2 vs = wipe σ vs ∧ tt σ2 H2 fun b H3 =>
        if b = true then te σ2 H3 fun y H4 => ∃ acc, H4 D = some (.lst acc) ∧ acc.length < sizeLine ∧ Nx (upd H4 D (.lst (acc ++ [y]))) else Nx H3) := by
  refine ⟨fun i m H => m = n - i ∧ i ≤ n ∧ Pv i H, ⟨n, by simp, Nat.zero_le _, h0⟩, ?_⟩
  rintro i m H ⟨rfl, hi, p⟩
  by_cases hlt : i < n
  · refine .inr ⟨hlt, Pv (i + 1), fun H' p' => ⟨n - (i + 1), by omega, rfl, hlt, p'⟩, fun x H' y => ?_⟩
    obtain ⟨e, y⟩ := y
    subst e y
    exact hs i _ hlt p
  · have e : i = n := by omega
    subst e
    exact .inl ⟨Nat.le_refl _, hd H p⟩
/-- xs[k], k from 0 on -/
def rIxN (K : PySem.W.Frag) : V → V → Hp → VK → Prop := fun x y H Q => ∃ (p : Addr) (xs : List V) (k : Nat) (v : V), x = .ref p ∧ y = .int k ∧ SqL K H p xs ∧ xs[k]? = some v ∧ Q v H
theorem pget_list {X : Cx} : PGet X (rIxN X.K) := by
  intro pins s σ H o i ov iv Q I ro ri h
  obtain ⟨p, xs, k, z, rfl, rfl, hq, he, q⟩ := h
  cases ro
  obtain ⟨t, rfl⟩ := ri
  obtain ⟨its, r, pl, hz⟩ := I.list hq
  obtain ⟨w, ew, rw'⟩ := r.get he
  have hl := r.length
  have hn := line63
  have hk := (List.getElem?_eq_some_iff.mp he).1
  exact wpAny_getItem_list pl.isList (by omega) (by omega) (by simpa using ew) ⟨z, H, I, rw', q⟩
end Cp

set_option Elab.async false
set_option linter.all false
set_option maxRecDepth 100000
set_option maxHeartbeats 4000000
/-! all(..) and any(..) of a generator expression: any source, any target, any element -/
namespace Gx
open PySem PySem.Spec PyProof.Rows L2 GenW
/-- the element's context: a frame of its own over the def's -/
abbrev gcx (X : Cx) (A : Around) (s : Shared) (H : Hp) (cenv : Env) (fp : List Addr) : Cx :=
  { X with A := A, s_0 := s, H_0 := H, env := cenv, outer := X.stack, stack := cenv :: X.stack, ex := fp, fn := fun _ => false, pn := [], xe := fun _ _ => False }
structure GenK (scope : Scope) : Prop where
  co : scope.isCoroutine = false
  cell : ∀ y ∈ scope.names, y.2 ≠ .cell
  dot : scope.names.lookup (".0" : Str) = some NameKind.local
/-- nothing but the generators' own table has turned -/
structure Kept (s s' : Shared) : Prop where
  os : s'.os = s.os
  bare : AllBare s'.gens
  keep : ∀ b o, s.heap.get? b = some o → s'.heap.get? b = some o
theorem Inv.keptS {X : Cx} {pins : List (Addr × Obj)} {σ : L2.St} {H : Hp} {s s' : Shared} (I : Inv X pins σ H s) (k : Kept s s') : Inv X pins σ H s' :=
  I.call' (ch := []) k.os (Un.kept k.keep) (I.hok.kept k.keep) k.bare fun b z => by simp at z
section
variable {X : Cx} {pins : List (Addr × Obj)} {σ : L2.St} {H : Hp} {s : Shared}
theorem gen_start {scope : Scope} {own : List (Str × Nat)} {fp : List Addr} {code : Value} {A : Around} {s' : Shared} {m : Str → Option Value} (I : Inv X pins σ H s) (ok : BlkOk X.N X.env.scope scope own) (S : GenK scope) (hN : X.N.Nodup) (hfp : ∀ b ∈ fp, FpOk X pins H b ∧ b < s.heap.objs.size)
    (hA : A.handled = none) (hfr : A.frames = some (genEnv scope (cloFrom X.env.cells scope.names []) s.heap.objs.size code builtinsNs X.env :: X.stack))
    (k : Kept s s') (hns : s'.heap.Ns s.heap.objs.size m) :
    Inv (gcx X A s H (genEnv scope (cloFrom X.env.cells scope.names []) s.heap.objs.size code builtinsNs X.env) fp) [] (wipe σ (own.map (·.2))) H s' := by
  have hfree : ∀ y ∈ scope.names, y.2 = .free → ∃ c, X.env.cells.lookup y.1 = some c := fun y hy e => by
    rcases ok.free y hy e with k | k
    · exact I.ok.has _ (.inl k)
    · exact I.ok.has _ (.inr k)
  generalize hcenv : genEnv scope (cloFrom X.env.cells scope.names []) s.heap.objs.size code builtinsNs X.env = cenv at hfr
  have hL : cenv.locals = s.heap.objs.size := by rw [← hcenv]; rfl
  have hcl : cenv.cells = cloFrom X.env.cells scope.names [] := by rw [← hcenv]; rfl
  have hsc : cenv.scope = scope := by rw [← hcenv]; rfl
  have mem : ∀ {y c}, cenv.cells.lookup y = some c → X.env.cells.lookup y = some c ∧ c < s.heap.objs.size := fun {y c} e => by
    rw [hcl] at e
    rcases cloFrom_mem (PySem.mem_of_lookup e) with hm | ⟨h1, rfl⟩
    · cases hm
    · obtain ⟨c, hc⟩ := hfree _ h1 rfl
      rw [hc]
      obtain ⟨w, z⟩ := I.cell _ _ hc
      exact ⟨rfl, z.lt⟩
  have look : ∀ {y}, scope.names.lookup y = some .free → ∃ c, cenv.cells.lookup y = some c ∧ X.env.cells.lookup y = some c := fun {y} hl => by
    have hy : (y, NameKind.free) ∈ scope.names := PySem.mem_of_lookup hl
    obtain ⟨c', e'⟩ := mem_lookup (cloFrom_has (cells := X.env.cells) (acc := []) hy)
    rw [← hcl] at e'
    exact ⟨c', e', (mem e').1⟩
  have okB : (gcx X A s H cenv fp).Ok := by
    refine ⟨I.ok.mod, by show cenv.scope.kind = _; rw [hsc]; exact ok.kind, by show cenv.globals = _; rw [← hcenv]; exact I.ok.glob, by show cenv.builtins = _; rw [← hcenv]; rfl, by show s.heap.objs.size ≤ cenv.locals; rw [hL]; exact Nat.le_refl _,
      fun y z c e1 e2 => I.ok.inj y z c (mem e1).1 (mem e2).1, fun y hy => ?_, (fun y c z e => nomatch z), fun _ => hA, hfr, .inr ⟨rfl, ?_⟩, fun b hb => ⟨?_, fun y c e z => ?_⟩, I.bs, Nat.le_trans I.ok.bsz I.sz, fun b o e hb => ?_, fun b hb z => ?_, I.stack, I.stkFree⟩
    · show ∃ c, cenv.cells.lookup y = some c
      rcases hy with hy | hy
      · have e : scope.names.lookup y = some .cell := by rw [← hsc]; exact hy
        exact absurd rfl (S.cell _ (PySem.mem_of_lookup e))
      · have e : scope.names.lookup y = some .free := by rw [← hsc]; exact hy
        obtain ⟨c, h1, _⟩ := look e
        exact ⟨c, h1⟩
    · show cenv.frame = some cenv.locals
      rw [← hcenv]
      rfl
    · show b ≠ cenv.locals
      rw [hL]; exact Nat.ne_of_lt (hfp b hb).2
    · exact (hfp b hb).1.2.2.2.2.1 y c (mem e).1 z
    · rcases (hfp b hb).1.2.2.2.1 with z | z
      · exact I.ok.noex b o e z
      · exact absurd (Nat.lt_of_lt_of_le (Heap.lt_size e) (Nat.le_trans I.ok.bsz z)) (Nat.lt_irrefl _)
    · rcases List.mem_cons.mp (I.stkSub b z) with z | z
      · exact (hfp b hb).1.2.1 z
      · exact (hfp b hb).1.2.2.1 z
  refine ⟨okB, k.os, k.bare, Un.kept k.keep, ⟨m, ?_, fun i y av e1 e2 e3 => ?_⟩, fun y c e => ?_, ?_, fun y c e => I.freeC y c (mem e).1, fun p hp => ?_, I.hok.kept k.keep, by rw [wipe_length]; exact I.len⟩
  · show Heap.Ns _ cenv.locals _
    rw [hL]
    exact hns
  · obtain ⟨e2, hne⟩ := wipe_some e2
    have hfr : scope.names.lookup y = some .free := by
      have key : ∀ k, scope.names.lookup y = some k → k = .local ∨ k = .cell ∨ k = .free → scope.names.lookup y = some .free := fun k e hk' => by
        have no : ¬ (k = .local ∨ k = .cell) := fun hh => by
          rcases ok.own _ (PySem.mem_of_lookup e) hh with e' | e'
          · obtain ⟨p, hp, hpy⟩ := List.mem_map.mp e'
            have e3 := ok.ix p hp
            have : p.1 = y := hpy
            rw [this] at e3
            exact hne (List.mem_map.mpr ⟨p, hp, nodup_ix hN e3 e1⟩)
          · exact e' (List.mem_of_getElem? e1)
        rcases hk' with rfl | rfl | rfl
        · exact absurd (.inl rfl) no
        · exact absurd (.inr rfl) no
        · exact e
      have e3 : Vis cenv.scope y := e3
      rw [hsc] at e3
      rcases e3 with e3 | e3 | e3
      · exact key _ e3 (.inl rfl)
      · exact key _ e3 (.inr (.inl rfl))
      · exact key _ e3 (.inr (.inr rfl))
    obtain ⟨m2, hn, hl⟩ := I.loc
    have hvis : Vis X.env.scope y := (ok.free _ (PySem.mem_of_lookup hfr) rfl).elim (fun k => .inr (.inl k)) (fun k => .inr (.inr k))
    obtain ⟨w, r, q⟩ := hl i y av e1 e2 hvis
    refine ⟨w, r, .inr ⟨.inr (by show cenv.scope.names.lookup y = _; rw [hsc]; exact hfr), ?_⟩⟩
    obtain ⟨c, h1, h2⟩ := look hfr
    rcases q with ⟨k, _⟩ | ⟨_, c', e', z⟩
    · have k : X.env.scope.names.lookup y = some .local := k
      rcases ok.free _ (PySem.mem_of_lookup hfr) rfl with k' | k' <;> rw [show X.env.scope.names.lookup y = _ from k'] at k <;> cases k
    · rw [h2] at e'; cases e'
      exact ⟨c, h1, z.keeps k.keep⟩
  · obtain ⟨w, z⟩ := I.cell y c (mem e).1
    exact ⟨w, z.keeps k.keep⟩
  · show H cenv.locals = none
    rw [hL]; exact I.hok.fresh (Nat.le_refl _)
  · exact absurd (show p ∈ ([] : List (Addr × Obj)) ++ [] from hp) (by simp)
end
end Gx

set_option Elab.async false
set_option linter.all false
set_option maxRecDepth 100000
set_option maxHeartbeats 4000000
namespace Gx
open PySem PySem.Spec PyProof.Rows L2 GenW
/-- the end of the walk -/
def RG (X : Cx) (pz : List (Addr × Obj)) (σ0 : L2.St) (QT : Hp → Prop) : GenEnd := fun _ _ r s₁ => ((r = .ok (.ret .none) ∨ r = .ok .next) ∧ ∃ H', Inv X pz σ0 H' s₁ ∧ QT H') ∨ ∃ e, r = .error e ∧ False
/-- a truth is handed out: by d it goes on -/
def YG (X : Cx) (pz : List (Addr × Obj)) (d : Bool) (QF : Hp → Prop) : Protocol := fun _ _ v s kap => ∃ (c : Bool) (σ' : L2.St) (H' : Hp), v = .bool c ∧ Inv X pz σ' H' s ∧ (if c = d then ∀ s', Kept s s' → kap (.send .none) s' else QF H')
/-- the source's turns, the target, the tests, the element -/
def Turns (J : It) (g : TG) (tt : TT) (te : TE) (vs : List Nat) (σ : L2.St) (d : Bool) (QT QF : Hp → Prop) (W : Nat → Nat → Hp → Prop) : Prop := ∀ i m H, W i m H →
  (J.stop i H ∧ QT H) ∨ (J.go i H ∧ ∃ Nx : Hp → Prop, (∀ H', Nx H' → ∃ m', m' < m ∧ W (i + 1) m' H') ∧ ∀ x H', J.yld i H x H' → g x (wipe σ vs) H' fun σ2 H2 => wipe σ2 vs = wipe σ vs ∧ tt σ2 H2 fun b H3 =>
    if b = true then te σ2 H3 fun y H4 => ∃ c, y = .bl c ∧ (if c = d then Nx H4 else QF H4) else Nx H3)
section
variable {X : Cx} {A B : Around} {s3 : Shared} {H3 : Hp} {cenv : Env} {fp : List Addr} {σ : L2.St}
theorem seg_loop {elt tg iter : Expr} {ifs : List Expr} {scope : Scope} {pos : Pos} {it : Addr} {J : It} {tn : Nat → Heap → Prop} {g : TG} {tt : TT} {te : TE} {vs : List Nat} {d : Bool} {QT QF : Hp → Prop} {W : Nat → Nat → Hp → Prop} {pz : List (Addr × Obj)}
    (T : Turn X.prog X.w X.K tg J fp it tn) (hc : X.calm = true) (hov : B.over (.compLoop (.GeneratorExp elt [⟨tg, iter, ifs, 0⟩] scope pos) 0 (.ref it) .none cenv) [] = A) (hco : cenv.scope.isCoroutine = false) (hpz : ∀ p ∈ pz, p.1 ∉ fp)
    (pg : PG (gcx X A s3 H3 cenv fp) tg g) (pt : PTs (gcx X A s3 H3 cenv fp) ifs tt) (pe : PE (gcx X A s3 H3 cenv fp) elt te) (turn : Turns J g tt te vs σ d QT QF W) :
    ∀ (m n i : Nat) (s₀ s : Shared) (H : Hp), m < n → Inv (gcx X A s3 H3 cenv fp) pz (wipe σ vs) H s → tn i s.heap → (∀ b ∈ fp, H b = none) → W i m H →
      Seg (model X.prog X.w) B (RG (gcx X A s3 H3 cenv fp) pz (wipe σ vs) QT) (YG (gcx X A s3 H3 cenv fp) pz d QF) n s₀
        (.compLoop (.GeneratorExp elt [⟨tg, iter, ifs, 0⟩] scope pos) 0 (.ref it) .none cenv)
        ((model X.prog X.w).den (.compLoop (.GeneratorExp elt [⟨tg, iter, ifs, 0⟩] scope pos) 0 (.ref it) .none cenv)) [] s := by
  have stat : ∀ {σ' : L2.St} {H' : Hp} {s' : Shared}, Inv (gcx X A s3 H3 cenv fp) pz σ' H' s' → (∀ b ∈ fp, H' b = none) → ∀ b ∈ fp, FpOk (gcx X A s3 H3 cenv fp) pz H' b := fun {σ' H' s'} I' hn b hb =>
    ⟨hn b hb, (I'.ok.exf b hb).1, I'.ok.exfs b hb, .inl hb, fun x c e => (I'.ok.exf b hb).2 x c e, fun p hp z => hpz p (by simpa using hp) (by rw [z]; exact hb)⟩
  intro m
  induction m using Nat.strongRecOn with
  | ind m ih =>
    intro n i s₀ s H hmn I st nf w
    show Seg _ B _ _ _ s₀ _ ((compTurn (.GeneratorExp elt [⟨tg, iter, ifs, 0⟩] scope pos) 0 (.ref it) .none cenv).onRaise (leaving cenv)) [] s
    rw [compTurn_gen, Sem.onRaise_eq_wrap]
    refine seg_bind_wrap (wpAny_standAt ?_)
    rcases turn i m H w with ⟨stop, qq⟩ | ⟨go, Nx, hNx, step⟩
    · refine seg_bind_wrap ?_
      rw [hov]
      refine wpAny_mono (T.done (gcx X A s3 H3 cenv fp) rfl rfl rfl hc i pz s _ H (fun _ _ => False) I (stat I nf) st stop) (fun r s6 hx => ?_) fun _ _ e => e.elim
      obtain ⟨rfl, I6⟩ := hx
      exact seg_end (.ok .next) (.inl ⟨.inr rfl, H, I6, qq⟩)
    · refine seg_bind_wrap ?_
      rw [hov]
      refine wpAny_mono (T.item (gcx X A s3 H3 cenv fp) rfl rfl rfl hc i pz s _ H (fun _ _ => False) I (stat I nf) st go) (fun r s6 hx => ?_) fun _ _ e => e.elim
      obtain ⟨u, rfl, h6⟩ := hx
      refine seg_bind_wrap ?_
      rw [hov]
      refine wpAny_mono h6 (fun _ s7 hx => ?_) fun _ _ e => e.elim
      obtain ⟨x, H7, I7, r7, y7, st7, n7⟩ := hx
      have I7' := I7.pinned (stat I7 n7) (T.obj _ _ st7)
      refine seg_bind_wrap ?_
      rw [hov]
      refine wpAny_mono (pg.run _ s7 _ H7 x u _ I7' r7 (step x H7 y7)) (fun _ s8 hx => ?_) fun _ _ e => e.elim
      obtain ⟨σ8, H8, I8, hw8, q8⟩ := hx
      refine seg_bind_wrap ?_
      rw [hov]
      refine wpAny_mono (pt.run _ s8 σ8 H8 _ I8 q8) (fun b s9 hx => ?_) fun _ _ e => e.elim
      obtain ⟨H9, I9, q9⟩ := hx
      -- the turn's end
      have fin : ∀ {s' : Shared} {H' : Hp} {m' : Nat}, Inv (gcx X A s3 H3 cenv fp) (pz ++ pinsAt fp s7.heap) σ8 H' s' → Inv (gcx X A s3 H3 cenv fp) pz (wipe σ vs) H' s' ∧ tn (i + 1) s'.heap ∧ ∀ b ∈ fp, H' b = none := fun {s' H' m'} I' => by
        have pin' : ∀ b ∈ fp, ∀ o, s7.heap.get? b = some o → s'.heap.get? b = some o ∧ H' b = none := fun b hb o e =>
          let z := I'.pin (b, o) (List.mem_append_right _ (List.mem_append_right _ (mem_pinsAt hb e)))
          ⟨z.1, z.2.1⟩
        have hl : (wipe σ vs).length = σ8.length := by rw [← hw8, wipe_length]
        refine ⟨(I'.unpinned (pins := pz)).weak hl (fun j v e => ?_), T.keep _ _ _ st7 fun b hb o e => (pin' b hb o e).1, fun b hb => ?_⟩
        · rw [← hw8] at e
          exact (wipe_some e).1
        · obtain ⟨o, e, _⟩ := T.obj _ _ st7 b hb
          exact (pin' b hb o e).2
      cases b with
      | false =>
        simp only [Bool.false_eq_true, if_false] at q9 ⊢
        obtain ⟨m', hm, w'⟩ := hNx H9 q9
        obtain ⟨f1, f2, f3⟩ := fin (m' := m') I9
        exact seg_again rfl (ih m' hm n (i + 1) s₀ _ H9 (by omega) f1 f2 f3 w')
      | true =>
        simp only [if_true] at q9 ⊢
        have hy : ∀ v, yieldOut cenv v = yieldValue v := fun v => by simp only [yieldOut, hco, Bool.false_eq_true, if_false]
        simp only [hy]
        rw [Sem.bind_eq_wrap', Sem.bind_eq_wrap', Sem.wrap_wrap, Sem.wrap_wrap]
        refine seg_wrap ?_
        rw [hov]
        refine wpAny_mono (pe.run _ s9 σ8 H9 _ I9 q9) (fun z s10 hx => ?_) fun _ _ e => e.elim
        obtain ⟨yv, H10, I10, r10, c, rfl, nx⟩ := hx
        cases (show z = Value.bool c from r10)
        obtain ⟨n, rfl⟩ : ∃ n', n = n' + 1 := ⟨n - 1, by omega⟩
        refine seg_at (seg_yield rfl rfl rfl ⟨c, σ8, H10, rfl, I10.unpinned, ?_⟩)
        by_cases hcd : c = d
        · rw [if_pos hcd] at nx ⊢
          intro s'' hk
          obtain ⟨m', hm, w'⟩ := hNx H10 nx
          obtain ⟨f1, f2, f3⟩ := fin (m' := m') (Inv.keptS I10 hk)
          exact seg_again rfl (ih m' hm n (i + 1) s'' s'' H10 (by omega) f1 f2 f3 w')
        · rw [if_neg hcd] at nx ⊢
          exact nx
theorem seg_start {elt tg iter : Expr} {ifs : List Expr} {scope : Scope} {pos : Pos} {it : Addr} {J : It} {tn : Nat → Heap → Prop} {R : GenEnd} {Y : Protocol} {n : Nat} {s₀ s : Shared}
    (T : Turn X.prog X.w X.K tg J fp it tn) (st : tn 0 s.heap)
    (loop : Seg (model X.prog X.w) B R Y n s₀ (.compLoop (.GeneratorExp elt [⟨tg, iter, ifs, 0⟩] scope pos) 0 (.ref it) .none cenv) ((model X.prog X.w).den (.compLoop (.GeneratorExp elt [⟨tg, iter, ifs, 0⟩] scope pos) 0 (.ref it) .none cenv)) [] s) :
    Seg (model X.prog X.w) B R Y n s₀ (.compStart (.GeneratorExp elt [⟨tg, iter, ifs, 0⟩] scope pos) 0 (.ref it) .none cenv) ((model X.prog X.w).den (.compStart (.GeneratorExp elt [⟨tg, iter, ifs, 0⟩] scope pos) 0 (.ref it) .none cenv)) [] s := by
  show Seg _ B _ _ _ s₀ _ ((compStart (.GeneratorExp elt [⟨tg, iter, ifs, 0⟩] scope pos) 0 (.ref it) .none cenv).onRaise (leaving cenv)) [] s
  unfold compStart
  rw [Sem.onRaise_eq_wrap]
  show Seg _ B _ _ _ s₀ _ ((ask >>= _).wrap _ _ _ _) [] s
  refine seg_bind_wrap (wpAny_askSetting ?_)
  split
  · exact seg_again rfl loop
  · first
      | exact seg_bind_wrap (wpAny_rule (seg_bind_wrap (wpAny_standAt (seg_bind_wrap (T.self _ 0 s _ _ st (seg_again rfl loop))))))
      | (refine seg_bind_wrap (wpAny_rule ?_); show Seg _ B _ _ _ s₀ _ ((standAt iter.pos >>= _).wrap _ _ _ _) [] s; exact seg_bind_wrap (wpAny_standAt (seg_bind_wrap (T.self _ 0 s _ _ st (seg_again rfl loop)))))
end
/-- the consumer: all's loop by d = true, any's by d = false -/
def loopId (d : Bool) : String := if d then "all.loop" else "any.loop"
theorem walk_loop {X : Cx} {pz : List (Addr × Obj)} {σ0 : L2.St} {QT QF : Hp → Prop} {A : Around} {a : Addr} {g : Nat} {go : Obj} (d : Bool) {R : Result → Shared → Prop} (hpz : (a, go) ∈ pz) (hgo : ∀ h : Heap, h.get? a = some go → h.IsGen a g)
    (hh : A.handled = none) (hd : A.depth < recursionLimit)
    (hT : ∀ H' s1 s', Inv X pz σ0 H' s1 → QT H' → Kept s1 s' → R (.ok (.ret (.bool d))) s') (hF : ∀ σ' H' s1 s', Inv X pz σ' H' s1 → QF H' → Kept s1 s' → R (.ok (.ret (.bool (!d)))) s') :
    ∀ (n : Nat) (s : Shared), s.heap.IsGen a g → s.heap.NoLimit →
      (∃ gs, s.gens[g]? = some gs ∧ gs.Goes (model X.prog X.w) A.in1.in1 (RG X pz σ0 QT) (YG X pz d QF) n (.send .none) (s.setGen g .running)) →
      codeAny (model X.prog X.w) A (.builtin (loopId d) ⟨[.ref a], []⟩) R s := by
  intro n
  induction n with
  | zero =>
    intro s hg hl ⟨gs, hgs, hgo'⟩
    cases d
    · show codeAny (model X.prog X.w) A (.builtin "any.loop" ⟨[.ref a], []⟩) R s
      refine codeAny_builtin F.entry_any_loop ?_
      rw [Around.under_plainId F.plain_any_loop _]
      show wpAny _ A.in1 (pyNext (.ref a) >>= _) _ _ s
      refine wpAny_bind (next_genG (A := A.in1) (Er := fun _ _ => False) hh hl hd hg hgs hgo' (fun v s₁ gs' hbare hv => ?_) (fun s₁ hp h' hk => ?_) fun e s₁ he => he.elim)
      · obtain ⟨c, σ', H', rfl, I, hq⟩ := hv
        by_cases hcd : c = false
        · rw [if_pos hcd] at hq
          exact (hq s₁ ⟨rfl, I.bare, fun _ _ e => e⟩).elim
        · rw [if_neg hcd] at hq
          have hc : c = true := by cases c <;> simp at hcd ⊢
          subst hc
          refine wpAny_bind (wpAny_holding (wpAny_truthy_bool ?_))
          refine wpAny_bind (wpAny_letGo ?_)
          simp only [if_true]
          refine wpAny_bind (wpAny_rule (wpAny_pure ?_))
          exact hF σ' H' s₁ _ I hq ⟨rfl, allBare_setGen I.bare hbare, fun _ _ e => e⟩
      · obtain ⟨H', I, q⟩ := hp
        refine wpAny_bind (wpAny_rule (wpAny_pure ?_))
        exact hT H' s₁ _ I q ⟨rfl, allBare_setGen I.bare rfl, hk⟩
    · show codeAny (model X.prog X.w) A (.builtin "all.loop" ⟨[.ref a], []⟩) R s
      refine codeAny_builtin F.entry_all_loop ?_
      rw [Around.under_plainId F.plain_all_loop _]
      show wpAny _ A.in1 (pyNext (.ref a) >>= _) _ _ s
      refine wpAny_bind (next_genG (A := A.in1) (Er := fun _ _ => False) hh hl hd hg hgs hgo' (fun v s₁ gs' hbare hv => ?_) (fun s₁ hp h' hk => ?_) fun e s₁ he => he.elim)
      · obtain ⟨c, σ', H', rfl, I, hq⟩ := hv
        by_cases hcd : c = true
        · rw [if_pos hcd] at hq
          exact (hq s₁ ⟨rfl, I.bare, fun _ _ e => e⟩).elim
        · rw [if_neg hcd] at hq
          have hc : c = false := by cases c <;> simp at hcd ⊢
          subst hc
          refine wpAny_bind (wpAny_holding (wpAny_truthy_bool ?_))
          refine wpAny_bind (wpAny_letGo ?_)
          simp only [Bool.false_eq_true, if_false]
          refine wpAny_bind (wpAny_rule (wpAny_pure ?_))
          exact hF σ' H' s₁ _ I hq ⟨rfl, allBare_setGen I.bare hbare, fun _ _ e => e⟩
      · obtain ⟨H', I, q⟩ := hp
        refine wpAny_bind (wpAny_rule (wpAny_pure ?_))
        exact hT H' s₁ _ I q ⟨rfl, allBare_setGen I.bare rfl, hk⟩
  | succ n ih =>
    intro s hg hl ⟨gs, hgs, hgo'⟩
    have hgl : g < s.gens.size := (Array.getElem?_eq_some_iff.mp hgs).1
    have again : ∀ (σ' : L2.St) (H' : Hp) (s₁ : Shared) (gs' : GenState), gs'.bare = true → Inv X pz σ' H' s₁ → g + 1 ≤ (s₁.setGen g gs').gens.size → (∀ s', Kept s₁ s' → gs'.Goes (model X.prog X.w) A.in1.in1 (RG X pz σ0 QT) (YG X pz d QF) n (.send .none) s') →
        codeAny (model X.prog X.w) A (.builtin (loopId d) ⟨[.ref a], []⟩) R (s₁.setGen g gs') := fun σ' H' s₁ gs' hbare I hsz hq => by
      have hsz1 : g < s₁.gens.size := by
        have q : (s₁.setGen g gs').gens.size = s₁.gens.size := setGen_size _ _ _
        omega
      refine ih (s₁.setGen g gs') (hgo _ (I.pin (a, go) (List.mem_append_right _ hpz)).1) I.nolimit ⟨gs', setGen_at hsz1, hq _ ⟨rfl, allBare_setGen (s := s₁.setGen g gs') (allBare_setGen I.bare hbare) rfl, fun _ _ e => e⟩⟩
    cases d
    · show codeAny (model X.prog X.w) A (.builtin "any.loop" ⟨[.ref a], []⟩) R s
      refine codeAny_builtin F.entry_any_loop ?_
      rw [Around.under_plainId F.plain_any_loop _]
      show wpAny _ A.in1 (pyNext (.ref a) >>= _) _ _ s
      refine wpAny_bind (wpAny_gsz (n := g + 1) hgl (next_genG (A := A.in1) (Er := fun _ _ => False) hh hl hd hg hgs hgo' (fun v s₁ gs' hbare hv => ?_) (fun s₁ hp h' hk => ?_) fun e s₁ he => he.elim))
      · intro hsz
        obtain ⟨c, σ', H', rfl, I, hq⟩ := hv
        refine wpAny_bind (wpAny_holding (wpAny_truthy_bool ?_))
        refine wpAny_bind (wpAny_letGo ?_)
        cases c with
        | false =>
          rw [if_pos rfl] at hq
          simp only [Bool.false_eq_true, if_false]
          exact wpAny_pure ⟨plainId_quiet F.plain_any_loop _, again σ' H' s₁ gs' hbare I hsz hq⟩
        | true =>
          rw [if_neg (by decide)] at hq
          simp only [if_true]
          refine wpAny_bind (wpAny_rule (wpAny_pure ?_))
          exact hF σ' H' s₁ _ I hq ⟨rfl, allBare_setGen I.bare hbare, fun _ _ e => e⟩
      · intro hsz
        obtain ⟨H', I, q⟩ := hp
        refine wpAny_bind (wpAny_rule (wpAny_pure ?_))
        exact hT H' s₁ _ I q ⟨rfl, allBare_setGen I.bare rfl, hk⟩
    · show codeAny (model X.prog X.w) A (.builtin "all.loop" ⟨[.ref a], []⟩) R s
      refine codeAny_builtin F.entry_all_loop ?_
      rw [Around.under_plainId F.plain_all_loop _]
      show wpAny _ A.in1 (pyNext (.ref a) >>= _) _ _ s
      refine wpAny_bind (wpAny_gsz (n := g + 1) hgl (next_genG (A := A.in1) (Er := fun _ _ => False) hh hl hd hg hgs hgo' (fun v s₁ gs' hbare hv => ?_) (fun s₁ hp h' hk => ?_) fun e s₁ he => he.elim))
      · intro hsz
        obtain ⟨c, σ', H', rfl, I, hq⟩ := hv
        refine wpAny_bind (wpAny_holding (wpAny_truthy_bool ?_))
        refine wpAny_bind (wpAny_letGo ?_)
        cases c with
        | true =>
          rw [if_pos rfl] at hq
          simp only [if_true]
          exact wpAny_pure ⟨plainId_quiet F.plain_all_loop _, again σ' H' s₁ gs' hbare I hsz hq⟩
        | false =>
          rw [if_neg (by decide)] at hq
          simp only [Bool.false_eq_true, if_false]
          refine wpAny_bind (wpAny_rule (wpAny_pure ?_))
          exact hF σ' H' s₁ _ I hq ⟨rfl, allBare_setGen I.bare hbare, fun _ _ e => e⟩
      · intro hsz
        obtain ⟨H', I, q⟩ := hp
        refine wpAny_bind (wpAny_rule (wpAny_pure ?_))
        exact hT H' s₁ _ I q ⟨rfl, allBare_setGen I.bare rfl, hk⟩
end Gx

set_option Elab.async false
set_option linter.all false
set_option maxRecDepth 100000
set_option maxHeartbeats 4000000
namespace Gx
open PySem PySem.Spec PyProof.Rows L2 GenW
theorem over_gen {B : Around} {elt : Expr} {gens : List Comprehension} {scope : Scope} {pos : Pos} {it acc : Value} {env : Env} {st : List Env} (h : B.frames = some st) :
    (B.over (.compLoop (.GeneratorExp elt gens scope pos) 0 it acc env) []).frames = some (env :: st) := by
  have e1 : (B.over (.compLoop (.GeneratorExp elt gens scope pos) 0 it acc env) []).frames = pushEnvs (Code.envs (.compLoop (.GeneratorExp elt gens scope pos) 0 it acc env)) (pushEnvs (envsOf (([] : List Frame).map Frame.where_)) B.frames) := rfl
  rw [e1, h]
  rfl
/-- the reading: by d the walk goes on -/
def tQX (d : Bool) (wi : TI) (g : TG) (tt : TT) (te : TE) (vs : List Nat) (P : Addr) : TE := fun σ H Q => wi σ H fun J H1 => GxR.TabG H1 P ∧ ∀ H2, GxR.Tabbed P H1 H2 → ∃ W : Nat → Nat → Hp → Prop, (∃ m, W 0 m H2) ∧
  Turns J g tt te vs σ d (fun H => Q (.bl d) H) (fun H => Q (.bl (!d)) H) W
section
variable {X : Cx} {pins : List (Addr × Obj)} {σ : L2.St} {H : Hp} {s : Shared}
theorem gen_core {c P : Addr} {elt tg iter : Expr} {ifs : List Expr} {gpos : Pos} {scope : Scope} {own : List (Str × Nat)} {wi : TI} {g : TG} {tt : TT} {te : TE} {k : Nat} {d : Bool} {Q : VK}
    (hr : Room (k + 1) X.A) (hc : X.calm = true) (hN : X.N.Nodup) (TB : GxR.TabB X.base X.mg c P) (hcode : X.env.code = .ref c) (ok : BlkOk X.N X.env.scope scope own) (S : GenK scope) (hi : PI X tg iter wi) (hs : ∀ v, genFold iter X.env v = pure v)
    (hg : ∀ (A : Around) (s : Shared) (H : Hp) (C : Addr) (code : Value) (fp : List Addr), Room k A → PG (gcx X A s H (genEnv scope (cloFrom X.env.cells scope.names []) C code builtinsNs X.env) fp) tg g)
    (ht : ∀ (A : Around) (s : Shared) (H : Hp) (C : Addr) (code : Value) (fp : List Addr), Room k A → PTs (gcx X A s H (genEnv scope (cloFrom X.env.cells scope.names []) C code builtinsNs X.env) fp) ifs tt)
    (he : ∀ (A : Around) (s : Shared) (H : Hp) (C : Addr) (code : Value) (fp : List Addr), Room k A → PE (gcx X A s H (genEnv scope (cloFrom X.env.cells scope.names []) C code builtinsNs X.env) fp) elt te)
    (I : Inv X pins σ H s) (h : tQX d wi g tt te (own.map (·.2)) P σ H Q) :
    wpAny (model X.prog X.w) X.A (eval (.GeneratorExp elt [⟨tg, iter, ifs, 0⟩] scope gpos) X.env) (fun v s5 => ∃ (a : Addr) (gn : Nat), v = .ref a ∧ s5.heap.IsGen a gn ∧
      codeAny (model X.prog X.w) X.A (.builtin (loopId d) ⟨[.ref a], []⟩) (fun r s' => ∃ b, r = .ok (.ret (.bool b)) ∧ EP X pins σ Q (.bool b) s') s5) X.xe s := by
  have hfree : ∀ y ∈ scope.names, y.2 = .free → ∃ c, X.env.cells.lookup y.1 = some c := fun y hy e => by
    rcases ok.free y hy e with k | k
    · exact I.ok.has _ (.inl k)
    · exact I.ok.has _ (.inr k)
  refine wpAny_GeneratorExp_make S.co (closure_ok hfree) S.cell S.dot ok.kind hr.depth (wpAny_mono (hi.run pins s σ H _ I h) (fun xv s1 h1 => wpAny_mono h1 (fun itv s2 h2 => ?_) fun _ _ e => e) fun _ _ e => e) hs
  obtain ⟨it, fp, tn, J, H1, rfl, I2, T, st2, f2, ⟨ps, hP, htr⟩, hW⟩ := h2
  refine ⟨I2.nolimit, ?_⟩
  have tabS : s2.heap.get? P = some { cls := .none, data := .fields ps } := I2.hok P _ hP
  have hd : PySem.W.CodeHd s2.heap c P := TB.code.keeps fun b u e => I2.bk b u e
  have key : ∀ (REST : Value → Shared → Prop), (∀ (cv : Value) (h3 : Heap) (tk : Nat) (more : Array Value), Heap.ExtBut P s2.heap h3 → s2.heap.objs.size ≤ h3.objs.size → h3.get? P = some { cls := .none, data := .fields (ps ++ more) } → TriplesOk (ps ++ more).toList → REST cv { s2 with heap := h3, toks := tk }) →
      wpAny (model X.prog X.w) X.A (genexprCode X.env gpos (X.env.qual ++ "<genexpr>") scope) REST X.xe s2 := fun REST fin => by
    cases hf : codeAmong gpos ps.toList with
    | some cv =>
      have e : ps = ps ++ #[] := by simp
      exact wpAny_genexprCode_hit hcode (hd.code tabS htr) hf (fin cv _ s2.toks #[] (Heap.ExtBut.refl _ _) (Nat.le_refl _) (e ▸ tabS) (e ▸ htr))
    | none =>
      refine wpAny_genexprCodeX hcode (hd.code tabS htr) (hd.tab tabS) hf fun c' h3 tk ex ge lt ic _ ta _ => ?_
      obtain ⟨_, _, _, _, _, _, _, _, _, _, _, _, _, _, _, _, _, _, _, tr, _⟩ := ic
      exact fin _ h3 tk _ ex (Nat.le_trans ge (Nat.le_of_lt lt)) ta.2 tr
  refine key _ fun cv h3 tk more ex ge tab3 tr3 => ?_
  obtain ⟨bm, ob, b1, b2, b3, b4, b5, b6, b7, b8⟩ := TB.bm
  refine wpAny_builtinsFor (m := X.mg) (by rw [I2.ok.glob]; exact (I2.mod.glob.keeps I2.bk).extBut ex TB.gP) b1 b2 (ex _ _ b4 (I2.bk _ _ b5)) b6 b7 b8 ?_
  intro h' hn' hs'
  generalize hs3 : ({ s2 with heap := h3, toks := tk } : Shared) = s3 at hn' hs' ⊢
  have e3 : s3.heap = h3 := by rw [← hs3]
  have I3 : Inv X pins σ (upd H1 P (.tbl (ps ++ more))) s3 := by
    rw [← hs3]
    exact GxR.inv_tab (more := more) (h' := h3) (g' := s2.gens) (d' := s2.drawn) (t' := tk) I2 hP (fun b o n e => ex b o n e) tab3 I2.bare
  obtain ⟨W, ⟨m0, w0⟩, turn⟩ := hW _ ⟨⟨ps ++ more, upd_same, tr3⟩, fun b hb => upd_ne hb⟩
  have neP : ∀ b ∈ fp, b ≠ P := fun b hb z => by
    have := (f2 b hb).1
    rw [z, hP] at this
    cases this
  have f3 : ∀ b ∈ fp, FpOk X pins (upd H1 P (.tbl (ps ++ more))) b ∧ b < s3.heap.objs.size := fun b hb => by
    obtain ⟨o, e, _⟩ := T.obj _ _ st2 b hb
    refine ⟨⟨?_, (f2 b hb).2⟩, by rw [e3]; exact Nat.lt_of_lt_of_le (Heap.lt_size e) ge⟩
    rw [upd_ne (neP b hb)]
    exact (f2 b hb).1
  have st3 : tn 0 s3.heap := T.keep _ _ _ st2 fun b hb o e => by rw [e3]; exact ex b o (neP b hb) e
  generalize hH3 : upd H1 P (.tbl (ps ++ more)) = H3 at I3 w0 f3
  have nf : ∀ b ∈ fp, H3 b = none := fun b hb => (f3 b hb).1.1
  -- the generator's object
  generalize hgo : ({ cls := .type "generator", data := .fields #[.int s3.gens.size 0, .str "<genexpr>" (s3.toks + 1), .str (X.env.qual ++ "<genexpr>") (s3.toks + 1 + 1)] } : Obj) = go
  have sz' : h'.objs.size = s3.heap.objs.size + 1 := by rw [hs'.1, Heap.size_push]
  generalize hs5 : ({ s3 with gens := s3.gens.push (.fresh (.compStart (.GeneratorExp elt [⟨tg, iter, ifs, 0⟩] scope gpos) 0 (.ref it) .none (genEnv scope (cloFrom X.env.cells scope.names []) s3.heap.objs.size cv builtinsNs X.env))), toks := s3.toks + 1 + 1 + 1, heap := h'.push go } : Shared) = s5
  have h5 : s5.heap = h'.push go := by rw [← hs5]
  have kp : Kept s3 s5 := by
    refine ⟨by rw [← hs5], by rw [← hs5]; exact AllBare.push I3.bare rfl, fun b o e => ?_⟩
    rw [h5]
    exact Heap.get?_push_of_some _ (hs'.extBut b o (Nat.ne_of_lt (Heap.lt_size e)) (Heap.get?_push_of_some _ e))
  have hga : s5.heap.get? h'.objs.size = some go := by rw [h5, ← hgo]; exact Heap.get?_push_size _ rfl
  have isg : ∀ h : Heap, h.get? h'.objs.size = some go → h.IsGen h'.objs.size s3.gens.size := fun h e => ⟨go, _, _, e, by rw [← hgo], by rw [← hgo], by rw [← hgo]⟩
  have hgs : s5.gens[s3.gens.size]? = some (.fresh (.compStart (.GeneratorExp elt [⟨tg, iter, ifs, 0⟩] scope gpos) 0 (.ref it) .none (genEnv scope (cloFrom X.env.cells scope.names []) s3.heap.objs.size cv builtinsNs X.env))) := by
    rw [← hs5]
    exact Array.getElem?_push_size ..
  have hns : s5.heap.Ns s3.heap.objs.size (fun y => if y = ".0" then some (.ref it) else none) := by rw [h5]; exact hn'.push _
  have hfrX : X.A.frames = some X.stack := I3.ok.frames
  have rm : Room k (X.A.in1.in1.over (.compLoop (.GeneratorExp elt [⟨tg, iter, ifs, 0⟩] scope gpos) 0 (.ref it) .none (genEnv scope (cloFrom X.env.cells scope.names []) s3.heap.objs.size cv builtinsNs X.env)) []) := by
    have h1 := hr.dp
    have h2 := hr.un
    refine ⟨hr.hd, ?_, ?_⟩
    · show X.A.depth + 0 + 1 + 3 * k + 5 < _
      omega
    · show X.A.units + 1 + 1 + 0 + 3 + 16 * k + 200 < _
      omega
  have Ig := gen_start I3 ok S hN f3 rm.hd (over_gen (show X.A.in1.in1.frames = some X.stack from hfrX)) kp hns
  have aC : h'.objs.size ≠ s3.heap.objs.size := by omega
  have Ig2 : Inv (gcx X (X.A.in1.in1.over (.compLoop (.GeneratorExp elt [⟨tg, iter, ifs, 0⟩] scope gpos) 0 (.ref it) .none (genEnv scope (cloFrom X.env.cells scope.names []) s3.heap.objs.size cv builtinsNs X.env)) []) s3 H3 (genEnv scope (cloFrom X.env.cells scope.names []) s3.heap.objs.size cv builtinsNs X.env) fp) [(h'.objs.size, go)] (wipe σ (own.map (·.2))) H3 s5 := by
    refine Ig.pins_of fun p hp => ?_
    rw [List.mem_singleton.mp hp]
    refine ⟨hga, I3.hok.fresh (by omega), aC, fun z => ?_, fun v q => by rw [← hgo] at q; cases q⟩
    rcases List.mem_cons.mp (I3.stkSub _ z) with z | z
    · have z : h'.objs.size = X.env.locals := z
      have q : h'.objs.size < s3.heap.objs.size := by rw [z]; exact I3.lt
      omega
    · exact I3.nofs (by omega) z
  have hpz : ∀ p ∈ [(h'.objs.size, go)], p.1 ∉ fp := fun p hp z => by
    rw [List.mem_singleton.mp hp] at z
    have q : h'.objs.size < s3.heap.objs.size := (f3 _ z).2
    omega
  have back : ∀ (σ' : L2.St) (H' : Hp) (s1 s' : Shared), Inv (gcx X (X.A.in1.in1.over (.compLoop (.GeneratorExp elt [⟨tg, iter, ifs, 0⟩] scope gpos) 0 (.ref it) .none (genEnv scope (cloFrom X.env.cells scope.names []) s3.heap.objs.size cv builtinsNs X.env)) []) s3 H3 (genEnv scope (cloFrom X.env.cells scope.names []) s3.heap.objs.size cv builtinsNs X.env) fp) [(h'.objs.size, go)] σ' H' s1 → Kept s1 s' → Inv X pins σ H' s' := fun σ' H' s1 s' J1 k1 => by
    have J := Inv.keptS J1 k1
    exact I3.call' (ch := fp) J.os J.base J.hok J.bare fun b hb => ⟨(f3 b hb).1.2.2.2.1, (f3 b hb).1.2.1, (f3 b hb).1.2.2.2.2.1, (f3 b hb).1.2.2.2.2.2⟩
  refine ⟨_, s3.gens.size, rfl, isg _ hga, walk_loop (X := gcx X (X.A.in1.in1.over (.compLoop (.GeneratorExp elt [⟨tg, iter, ifs, 0⟩] scope gpos) 0 (.ref it) .none (genEnv scope (cloFrom X.env.cells scope.names []) s3.heap.objs.size cv builtinsNs X.env)) []) s3 H3 (genEnv scope (cloFrom X.env.cells scope.names []) s3.heap.objs.size cv builtinsNs X.env) fp) (pz := [(h'.objs.size, go)]) (σ0 := wipe σ (own.map (·.2))) (QT := fun H => Q (.bl d) H) (QF := fun H => Q (.bl (!d)) H) d (List.mem_singleton.mpr rfl) isg hr.hd hr.depth (fun H' s1 s' J1 q k1 => ⟨d, rfl, .bl d, H', back _ H' s1 s' J1 k1, rfl, q⟩) (fun σ' H' s1 s' J1 q k1 => ⟨!d, rfl, .bl (!d), H', back σ' H' s1 s' J1 k1, rfl, q⟩) (m0 + 1) s5 (isg _ hga) Ig2.nolimit ⟨_, hgs, rfl, ?_⟩⟩
  have k6 : Kept s5 (s5.setGen s3.gens.size .running) := ⟨rfl, allBare_setGen kp.bare rfl, fun _ _ e => e⟩
  have st5 : tn 0 (s5.setGen s3.gens.size .running).heap := T.keep _ _ _ st3 fun b hb o e => kp.keep b o e
  exact seg_start T st5 (seg_loop T hc rfl S.co hpz (hg _ _ _ _ _ _ rm) (ht _ _ _ _ _ _ rm) (he _ _ _ _ _ _ rm) turn m0 (m0 + 1) 0 _ _ H3 (Nat.lt_succ_self _) (Inv.keptS Ig2 k6) st5 nf w0)
theorem pe_allX {c P : Addr} {elt tg iter : Expr} {ifs : List Expr} {gpos p pos : Pos} {scope : Scope} {own : List (Str × Nat)} {wi : TI} {g : TG} {tt : TT} {te : TE} {k : Nat}
    (hr : Room (k + 1) X.A) (hgl : Gl X "all") (hm : X.mg "all" = none) (hc : X.calm = true) (hN : X.N.Nodup) (TB : GxR.TabB X.base X.mg c P) (hcode : X.env.code = .ref c) (ok : BlkOk X.N X.env.scope scope own) (S : GenK scope) (hi : PI X tg iter wi)
    (hg : ∀ (A : Around) (s : Shared) (H : Hp) (C : Addr) (code : Value) (fp : List Addr), Room k A → PG (gcx X A s H (genEnv scope (cloFrom X.env.cells scope.names []) C code builtinsNs X.env) fp) tg g)
    (ht : ∀ (A : Around) (s : Shared) (H : Hp) (C : Addr) (code : Value) (fp : List Addr), Room k A → PTs (gcx X A s H (genEnv scope (cloFrom X.env.cells scope.names []) C code builtinsNs X.env) fp) ifs tt)
    (he : ∀ (A : Around) (s : Shared) (H : Hp) (C : Addr) (code : Value) (fp : List Addr), Room k A → PE (gcx X A s H (genEnv scope (cloFrom X.env.cells scope.names []) C code builtinsNs X.env) fp) elt te)
    (hs : ∀ v, genFold iter X.env v = pure v := by intro _; rfl)
    (hst : starEach [.GeneratorExp elt [⟨tg, iter, ifs, 0⟩] scope gpos] X.env = (false, eval (.GeneratorExp elt [⟨tg, iter, ifs, 0⟩] scope gpos) X.env) :: starEach [] X.env := by rfl) :
    PE X (.Call (.Name "all" p) [.GeneratorExp elt [⟨tg, iter, ifs, 0⟩] scope gpos] [] pos) (tQX true wi g tt te (own.map (·.2)) P) := by
  refine ⟨fun pins s σ H Q I h => ?_⟩
  refine wpAny_Call_Name_kw (ld_blt I hgl hm boot_all (PyProof.Rows.callWith_builtin1 ?_ hst (by rfl)))
  rw [hst]
  show wpAny _ _ (spliced ((false, _) :: backTo pos (starEach [] X.env))) _ _ s
  refine Calls.spliced_cons (wpAny_mono (gen_core hr hc hN TB hcode ok S hi hs hg ht he I h) (fun v s5 hx => ?_) fun _ _ e => e)
  obtain ⟨a, gn, rfl, hgn, hcd⟩ := hx
  refine Calls.spliced_nil ?_
  refine call_function_tree F.kind_all F.plain_all F.entry_all (F.args_all1 _) ?_
  unfold Builtin.«all»
  refine wpAny_bind (m := oneArg "all" _) (wpAny_pure ?_)
  refine wpAny_bind (wpAny_pyIter_gen hgn ?_)
  exact wpAny_pure ⟨plainId_quiet F.plain_all_loop _, codeAny_mono hcd fun r s' hx => by obtain ⟨b, rfl, q⟩ := hx; exact q⟩
theorem pe_anyX {c P : Addr} {elt tg iter : Expr} {ifs : List Expr} {gpos p pos : Pos} {scope : Scope} {own : List (Str × Nat)} {wi : TI} {g : TG} {tt : TT} {te : TE} {k : Nat}
    (hr : Room (k + 1) X.A) (hgl : Gl X "any") (hm : X.mg "any" = none) (hc : X.calm = true) (hN : X.N.Nodup) (TB : GxR.TabB X.base X.mg c P) (hcode : X.env.code = .ref c) (ok : BlkOk X.N X.env.scope scope own) (S : GenK scope) (hi : PI X tg iter wi)
    (hg : ∀ (A : Around) (s : Shared) (H : Hp) (C : Addr) (code : Value) (fp : List Addr), Room k A → PG (gcx X A s H (genEnv scope (cloFrom X.env.cells scope.names []) C code builtinsNs X.env) fp) tg g)
    (ht : ∀ (A : Around) (s : Shared) (H : Hp) (C : Addr) (code : Value) (fp : List Addr), Room k A → PTs (gcx X A s H (genEnv scope (cloFrom X.env.cells scope.names []) C code builtinsNs X.env) fp) ifs tt)
    (he : ∀ (A : Around) (s : Shared) (H : Hp) (C : Addr) (code : Value) (fp : List Addr), Room k A → PE (gcx X A s H (genEnv scope (cloFrom X.env.cells scope.names []) C code builtinsNs X.env) fp) elt te)
    (hs : ∀ v, genFold iter X.env v = pure v := by intro _; rfl)
    (hst : starEach [.GeneratorExp elt [⟨tg, iter, ifs, 0⟩] scope gpos] X.env = (false, eval (.GeneratorExp elt [⟨tg, iter, ifs, 0⟩] scope gpos) X.env) :: starEach [] X.env := by rfl) :
    PE X (.Call (.Name "any" p) [.GeneratorExp elt [⟨tg, iter, ifs, 0⟩] scope gpos] [] pos) (tQX false wi g tt te (own.map (·.2)) P) := by
  refine ⟨fun pins s σ H Q I h => ?_⟩
  refine wpAny_Call_Name_kw (ld_blt I hgl hm boot_any (PyProof.Rows.callWith_builtin1 ?_ hst (by rfl)))
  rw [hst]
  show wpAny _ _ (spliced ((false, _) :: backTo pos (starEach [] X.env))) _ _ s
  refine Calls.spliced_cons (wpAny_mono (gen_core hr hc hN TB hcode ok S hi hs hg ht he I h) (fun v s5 hx => ?_) fun _ _ e => e)
  obtain ⟨a, gn, rfl, hgn, hcd⟩ := hx
  refine Calls.spliced_nil ?_
  refine call_function_tree F.kind_any F.plain_any F.entry_any (F.args_any1 _) ?_
  unfold Builtin.«any»
  refine wpAny_bind (m := oneArg "any" _) (wpAny_pure ?_)
  refine wpAny_bind (wpAny_pyIter_gen hgn ?_)
  exact wpAny_pure ⟨plainId_quiet F.plain_any_loop _, codeAny_mono hcd fun r s' hx => by obtain ⟨b, rfl, q⟩ := hx; exact q⟩
end
end Gx

set_option Elab.async false
set_option linter.all false
set_option maxRecDepth 100000
set_option maxHeartbeats 4000000
/-! the turns, by source -/
namespace Gx
open PySem PySem.Spec PyProof.Rows L2
theorem all_range {lo : Int} {n : Nat} {g : TG} {tt : TT} {te : TE} {vs : List Nat} {σ : L2.St} {d : Bool} {QT QF : Hp → Prop} {H2 : Hp} (Pv : Nat → Hp → Prop) (h0 : Pv 0 H2)
    (hs : ∀ i H, i < n → Pv i H → g (.int (lo + i)) (wipe σ vs) H fun σ2 H2 => wipe σ2 vs = wipe σ vs ∧ tt σ2 H2 fun b H3 => if b = true then te σ2 H3 fun y H4 => ∃ c, y = .bl c ∧ (if c = d then Pv (i + 1) H4 else QF H4) else Pv (i + 1) H3) (hd : ∀ H, Pv n H → QT H) :
    ∃ W : Nat → Nat → Hp → Prop, (∃ m, W 0 m H2) ∧ Turns (Itr lo n) g tt te vs σ d QT QF W := by
  refine ⟨fun i m H => m = n - i ∧ i ≤ n ∧ Pv i H, ⟨n, by simp, Nat.zero_le _, h0⟩, ?_⟩
  rintro i m H ⟨rfl, hi, p⟩
  by_cases hlt : i < n
  · refine .inr ⟨hlt, Pv (i + 1), fun H' p' => ⟨n - (i + 1), by omega, rfl, hlt, p'⟩, fun x H' y => ?_⟩
    obtain ⟨e, y⟩ := y
    subst e y
    exact hs i _ hlt p
  · have e : i = n := by omega
    subst e
    exact .inl ⟨Nat.le_refl _, hd H p⟩
theorem all_tup {K : PySem.W.Frag} {a : Addr} {xs : List V} {g : TG} {tt : TT} {te : TE} {vs : List Nat} {σ : L2.St} {d : Bool} {QT QF : Hp → Prop} {H2 : Hp} (Pv : Nat → Hp → Prop) (h0 : Pv 0 H2) (hl : ∀ i H, i ≤ xs.length → Pv i H → SqT K H a xs)
    (hs : ∀ i x H, xs[i]? = some x → Pv i H → g x (wipe σ vs) H fun σ2 H2 => wipe σ2 vs = wipe σ vs ∧ tt σ2 H2 fun b H3 => if b = true then te σ2 H3 fun y H4 => ∃ c, y = .bl c ∧ (if c = d then Pv (i + 1) H4 else QF H4) else Pv (i + 1) H3) (hd : ∀ H, Pv xs.length H → QT H) :
    ∃ W : Nat → Nat → Hp → Prop, (∃ m, W 0 m H2) ∧ Turns (Itt K a) g tt te vs σ d QT QF W := by
  refine ⟨fun i m H => m = xs.length - i ∧ i ≤ xs.length ∧ Pv i H, ⟨xs.length, by simp, Nat.zero_le _, h0⟩, ?_⟩
  rintro i m H ⟨rfl, hi, p⟩
  have q := hl i H hi p
  by_cases hlt : i < xs.length
  · refine .inr ⟨⟨xs, xs[i], q, by simp [hlt]⟩, Pv (i + 1), fun H' p' => ⟨xs.length - (i + 1), by omega, rfl, hlt, p'⟩, fun x H' y => ?_⟩
    obtain ⟨e, y⟩ := y
    subst e
    exact hs i x _ (y xs q) p
  · have e : i = xs.length := by omega
    subst e
    exact .inl ⟨⟨xs, q, Nat.le_refl _⟩, hd H p⟩
theorem all_list {K : PySem.W.Frag} {a : Addr} {xs : List V} {g : TG} {tt : TT} {te : TE} {vs : List Nat} {σ : L2.St} {d : Bool} {QT QF : Hp → Prop} {H2 : Hp} (Pv : Nat → Hp → Prop) (h0 : Pv 0 H2) (hl : ∀ i H, i ≤ xs.length → Pv i H → SqL K H a xs)
    (hs : ∀ i x H, xs[i]? = some x → Pv i H → g x (wipe σ vs) H fun σ2 H2 => wipe σ2 vs = wipe σ vs ∧ tt σ2 H2 fun b H3 => if b = true then te σ2 H3 fun y H4 => ∃ c, y = .bl c ∧ (if c = d then Pv (i + 1) H4 else QF H4) else Pv (i + 1) H3) (hd : ∀ H, Pv xs.length H → QT H) :
    ∃ W : Nat → Nat → Hp → Prop, (∃ m, W 0 m H2) ∧ Turns (Itl K a) g tt te vs σ d QT QF W := by
  refine ⟨fun i m H => m = xs.length - i ∧ i ≤ xs.length ∧ Pv i H, ⟨xs.length, by simp, Nat.zero_le _, h0⟩, ?_⟩
  rintro i m H ⟨rfl, hi, p⟩
  have q := hl i H hi p
  by_cases hlt : i < xs.length
  · refine .inr ⟨⟨xs, xs[i], q, by simp [hlt]⟩, Pv (i + 1), fun H' p' => ⟨xs.length - (i + 1), by omega, rfl, hlt, p'⟩, fun x H' y => ?_⟩
    obtain ⟨e, y⟩ := y
    subst e
    exact hs i x _ (y xs q) p
  · have e : i = xs.length := by omega
    subst e
    exact .inl ⟨⟨xs, q, by simp⟩, hd H p⟩
end Gx

set_option Elab.async false
set_option linter.all false
set_option maxRecDepth 100000
set_option maxHeartbeats 4000000
/-! tuple(..) of a generator expression: any source, any target, any element -/
namespace Gx
open PySem PySem.Spec PyProof.Rows L2 GenW
def TurnsC (J : It) (g : TG) (tt : TT) (te : TE) (vs : List Nat) (σ : L2.St) (Q : List V → Hp → Prop) (W : Nat → Nat → List V → Hp → Prop) : Prop := ∀ i m ys H, W i m ys H →
  (J.stop i H ∧ Q ys H) ∨ (J.go i H ∧ ys.length < sizeLine ∧ ∃ Nx : List V → Hp → Prop, (∀ ys' H', Nx ys' H' → ∃ m', m' < m ∧ W (i + 1) m' ys' H') ∧ ∀ x H', J.yld i H x H' → g x (wipe σ vs) H' fun σ2 H2 => wipe σ2 vs = wipe σ vs ∧ tt σ2 H2 fun b H3 =>
    if b = true then te σ2 H3 fun y H4 => Nx (ys ++ [y]) H4 else Nx ys H3)
section
variable {X : Cx} {A B : Around} {s3 : Shared} {H3 : Hp} {cenv : Env} {fp : List Addr} {σ : L2.St}
theorem seg_loopC {elt tg iter : Expr} {ifs : List Expr} {scope : Scope} {pos : Pos} {it a : Addr} {gn : Nat} {go : Obj} {J : It} {tn : Nat → Heap → Prop} {g : TG} {tt : TT} {te : TE} {vs : List Nat} {Q : List V → Hp → Prop} {W : Nat → Nat → List V → Hp → Prop} {S : Addr} {E : XK}
    (T : Turn X.prog X.w X.K tg J fp it tn) (hc : X.calm = true) (hov : B.over (.compLoop (.GeneratorExp elt [⟨tg, iter, ifs, 0⟩] scope pos) 0 (.ref it) .none cenv) [] = A) (hco : cenv.scope.isCoroutine = false) (haf : a ∉ fp) (hSf : S ∉ fp) (haS : a ≠ S) (hAp : Apart (gcx X A s3 H3 cenv fp) S)
    (hgo : ∀ h : Heap, h.get? a = some go → h.IsGen a gn)
    (pg : PG (gcx X A s3 H3 cenv fp) tg g) (pt : PTs (gcx X A s3 H3 cenv fp) ifs tt) (pe : PE (gcx X A s3 H3 cenv fp) elt te) (turn : TurnsC J g tt te vs σ Q W) :
    ∀ (m n i : Nat) (ys : List V) (s₀ s : Shared) (H : Hp), n + ys.length = sizeLine → GI (gcx X A s3 H3 cenv fp) S [(a, go)] ys (wipe σ vs) H s → tn i s.heap → (∀ b ∈ fp, H b = none) → W i m ys H →
      Seg (model X.prog X.w) B (REnd X.prog X.w X.stack H3 s3 fp S a gn Q E) (YItem s3 S a gn) n s₀
        (.compLoop (.GeneratorExp elt [⟨tg, iter, ifs, 0⟩] scope pos) 0 (.ref it) .none cenv)
        ((model X.prog X.w).den (.compLoop (.GeneratorExp elt [⟨tg, iter, ifs, 0⟩] scope pos) 0 (.ref it) .none cenv)) [] s := by
  have stat : ∀ {σ' : L2.St} {H' : Hp} {s' : Shared} {acc : Array Value} {c : Nat}, Inv (gcx X A s3 H3 cenv fp) ((S, lstObj acc c) :: [(a, go)]) σ' H' s' → (∀ b ∈ fp, H' b = none) → ∀ b ∈ fp, FpOk (gcx X A s3 H3 cenv fp) ((S, lstObj acc c) :: [(a, go)]) H' b := fun {σ' H' s' acc c} I' hn b hb =>
    ⟨hn b hb, (I'.ok.exf b hb).1, I'.ok.exfs b hb, .inl hb, fun x c e => (I'.ok.exf b hb).2 x c e, fun p hp z => by
      have hp : p ∈ (S, lstObj acc c) :: [(a, go)] := by simpa using hp
      rcases List.mem_cons.mp hp with q | q
      · rw [q] at z; exact hSf (by have z : S = b := z; rw [z]; exact hb)
      · rw [List.mem_singleton.mp q] at z; exact haf (by have z : a = b := z; rw [z]; exact hb)⟩
  intro m
  induction m using Nat.strongRecOn with
  | ind m ih =>
    intro n i ys s₀ s H hmn hG st nf w
    obtain ⟨acc, cc, rv, I⟩ := hG
    show Seg _ B _ _ _ s₀ _ ((compTurn (.GeneratorExp elt [⟨tg, iter, ifs, 0⟩] scope pos) 0 (.ref it) .none cenv).onRaise (leaving cenv)) [] s
    rw [compTurn_gen, Sem.onRaise_eq_wrap]
    refine seg_bind_wrap (wpAny_standAt ?_)
    rcases turn i m ys H w with ⟨stop, qq⟩ | ⟨go', hys, Nx, hNx, step⟩
    · refine seg_bind_wrap ?_
      rw [hov]
      refine wpAny_mono (T.done (gcx X A s3 H3 cenv fp) rfl rfl rfl hc i _ s _ H (fun _ _ => False) I (stat I nf) st stop) (fun r s6 hx => ?_) fun _ _ e => e.elim
      obtain ⟨rfl, I6⟩ := hx
      obtain ⟨z1, z2, z3, z4, _⟩ := I6.pin (S, lstObj acc cc) (List.mem_append_right _ List.mem_cons_self)
      exact seg_end (.ok .next) (.inl ⟨.inr rfl, H, ys, acc, cc, I6.os, I6.bare, I6.base, I6.hok, z2, z1, rv, by omega, qq⟩)
    · refine seg_bind_wrap ?_
      rw [hov]
      refine wpAny_mono (T.item (gcx X A s3 H3 cenv fp) rfl rfl rfl hc i _ s _ H (fun _ _ => False) I (stat I nf) st go') (fun r s6 hx => ?_) fun _ _ e => e.elim
      obtain ⟨u, rfl, h6⟩ := hx
      refine seg_bind_wrap ?_
      rw [hov]
      refine wpAny_mono h6 (fun _ s7 hx => ?_) fun _ _ e => e.elim
      obtain ⟨x, H7, I7, r7, y7, st7, n7⟩ := hx
      have I7' := I7.pinned (stat I7 n7) (T.obj _ _ st7)
      refine seg_bind_wrap ?_
      rw [hov]
      refine wpAny_mono (pg.run _ s7 _ H7 x u _ I7' r7 (step x H7 y7)) (fun _ s8 hx => ?_) fun _ _ e => e.elim
      obtain ⟨σ8, H8, I8, hw8, q8⟩ := hx
      refine seg_bind_wrap ?_
      rw [hov]
      refine wpAny_mono (pt.run _ s8 σ8 H8 _ I8 q8) (fun b s9 hx => ?_) fun _ _ e => e.elim
      obtain ⟨H9, I9, q9⟩ := hx
      have fin : ∀ {s' : Shared} {H' : Hp} {ys' : List V}, GI (gcx X A s3 H3 cenv fp) S ([(a, go)] ++ pinsAt fp s7.heap) ys' σ8 H' s' → GI (gcx X A s3 H3 cenv fp) S [(a, go)] ys' (wipe σ vs) H' s' ∧ tn (i + 1) s'.heap ∧ ∀ b ∈ fp, H' b = none := fun {s' H' ys'} hG' => by
        obtain ⟨acc', cc', rv', I'⟩ := hG'
        have I' : Inv (gcx X A s3 H3 cenv fp) (((S, lstObj acc' cc') :: [(a, go)]) ++ pinsAt fp s7.heap) σ8 H' s' := I'
        have pin' : ∀ b ∈ fp, ∀ o, s7.heap.get? b = some o → s'.heap.get? b = some o ∧ H' b = none := fun b hb o e =>
          let z := I'.pin (b, o) (List.mem_append_right _ (List.mem_append_right _ (mem_pinsAt hb e)))
          ⟨z.1, z.2.1⟩
        have hl : (wipe σ vs).length = σ8.length := by rw [← hw8, wipe_length]
        refine ⟨⟨acc', cc', rv', I'.unpinned.weak hl (fun j v e => ?_)⟩, T.keep _ _ _ st7 fun b hb o e => (pin' b hb o e).1, fun b hb => ?_⟩
        · rw [← hw8] at e
          exact (wipe_some e).1
        · obtain ⟨o, e, _⟩ := T.obj _ _ st7 b hb
          exact (pin' b hb o e).2
      cases b with
      | false =>
        simp only [Bool.false_eq_true, if_false] at q9 ⊢
        obtain ⟨m', hm, w'⟩ := hNx ys H9 q9
        obtain ⟨f1, f2, f3⟩ := fin (ys' := ys) ⟨acc, cc, rv, I9⟩
        exact seg_again rfl (ih m' hm n (i + 1) ys s₀ _ H9 hmn f1 f2 f3 w')
      | true =>
        simp only [if_true] at q9 ⊢
        have hy : ∀ v, yieldOut cenv v = yieldValue v := fun v => by simp only [yieldOut, hco, Bool.false_eq_true, if_false]
        simp only [hy]
        rw [Sem.bind_eq_wrap', Sem.bind_eq_wrap', Sem.wrap_wrap, Sem.wrap_wrap]
        refine seg_wrap ?_
        rw [hov]
        refine wpAny_mono (pe.run _ s9 σ8 H9 _ I9 q9) (fun z s10 hx => ?_) fun _ _ e => e.elim
        obtain ⟨yv, H10, I10, r10, nx⟩ := hx
        obtain ⟨n, rfl⟩ : ∃ n', n = n' + 1 := ⟨n - 1, by omega⟩
        have hasz : acc.size = ys.length := by
          have e1 := rv.length
          have e2 : acc.toList.length = acc.size := by simp
          omega
        have pS := I10.pin (S, lstObj acc cc) (List.mem_append_right _ List.mem_cons_self)
        have pA := I10.pin (a, go) (List.mem_append_right _ (List.mem_append_left _ (List.mem_cons_of_mem _ (List.mem_singleton.mpr rfl))))
        refine seg_at (seg_yield rfl rfl rfl ⟨I10.os, I10.bare, I10.nolimit, hgo _ pA.1, ⟨acc, cc, pS.1, by rw [hasz]; omega⟩, fun s'' hk => ?_⟩)
        obtain ⟨m', hm, w'⟩ := hNx (ys ++ [yv]) H10 nx
        have hG10 : GI (gcx X A s3 H3 cenv fp) S ([(a, go)] ++ pinsAt fp s7.heap) ys σ8 H10 s10 := ⟨acc, cc, rv, I10⟩
        have wk := hG10.woken (x := yv) (fun p hp => by simp at hp) (fun p hp z => by
          rcases List.mem_append.mp hp with q | q
          · rw [List.mem_singleton.mp q] at z; exact haS z
          · obtain ⟨hb, _⟩ := of_pinsAt q
            exact hSf (by rw [← z]; exact hb)) hAp r10 hk
        obtain ⟨f1, f2, f3⟩ := fin wk
        exact seg_again rfl (ih m' hm n (i + 1) (ys ++ [yv]) s'' s'' H10 (by rw [List.length_append, List.length_singleton]; omega) f1 f2 f3 w')
end
/-- tuple(g), g a generator that has not begun -/
theorem call_tuple_new {P : Program} {w : World} {outer : List Env} {H : Hp} {sc s : Shared} {ex : List Addr} {Q : List V → Hp → Prop} {A : Around} {k : Nat} {u : Value} {Q' : Value → Shared → Prop} {E : Value → Shared → Prop}
    (hr : Room (k + 1) A) (hfr : A.frames = some outer) (h : GMade P w k outer H sc ex Q (fun _ _ _ => False) u s)
    (hQ : ∀ (s' : Shared) (acc : Array Value) (H' : Hp) (ys : List V), Vals ys acc.toList → ys.length ≤ sizeLine → s'.os = sc.os → AllBare s'.gens → Un (frs outer) ex H H' sc.heap s'.heap → HOk P w H' s'.heap → Q ys H' → Q' (.ref s'.heap.objs.size) { s' with heap := s'.heap.push { cls := .type "tuple", data := .seq acc } }) :
    wpAny (model P w) A (call (.type "tuple") [u]) Q' E s := by
  obtain ⟨a, g, c, rfl, ha1, ha2, hg, hgs, hos, hb, hl, hkp, wake⟩ := h
  have hSa : s.heap.objs.size ≠ a := Nat.ne_of_gt ha2
  have hcl : cStatics < s.heap.objs.size := let ⟨_, hn, _⟩ := hl; hn.lt
  have hSc : s.heap.objs.size ≠ cStatics := Nat.ne_of_gt hcl
  refine callType_codes (Q₁ := fun obj s₁ => s₁.TypeIs obj "tuple" ∧ Q' obj s₁) F.called_tuple (F.typeCall_tuple_1 _) F.entry_object_init ?_ fun obj s₁ h₁ =>
    ⟨h₁.1, F.args_object_init_2 obj _, object_init_meets F.called_tuple.init.lookup F.called_tuple.made (by decide) P w A.in1 _ s₁ ⟨h₁.1, rfl, h₁.2⟩⟩
  refine codeAny_of_tree ?_
  show wpAny _ A.in1.in1 (do checkBuiltinCall "tuple.__new__" ⟨[.type "tuple", .ref a], []⟩; again (.builtin "tuple.__new__" ⟨[.type "tuple", .ref a], []⟩)) _ _ s
  refine wpAny_bind (wpAny_of_eq (F.newCall_tuple_1 _) (wpAny_pure ⟨plainId_quiet F.plain_tuple_new _, codeAny_builtin F.entry_tuple_new ?_⟩))
  rw [Around.under_plainId F.plain_tuple_new _]
  have hsub := sub_tuple_self
  have hinit := init_tuple_lookup
  have hmh := madeHere_tuple
  have hTI := hg.typeIs (s := s)
  have coll : ∀ {A2 : Around} {QC : List Value → Shared → Prop} {EC : Value → Shared → Prop}, A2.handled = none → A2.depth = A.depth → A2.units ≤ A.units + 8 → A2.frames = some outer →
      (∀ (s' : Shared) (acc : Array Value) (H' : Hp) (ys : List V), Vals ys acc.toList → ys.length ≤ sizeLine → s'.os = sc.os → AllBare s'.gens → Un (frs outer) ex H H' sc.heap s'.heap → HOk P w H' s'.heap → Q ys H' → QC acc.toList s') → wpAny (model P w) A2 (collect (.ref a)) QC EC s := fun {A2 QC EC} h1 h2 h3 h4 hq => by
    unfold collect
    refine wpAny_bind (wpAny_runValue (codeAny_builtin F.entry_proto_collect ?_))
    rw [Around.under_plainId F.plain_proto_collect _]
    show wpAny _ A2.in1 (newList [] >>= fun l => again (.builtin "list.__iadd__" ⟨[l, .ref a], []⟩)) _ _ s
    refine wpAny_bind (wpAny_newObj_type ?_)
    refine wpAny_pure ⟨plainId_quiet F.plain_list_iadd _, codeAny_builtin F.entry_list_iadd ?_⟩
    rw [Around.under_plainId F.plain_list_iadd _]
    show wpAny _ A2.in1 (Builtin.List.listExtendWith (.ref s.heap.objs.size) (.ref a) (.ref s.heap.objs.size)) _ _ _
    unfold Builtin.List.listExtendWith
    have up : ∀ (h : Heap) (f : Obj → Obj), (∀ b o, s.heap.get? b = some o → h.get? b = some o) → ∀ b o, s.heap.get? b = some o → (h.update s.heap.objs.size f).get? b = some o := fun h f q b o e =>
      (Heap.get?_update_other _ _ (Ne.symm (Nat.ne_of_lt (Heap.lt_size e)))).trans (q b o e)
    have k1 : ∀ b o, s.heap.get? b = some o → (s.heap.push { cls := .type "list", data := .seq ([] : List Value).toArray }).get? b = some o := fun b o e => Heap.get?_push_of_some _ e
    have gty : ∀ {h : Heap}, (∀ b o, s.heap.get? b = some o → h.get? b = some o) → h.IsGen a g := fun {h} q => hg.keeps q
    refine wpAny_bind (wpAny_typeOf (Heap.IsGen.typeIs (s := { s with heap := _ }) (gty k1)) ?_)
    have e1 : Builtin.List.listSameRef (.ref s.heap.objs.size) (.ref a) = false := by simp [Builtin.List.listSameRef, hSa]
    have e2 : (Value.type "generator" == Value.type "list") = false := by decide
    have e3 : (Value.type "generator" == Value.type "tuple") = false := by decide
    simp only [e1, e2, e3, Bool.or_false, Bool.false_eq_true, if_false]
    refine wpAny_bind (wpAny_pyIter_gen (s := { s with heap := _ }) (gty k1) ?_)
    refine wpAny_bind (wpAny_holding ?_)
    unfold Builtin.List.listLengthHint
    refine wpAny_bind (wpAny_specialOf (Heap.IsGen.typeIs (s := { s with heap := _ }) (gty k1)) F.gen_no_len ?_)
    show wpAny _ A2.in1 (specialOf (Value.ref a) (Str.ofString "__length_hint__") >>= _) _ _ _
    refine wpAny_bind (wpAny_specialOf (Heap.IsGen.typeIs (s := { s with heap := _ }) (gty k1)) F.gen_no_hint ?_)
    refine wpAny_pure ?_
    show wpAny _ A2.in1 (rule "list.extend.makes-room" >>= fun _ => Builtin.List.listTouch (.ref s.heap.objs.size) >>= fun _ =>
      again (.builtin "list.extend.loop" ⟨[.ref s.heap.objs.size, .ref a, .ref s.heap.objs.size], []⟩)) _ _ _
    refine wpAny_bind (wpAny_rule ?_)
    have hS₁ : (s.heap.push { cls := .type "list", data := .seq ([] : List Value).toArray }).get? s.heap.objs.size = some { cls := .type "list", data := .seq ([] : List Value).toArray } := Heap.get?_push_size _ rfl
    refine wpAny_bind ?_
    show wpAny _ A2.in1 (updateSeq s.heap.objs.size (·.push .none) >>= fun _ => updateSeq s.heap.objs.size (·.pop)) _ _ _
    refine wpAny_bind (wpAny_updateSeq hS₁ rfl ?_)
    have hS₂ := Heap.get?_update_self (Obj.mapSeq (·.push Value.none)) hS₁ rfl
    refine wpAny_updateSeq hS₂ rfl ?_
    have hS₃ := Heap.get?_update_self (Obj.mapSeq (·.pop)) hS₂ rfl
    have k4 := up _ (Obj.mapSeq (·.pop)) (up _ (Obj.mapSeq (·.push Value.none)) k1)
    refine wpAny_pure ⟨plainId_quiet F.plain_extend_loop _, ?_⟩
    refine drain (P := P) (w := w) (outer := outer) (H := H) (sc := sc) (ex := ex) (Q := Q) (EX := fun _ _ _ => False) (A := A2) (g := g) h1 (by have := hr.dp; omega) hSa hSc
      (fun s' acc c H' ys q1 q2 q3 q4 q5 q6 q7 q8 q9 => ?_) (fun e s' hc => by obtain ⟨_, _, _, _, _, _, _, _, _, _, _, _, hf⟩ := hc; exact hf.elim)
      sizeLine _ (gty k4) (hl.keeps k4) ⟨_, hgs, rfl, ?_⟩
    · show wpAny _ A2 (load s.heap.objs.size >>= _) _ _ s'
      refine wpAny_bind (wpAny_load q1 ?_)
      exact wpAny_pure (hq s' acc H' ys q2 q3 q4 q5 q6 q7 q9)
    · refine wake _ _ _ ⟨h1, ?_, ?_⟩ h4 (Nat.le_refl _) k4 ⟨_, hS₃⟩ hos (allBare_setGen (s := { s with heap := _ }) hb rfl)
      · have := hr.dp
        show A2.depth + 3 * k + 5 < _
        omega
      · have := hr.un
        show A2.units + 1 + 1 + 16 * k + 200 < _
        omega
  wp_walk using wpAny_typeOf hTI, coll (A2 := A.in1.in1) hr.hd rfl (by show A.units + 1 + 1 ≤ A.units + 8; omega) hfr
  intro s' acc H' ys q1 q2 q3 q4 q5 q6 q7
  show wpAny _ _ (Builtin.Tuple.tupleExact acc.toList.toArray >>= fun v => ret v) _ _ _
  unfold Builtin.Tuple.tupleExact
  have hz : acc.size ≤ sizeLine := by
    have e1 := q1.length
    have e2 : acc.toList.length = acc.size := by simp
    omega
  refine wpAny_bind (wpAny_newObj_type ?_ (by show acc.toList.toArray.size ≤ sizeLine; simp only [Array.toArray_toList]; exact hz))
  refine wpAny_pure ?_
  have e : acc.toList.toArray = acc := by simp
  rw [e]
  exact ⟨⟨_, Heap.get?_push_size _ rfl, rfl⟩, hQ s' acc H' ys q1 q2 q3 q4 q5 q6 q7⟩
end Gx

set_option Elab.async false
set_option linter.all false
set_option maxRecDepth 100000
set_option maxHeartbeats 4000000
namespace Gx
open PySem PySem.Spec PyProof.Rows L2 GenW
def tCX (wi : TI) (g : TG) (tt : TT) (te : TE) (vs : List Nat) (P : Addr) : TE := fun σ H Q => wi σ H fun J H1 => GxR.TabG H1 P ∧ ∀ H2, GxR.Tabbed P H1 H2 → ∃ W : Nat → Nat → List V → Hp → Prop, (∃ m, W 0 m [] H2) ∧
  TurnsC J g tt te vs σ (fun ys H => ∀ p, H p = none → Q (.ref p) (upd H p (.tup ys))) W
section
variable {X : Cx} {pins : List (Addr × Obj)} {σ : L2.St} {H : Hp} {s : Shared}
theorem gen_made {c P : Addr} {elt tg iter : Expr} {ifs : List Expr} {gpos : Pos} {scope : Scope} {own : List (Str × Nat)} {wi : TI} {g : TG} {tt : TT} {te : TE} {k : Nat} {QQ : List V → Hp → Prop}
    (hr : Room (k + 1) X.A) (hc : X.calm = true) (hN : X.N.Nodup) (TB : GxR.TabB X.base X.mg c P) (hcode : X.env.code = .ref c) (ok : BlkOk X.N X.env.scope scope own) (S : GenK scope) (hi : PI X tg iter wi) (hs : ∀ v, genFold iter X.env v = pure v)
    (hg : ∀ (A : Around) (s : Shared) (H : Hp) (C : Addr) (code : Value) (fp : List Addr), Room k A → PG (gcx X A s H (genEnv scope (cloFrom X.env.cells scope.names []) C code builtinsNs X.env) fp) tg g)
    (ht : ∀ (A : Around) (s : Shared) (H : Hp) (C : Addr) (code : Value) (fp : List Addr), Room k A → PTs (gcx X A s H (genEnv scope (cloFrom X.env.cells scope.names []) C code builtinsNs X.env) fp) ifs tt)
    (he : ∀ (A : Around) (s : Shared) (H : Hp) (C : Addr) (code : Value) (fp : List Addr), Room k A → PE (gcx X A s H (genEnv scope (cloFrom X.env.cells scope.names []) C code builtinsNs X.env) fp) elt te)
    (I : Inv X pins σ H s) (h : wi σ H fun J H1 => GxR.TabG H1 P ∧ ∀ H2, GxR.Tabbed P H1 H2 → ∃ W : Nat → Nat → List V → Hp → Prop, (∃ m, W 0 m [] H2) ∧ TurnsC J g tt te (own.map (·.2)) σ QQ W) :
    wpAny (model X.prog X.w) X.A (eval (.GeneratorExp elt [⟨tg, iter, ifs, 0⟩] scope gpos) X.env) (fun v s5 => ∃ (s3 : Shared) (H3 : Hp) (fp : List Addr), GMade X.prog X.w (k + 1) X.stack H3 s3 fp QQ (fun _ _ _ => False) v s5 ∧
      ∀ (H' : Hp) (s' : Shared), s'.os = s3.os → AllBare s'.gens → Un (frs X.stack) fp H3 H' s3.heap s'.heap → HOk X.prog X.w H' s'.heap → Inv X pins σ H' s') X.xe s := by
  have hfree : ∀ y ∈ scope.names, y.2 = .free → ∃ c, X.env.cells.lookup y.1 = some c := fun y hy e => by
    rcases ok.free y hy e with k | k
    · exact I.ok.has _ (.inl k)
    · exact I.ok.has _ (.inr k)
  refine wpAny_GeneratorExp_make S.co (closure_ok hfree) S.cell S.dot ok.kind hr.depth (wpAny_mono (hi.run pins s σ H _ I h) (fun xv s1 h1 => wpAny_mono h1 (fun itv s2 h2 => ?_) fun _ _ e => e) fun _ _ e => e) hs
  obtain ⟨it, fp, tn, J, H1, rfl, I2, T, st2, f2, ⟨ps, hP, htr⟩, hW⟩ := h2
  refine ⟨I2.nolimit, ?_⟩
  have tabS : s2.heap.get? P = some { cls := .none, data := .fields ps } := I2.hok P _ hP
  have hd : PySem.W.CodeHd s2.heap c P := TB.code.keeps fun b u e => I2.bk b u e
  have key : ∀ (REST : Value → Shared → Prop), (∀ (cv : Value) (h3 : Heap) (tk : Nat) (more : Array Value), Heap.ExtBut P s2.heap h3 → s2.heap.objs.size ≤ h3.objs.size → h3.get? P = some { cls := .none, data := .fields (ps ++ more) } → TriplesOk (ps ++ more).toList → REST cv { s2 with heap := h3, toks := tk }) →
      wpAny (model X.prog X.w) X.A (genexprCode X.env gpos (X.env.qual ++ "<genexpr>") scope) REST X.xe s2 := fun REST fin => by
    cases hf : codeAmong gpos ps.toList with
    | some cv =>
      have e : ps = ps ++ #[] := by simp
      exact wpAny_genexprCode_hit hcode (hd.code tabS htr) hf (fin cv _ s2.toks #[] (Heap.ExtBut.refl _ _) (Nat.le_refl _) (e ▸ tabS) (e ▸ htr))
    | none =>
      refine wpAny_genexprCodeX hcode (hd.code tabS htr) (hd.tab tabS) hf fun c' h3 tk ex ge lt ic _ ta _ => ?_
      obtain ⟨_, _, _, _, _, _, _, _, _, _, _, _, _, _, _, _, _, _, _, tr, _⟩ := ic
      exact fin _ h3 tk _ ex (Nat.le_trans ge (Nat.le_of_lt lt)) ta.2 tr
  refine key _ fun cv h3 tk more ex ge tab3 tr3 => ?_
  obtain ⟨bm, ob, b1, b2, b3, b4, b5, b6, b7, b8⟩ := TB.bm
  refine wpAny_builtinsFor (m := X.mg) (by rw [I2.ok.glob]; exact (I2.mod.glob.keeps I2.bk).extBut ex TB.gP) b1 b2 (ex _ _ b4 (I2.bk _ _ b5)) b6 b7 b8 ?_
  intro h' hn' hs'
  generalize hs3 : ({ s2 with heap := h3, toks := tk } : Shared) = s3 at hn' hs' ⊢
  have e3 : s3.heap = h3 := by rw [← hs3]
  have I3 : Inv X pins σ (upd H1 P (.tbl (ps ++ more))) s3 := by
    rw [← hs3]
    exact GxR.inv_tab (more := more) (h' := h3) (g' := s2.gens) (d' := s2.drawn) (t' := tk) I2 hP (fun b o n e => ex b o n e) tab3 I2.bare
  obtain ⟨W, ⟨m0, w0⟩, turn⟩ := hW _ ⟨⟨ps ++ more, upd_same, tr3⟩, fun b hb => upd_ne hb⟩
  have neP : ∀ b ∈ fp, b ≠ P := fun b hb z => by
    have := (f2 b hb).1
    rw [z, hP] at this
    cases this
  have f3 : ∀ b ∈ fp, FpOk X pins (upd H1 P (.tbl (ps ++ more))) b ∧ b < s3.heap.objs.size := fun b hb => by
    obtain ⟨o, e, _⟩ := T.obj _ _ st2 b hb
    refine ⟨⟨?_, (f2 b hb).2⟩, by rw [e3]; exact Nat.lt_of_lt_of_le (Heap.lt_size e) ge⟩
    rw [upd_ne (neP b hb)]
    exact (f2 b hb).1
  have st3 : tn 0 s3.heap := T.keep _ _ _ st2 fun b hb o e => by rw [e3]; exact ex b o (neP b hb) e
  generalize hH3 : upd H1 P (.tbl (ps ++ more)) = H3 at I3 w0 f3
  have nf : ∀ b ∈ fp, H3 b = none := fun b hb => (f3 b hb).1.1
  generalize hgo : ({ cls := .type "generator", data := .fields #[.int s3.gens.size 0, .str "<genexpr>" (s3.toks + 1), .str (X.env.qual ++ "<genexpr>") (s3.toks + 1 + 1)] } : Obj) = go
  have sz' : h'.objs.size = s3.heap.objs.size + 1 := by rw [hs'.1, Heap.size_push]
  generalize hs5 : ({ s3 with gens := s3.gens.push (.fresh (.compStart (.GeneratorExp elt [⟨tg, iter, ifs, 0⟩] scope gpos) 0 (.ref it) .none (genEnv scope (cloFrom X.env.cells scope.names []) s3.heap.objs.size cv builtinsNs X.env))), toks := s3.toks + 1 + 1 + 1, heap := h'.push go } : Shared) = s5
  have h5 : s5.heap = h'.push go := by rw [← hs5]
  have sz5 : s5.heap.objs.size = h'.objs.size + 1 := by rw [h5, Heap.size_push]
  have kp : Kept s3 s5 := by
    refine ⟨by rw [← hs5], by rw [← hs5]; exact AllBare.push I3.bare rfl, fun b o e => ?_⟩
    rw [h5]
    exact Heap.get?_push_of_some _ (hs'.extBut b o (Nat.ne_of_lt (Heap.lt_size e)) (Heap.get?_push_of_some _ e))
  have hga : s5.heap.get? h'.objs.size = some go := by rw [h5, ← hgo]; exact Heap.get?_push_size _ rfl
  have isg : ∀ h : Heap, h.get? h'.objs.size = some go → h.IsGen h'.objs.size s3.gens.size := fun h e => ⟨go, _, _, e, by rw [← hgo], by rw [← hgo], by rw [← hgo]⟩
  have hgs : s5.gens[s3.gens.size]? = some (.fresh (.compStart (.GeneratorExp elt [⟨tg, iter, ifs, 0⟩] scope gpos) 0 (.ref it) .none (genEnv scope (cloFrom X.env.cells scope.names []) s3.heap.objs.size cv builtinsNs X.env))) := by
    rw [← hs5]
    exact Array.getElem?_push_size ..
  have hns : s5.heap.Ns s3.heap.objs.size (fun y => if y = ".0" then some (.ref it) else none) := by rw [h5]; exact hn'.push _
  have nstk : ∀ b, s3.heap.objs.size ≤ b → b ∉ frs X.stack := fun b hb z => by
    rcases List.mem_cons.mp (I3.stkSub _ z) with z | z
    · exact absurd (Nat.lt_of_lt_of_le I3.lt (show s3.heap.objs.size ≤ X.env.locals by rw [← z]; exact hb)) (Nat.lt_irrefl _)
    · exact I3.nofs hb z
  have lt35 : s3.heap.objs.size < s5.heap.objs.size := by omega
  refine ⟨s3, H3, fp, ⟨h'.objs.size, s3.gens.size, _, rfl, (show s3.heap.objs.size ≤ h'.objs.size by omega), (show h'.objs.size < s5.heap.objs.size by omega), isg _ hga, hgs, kp.os, kp.bare, I3.nolimit.keeps kp.keep, kp.keep, fun A' Sx s6 hrA hfrA hSx hk6 hSo hos hba => ?_⟩, fun H' s' ho hb hu hok => I3.call' (ch := fp) ho hu hok hb fun b hb => ⟨(f3 b hb).1.2.2.2.1, (f3 b hb).1.2.1, (f3 b hb).1.2.2.2.2.1, (f3 b hb).1.2.2.2.2.2⟩⟩
  have k6 : Kept s3 s6 := ⟨hos, hba, fun b o e => hk6 b o (kp.keep b o e)⟩
  have rm : Room k (A'.over (.compLoop (.GeneratorExp elt [⟨tg, iter, ifs, 0⟩] scope gpos) 0 (.ref it) .none (genEnv scope (cloFrom X.env.cells scope.names []) s3.heap.objs.size cv builtinsNs X.env)) []) := by
    have h1 := hrA.dp
    have h2 := hrA.un
    refine ⟨hrA.hd, ?_, ?_⟩
    · show A'.depth + 0 + 1 + 3 * k + 5 < _
      omega
    · show A'.units + 0 + 3 + 16 * k + 200 < _
      omega
  have Ig := gen_start I3 ok S hN f3 rm.hd (over_gen hfrA) k6 (hns.keeps hk6)
  obtain ⟨cS, heS⟩ := hSo
  have Sx3 : s3.heap.objs.size ≤ Sx := Nat.le_trans (Nat.le_of_lt lt35) hSx
  have SxC : Sx ≠ s3.heap.objs.size := Nat.ne_of_gt (Nat.lt_of_lt_of_le lt35 hSx)
  have aS : h'.objs.size ≠ Sx := Nat.ne_of_lt (Nat.lt_of_lt_of_le (by omega) hSx)
  have hG : GI (gcx X (A'.over (.compLoop (.GeneratorExp elt [⟨tg, iter, ifs, 0⟩] scope gpos) 0 (.ref it) .none (genEnv scope (cloFrom X.env.cells scope.names []) s3.heap.objs.size cv builtinsNs X.env)) []) s3 H3 (genEnv scope (cloFrom X.env.cells scope.names []) s3.heap.objs.size cv builtinsNs X.env) fp) Sx [(h'.objs.size, go)] [] (wipe σ (own.map (·.2))) H3 s6 := by
    refine ⟨#[], cS, .nil, Ig.pins_of fun p hp => ?_⟩
    rcases List.mem_cons.mp hp with z | z
    · rw [z]
      exact ⟨heS, I3.hok.fresh Sx3, SxC, nstk _ Sx3, fun v q => by cases q⟩
    · rw [List.mem_singleton.mp z]
      exact ⟨hk6 _ _ hga, I3.hok.fresh (by omega), by show h'.objs.size ≠ s3.heap.objs.size; omega, nstk _ (by omega), fun v q => by rw [← hgo] at q; cases q⟩
  have st6 : tn 0 s6.heap := T.keep _ _ _ st3 fun b hb o e => k6.keep b o e
  have hAp : Apart (gcx X (A'.over (.compLoop (.GeneratorExp elt [⟨tg, iter, ifs, 0⟩] scope gpos) 0 (.ref it) .none (genEnv scope (cloFrom X.env.cells scope.names []) s3.heap.objs.size cv builtinsNs X.env)) []) s3 H3 (genEnv scope (cloFrom X.env.cells scope.names []) s3.heap.objs.size cv builtinsNs X.env) fp) Sx := by
    refine ⟨Sx3, SxC, fun x c e z => ?_⟩
    obtain ⟨v, q⟩ := Ig.cell x c e
    have hcl : X.env.cells.lookup x = some c := by
      have e : (cloFrom X.env.cells scope.names []).lookup x = some c := e
      rcases cloFrom_mem (PySem.mem_of_lookup e) with hm | ⟨h1, rfl⟩
      · cases hm
      · obtain ⟨c, hc⟩ := hfree _ h1 rfl
        rw [hc]
        rfl
    obtain ⟨v3, q3⟩ := I3.cell x c hcl
    exact absurd (Nat.lt_of_lt_of_le q3.lt (by rw [z]; exact Sx3)) (Nat.lt_irrefl _)
  refine seg_start T st6 (seg_loopC T hc rfl S.co (fun z => ?_) (fun z => ?_) aS hAp isg (hg _ _ _ _ _ _ rm) (ht _ _ _ _ _ _ rm) (he _ _ _ _ _ _ rm) turn m0 sizeLine 0 [] _ _ H3 (Nat.add_zero _) hG st6 nf w0)
  · have q : h'.objs.size < s3.heap.objs.size := (f3 _ z).2
    omega
  · exact absurd (Nat.lt_of_lt_of_le (f3 _ z).2 Sx3) (Nat.lt_irrefl _)
theorem pe_tupX {c P : Addr} {elt tg iter : Expr} {ifs : List Expr} {gpos p pos : Pos} {scope : Scope} {own : List (Str × Nat)} {wi : TI} {g : TG} {tt : TT} {te : TE} {k : Nat}
    (hr : Room (k + 2) X.A) (hgl : Gl X "tuple") (hm : X.mg "tuple" = none) (hc : X.calm = true) (hN : X.N.Nodup) (TB : GxR.TabB X.base X.mg c P) (hcode : X.env.code = .ref c) (ok : BlkOk X.N X.env.scope scope own) (S : GenK scope) (hi : PI X tg iter wi)
    (hg : ∀ (A : Around) (s : Shared) (H : Hp) (C : Addr) (code : Value) (fp : List Addr), Room k A → PG (gcx X A s H (genEnv scope (cloFrom X.env.cells scope.names []) C code builtinsNs X.env) fp) tg g)
    (ht : ∀ (A : Around) (s : Shared) (H : Hp) (C : Addr) (code : Value) (fp : List Addr), Room k A → PTs (gcx X A s H (genEnv scope (cloFrom X.env.cells scope.names []) C code builtinsNs X.env) fp) ifs tt)
    (he : ∀ (A : Around) (s : Shared) (H : Hp) (C : Addr) (code : Value) (fp : List Addr), Room k A → PE (gcx X A s H (genEnv scope (cloFrom X.env.cells scope.names []) C code builtinsNs X.env) fp) elt te)
    (hs : ∀ v, genFold iter X.env v = pure v := by intro _; rfl)
    (hst : starEach [.GeneratorExp elt [⟨tg, iter, ifs, 0⟩] scope gpos] X.env = (false, eval (.GeneratorExp elt [⟨tg, iter, ifs, 0⟩] scope gpos) X.env) :: starEach [] X.env := by rfl) :
    PE X (.Call (.Name "tuple" p) [.GeneratorExp elt [⟨tg, iter, ifs, 0⟩] scope gpos] [] pos) (tCX wi g tt te (own.map (·.2)) P) := by
  refine ⟨fun pins s σ H Q I h => ?_⟩
  refine wpAny_Call_Name_kw (ld_blt I hgl hm boot_tuple (PyProof.Rows.callWith_type1 ?_ hst (by rfl)))
  rw [hst]
  show wpAny _ _ (spliced ((false, _) :: backTo pos (starEach [] X.env))) _ _ s
  refine Calls.spliced_cons (wpAny_mono (gen_made (k := k) (hr.mono (by omega)) hc hN TB hcode ok S hi hs hg ht he I h) (fun v s5 hx => ?_) fun _ _ e => e)
  obtain ⟨s3, H3, fp, hG, back⟩ := hx
  refine Calls.spliced_nil (call_tuple_new hr I.ok.frames hG fun s' acc H' ys q1 q2 q3 q4 q5 q6 q7 => ?_)
  have J := back H' s' q3 q4 q5 q6
  refine ⟨.ref s'.heap.objs.size, _, J.laid (t' := s'.toks) (o := .tup ys) (fun b u e => Heap.get?_push_of_some _ e) (Nat.le_refl _) ⟨q2, acc.toList, q1, ?_⟩, rfl, q7 _ (J.hok.fresh (Nat.le_refl _))⟩
  have z := IsTup.new s'.heap acc
  simpa using z
end
/-! ### turns, by source -/
theorem tup_tup {K : PySem.W.Frag} {a : Addr} {xs : List V} {g : TG} {tt : TT} {te : TE} {vs : List Nat} {σ : L2.St} {Q : List V → Hp → Prop} {H2 : Hp} (hz : xs.length ≤ sizeLine) (Pv : Nat → List V → Hp → Prop) (h0 : Pv 0 [] H2) (hl : ∀ i ys H, i ≤ xs.length → Pv i ys H → SqT K H a xs) (hy : ∀ i ys H, Pv i ys H → ys.length ≤ i)
    (hs : ∀ i x ys H, xs[i]? = some x → Pv i ys H → g x (wipe σ vs) H fun σ2 H2 => wipe σ2 vs = wipe σ vs ∧ tt σ2 H2 fun b H3 => if b = true then te σ2 H3 fun y H4 => Pv (i + 1) (ys ++ [y]) H4 else Pv (i + 1) ys H3) (hd : ∀ ys H, Pv xs.length ys H → Q ys H) :
    ∃ W : Nat → Nat → List V → Hp → Prop, (∃ m, W 0 m [] H2) ∧ TurnsC (Itt K a) g tt te vs σ Q W := by
  refine ⟨fun i m ys H => m = xs.length - i ∧ i ≤ xs.length ∧ Pv i ys H, ⟨xs.length, by simp, Nat.zero_le _, h0⟩, ?_⟩
  rintro i m ys H ⟨rfl, hi, p⟩
  have q := hl i ys H hi p
  by_cases hlt : i < xs.length
  · refine .inr ⟨⟨xs, xs[i], q, by simp [hlt]⟩, Nat.lt_of_le_of_lt (hy i ys H p) (Nat.lt_of_lt_of_le hlt hz), Pv (i + 1), fun ys' H' p' => ⟨xs.length - (i + 1), by omega, rfl, hlt, p'⟩, fun x H' y => ?_⟩
    obtain ⟨e, y⟩ := y
    subst e
    exact hs i x ys _ (y xs q) p
  · have e : i = xs.length := by omega
    subst e
    exact .inl ⟨⟨xs, q, Nat.le_refl _⟩, hd ys H p⟩
end Gx

set_option Elab.async false
set_option linter.all false
set_option maxRecDepth 100000
set_option maxHeartbeats 4000000
/-! runs, by themselves -/
namespace Dt
open PySem PySem.Spec PyProof.Rows L2
abbrev Log := List (Int × List Int)
abbrev Res := Bool × List Int × Log
def stand (tb : List (List Int)) (tk : List Int) : List Int := List.zipWith atF tb tk
def leftOf (tb : List (List Int)) (tk : List Int) : List (List Int) := List.zipWith (fun ds k => ds.drop (k.toNat + 1)) tb tk
def firstB (fs : List Int) (wds : List WD) (ord : List Int) : Option Int := ord.find? fun n => brkAt fs wds n.toNat
def plc (wds : List WD) (k : Int) : List Int := (wds.getD k.toNat ([], [])).1
def lenAt (tb : List (List Int)) (p : Int) : Int := ((tb.getD p.toNat []).length : Int)
def canN (tb : List (List Int)) (tk ps : List Int) : Bool := ps.all fun p => decide (atF tk p + 1 < lenAt tb p)
def bumpA (tk ps : List Int) : List Int := ps.foldl (fun t p => bump t p.toNat) tk
def goR (wds : List WD) (tb : List (List Int)) (ord : List Int) : Nat → List Int → Log → Option Res
  | 0, _, _ => none
  | n + 1, tk, log => match firstB (stand tb tk) wds ord with
    | none => some (true, stand tb tk, log)
    | some k => if canN tb tk (plc wds k) = true then goR wds tb ord n (bumpA tk (plc wds k)) (log ++ [(k, huesA (stand tb tk) (plc wds k))]) else some (false, stand tb tk, log)
structure GoodT (many hues : Int) (tb : List (List Int)) : Prop where
  len : (tb.length : Int) = many
  one : ∀ ds ∈ tb, 1 ≤ ds.length
  few : ∀ ds ∈ tb, ds.length ≤ 1000
  hue : ∀ ds ∈ tb, ∀ h ∈ ds, 0 ≤ h ∧ h < hues
structure GoodK (tb : List (List Int)) (tk : List Int) : Prop where
  len : tk.length = tb.length
  at_ : ∀ p : Nat, p < tb.length → 0 ≤ tk.getD p 0 ∧ tk.getD p 0 < ((tb.getD p []).length : Int)
/-- an order of so many numbers -/
structure GoodO (n : Nat) (ord : List Int) : Prop where
  mem : ∀ z ∈ ord, 0 ≤ z ∧ z < (n : Int)
  all : ∀ k : Nat, k < n → (k : Int) ∈ ord
  len : ord.length ≤ n
def zerosI (n : Nat) : List Int := List.replicate n 0
def rem (tb : List (List Int)) (tk : List Int) : Nat := (List.zipWith (fun (ds : List Int) (k : Int) => ds.length - 1 - k.toNat) tb tk).sum
def runOf (wds : List WD) (tb : List (List Int)) (ord : List Int) : Option Res := goR wds tb ord (rem tb (zerosI tb.length) + 1) (zerosI tb.length) []
theorem getD_get {α : Type} {l : List α} {p : Nat} {d : α} (h : p < l.length) : l.getD p d = l[p] := by
  rw [List.getD_eq_getElem?_getD, List.getElem?_eq_getElem h]
  rfl
theorem getD_mem {α : Type} {l : List α} {p : Nat} {d : α} (h : p < l.length) : l.getD p d ∈ l := by
  rw [getD_get h]
  exact List.getElem_mem h
theorem bump_get (tk : List Int) (p i : Nat) : (bump tk p).getD i 0 = if i = p ∧ p < tk.length then tk.getD p 0 + 1 else tk.getD i 0 := by
  unfold bump
  rw [List.getD_eq_getElem?_getD, List.getElem?_set]
  by_cases h : p = i
  · subst h
    by_cases h2 : p < tk.length
    · rw [if_pos rfl, if_pos h2, if_pos ⟨rfl, h2⟩]
      rfl
    · rw [if_pos rfl, if_neg h2, if_neg (fun z => h2 z.2), List.getD_eq_getElem?_getD, List.getElem?_eq_none (by omega)]
  · rw [if_neg h, if_neg (fun z => h z.1.symm), List.getD_eq_getElem?_getD]
theorem zeros_get (n p : Nat) : (zerosI n).getD p 0 = 0 := by
  unfold zerosI
  rw [List.getD_eq_getElem?_getD, List.getElem?_replicate]
  split <;> rfl
theorem zeros_good {many hues : Int} {tb : List (List Int)} (g : GoodT many hues tb) : GoodK tb (zerosI tb.length) := by
  refine ⟨by simp [zerosI], fun p hp => ?_⟩
  rw [zeros_get]
  have := g.one _ (getD_mem (d := []) hp)
  omega
theorem stand_len {tb : List (List Int)} {tk : List Int} (g : GoodK tb tk) : (stand tb tk).length = tb.length := by
  unfold stand
  rw [List.length_zipWith, g.len, Nat.min_self]
theorem left_len {tb : List (List Int)} {tk : List Int} (g : GoodK tb tk) : (leftOf tb tk).length = tb.length := by
  unfold leftOf
  rw [List.length_zipWith, g.len, Nat.min_self]
theorem stand_get {tb : List (List Int)} {tk : List Int} (g : GoodK tb tk) {p : Nat} (hp : p < tb.length) : (stand tb tk)[p]? = some (atF (tb.getD p []) (tk.getD p 0)) := by
  have h2 : p < tk.length := by rw [g.len]; exact hp
  unfold stand
  rw [List.getElem?_zipWith, List.getElem?_eq_getElem hp, List.getElem?_eq_getElem h2, getD_get hp, getD_get h2]
theorem left_get {tb : List (List Int)} {tk : List Int} (g : GoodK tb tk) {p : Nat} (hp : p < tb.length) : (leftOf tb tk)[p]? = some ((tb.getD p []).drop ((tk.getD p 0).toNat + 1)) := by
  have h2 : p < tk.length := by rw [g.len]; exact hp
  unfold leftOf
  rw [List.getElem?_zipWith, List.getElem?_eq_getElem hp, List.getElem?_eq_getElem h2, getD_get hp, getD_get h2]
theorem stand_good {many hues : Int} {tb : List (List Int)} {tk : List Int} (gt : GoodT many hues tb) (g : GoodK tb tk) : GoodF many hues (stand tb tk) := by
  refine ⟨by rw [stand_len g]; exact gt.len, fun h hh => ?_⟩
  obtain ⟨p, hp, e⟩ := List.getElem_of_mem hh
  rw [stand_len g] at hp
  have e2 := stand_get g hp
  rw [List.getElem?_eq_getElem (by rw [stand_len g]; exact hp), e] at e2
  cases e2
  have a := g.at_ p hp
  have m : (tk.getD p 0).toNat < (tb.getD p []).length := by omega
  exact gt.hue _ (getD_mem hp) _ (getD_mem m)
theorem first_some {fs : List Int} {wds : List WD} {ord : List Int} {k : Int} (h : firstB fs wds ord = some k) : k ∈ ord ∧ brkAt fs wds k.toNat = true := ⟨List.mem_of_find?_eq_some h, by
  have z := List.find?_some (p := fun n : Int => brkAt fs wds n.toNat) (l := ord) (a := k) h
  exact z⟩
theorem wd_of {wds : List WD} {k : Int} (h0 : 0 ≤ k) (h1 : k < (wds.length : Int)) : ∃ wd, wds[k.toNat]? = some wd ∧ plc wds k = wd.1 := by
  have h : k.toNat < wds.length := by omega
  exact ⟨wds[k.toNat], List.getElem?_eq_getElem h, by rw [plc, getD_get h]⟩
/-! ### one more draw at a place -/
theorem rem_bump : ∀ {tb : List (List Int)} {tk : List Int} {p : Nat}, p < tb.length → p < tk.length → 0 ≤ tk.getD p 0 → tk.getD p 0 + 1 < ((tb.getD p []).length : Int) → rem tb (bump tk p) + 1 = rem tb tk
  | [], _, _, h, _, _, _ => absurd h (Nat.not_lt_zero _)
  | _ :: _, [], _, _, h, _, _ => absurd h (Nat.not_lt_zero _)
  | ds :: r, k :: q, 0, _, _, h0, h1 => by
    simp only [List.getD_cons_zero] at h0 h1
    unfold rem bump
    simp only [List.getD_cons_zero, List.set_cons_zero, List.zipWith_cons_cons, List.sum_cons]
    omega
  | ds :: r, k :: q, p + 1, hp, hq, h0, h1 => by
    simp only [List.getD_cons_succ] at h0 h1
    have ih := rem_bump (tb := r) (tk := q) (p := p) (Nat.lt_of_succ_lt_succ hp) (Nat.lt_of_succ_lt_succ hq) h0 h1
    unfold rem bump at ih ⊢
    simp only [List.getD_cons_succ, List.set_cons_succ, List.zipWith_cons_cons, List.sum_cons] at ih ⊢
    omega
theorem good_bump {tb : List (List Int)} {tk : List Int} {p : Nat} (g : GoodK tb tk) (hp : p < tb.length) (h : tk.getD p 0 + 1 < ((tb.getD p []).length : Int)) : GoodK tb (bump tk p) := by
  refine ⟨by rw [bump_len]; exact g.len, fun i hi => ?_⟩
  have a := g.at_ i hi
  rw [bump_get]
  by_cases e : i = p
  · subst e
    rw [if_pos ⟨rfl, by rw [g.len]; exact hp⟩]
    omega
  · rw [if_neg (fun z => e z.1)]
    exact a
theorem stand_bump {tb : List (List Int)} {tk : List Int} {p : Nat} {x : Int} {r : List Int} (g : GoodK tb tk) (hp : p < tb.length) (h : (leftOf tb tk)[p]? = some (x :: r)) : stand tb (bump tk p) = (stand tb tk).set p x ∧ leftOf tb (bump tk p) = (leftOf tb tk).set p r ∧ tk.getD p 0 + 1 < ((tb.getD p []).length : Int) := by
  rw [left_get g hp] at h
  have a := g.at_ p hp
  have e := Option.some.inj h
  have hl : (tk.getD p 0).toNat + 1 < (tb.getD p []).length := by
    have z := congrArg List.length e
    rw [List.length_drop, List.length_cons] at z
    omega
  have hc : tk.getD p 0 + 1 < ((tb.getD p []).length : Int) := by omega
  have g2 := good_bump g hp hc
  have en : (tk.getD p 0 + 1).toNat = (tk.getD p 0).toNat + 1 := by omega
  have ex : (tb.getD p []).getD ((tk.getD p 0).toNat + 1) 0 = x := by
    have z := congrArg (fun l : List Int => l[0]?) e
    simp only [List.getElem?_drop, List.getElem?_cons_zero, Nat.add_zero] at z
    rw [List.getD_eq_getElem?_getD, z]
    rfl
  have er : (tb.getD p []).drop ((tk.getD p 0).toNat + 1 + 1) = r := by
    have z := congrArg (fun l : List Int => l.drop 1) e
    simp only [List.drop_drop, List.drop_succ_cons, List.drop_zero] at z
    exact z
  refine ⟨?_, ?_, hc⟩
  · refine List.ext_getElem? fun i => ?_
    rw [List.getElem?_set]
    by_cases hi : i < tb.length
    · rw [stand_get g2 hi, bump_get]
      by_cases e2 : p = i
      · subst e2
        rw [if_pos ⟨rfl, by rw [g.len]; exact hp⟩, if_pos rfl, if_pos (by rw [stand_len g]; exact hp)]
        unfold atF
        rw [en, ex]
      · rw [if_neg (fun z => e2 z.1.symm), if_neg e2, stand_get g hi]
    · rw [List.getElem?_eq_none (by rw [stand_len g2]; omega), if_neg (by omega), List.getElem?_eq_none (by rw [stand_len g]; omega)]
  · refine List.ext_getElem? fun i => ?_
    rw [List.getElem?_set]
    by_cases hi : i < tb.length
    · rw [left_get g2 hi, bump_get]
      by_cases e2 : p = i
      · subst e2
        rw [if_pos ⟨rfl, by rw [g.len]; exact hp⟩, if_pos rfl, if_pos (by rw [left_len g]; exact hp), en, er]
      · rw [if_neg (fun z => e2 z.1.symm), if_neg e2, left_get g hi]
    · rw [List.getElem?_eq_none (by rw [left_len g2]; omega), if_neg (by omega), List.getElem?_eq_none (by rw [left_len g]; omega)]
/-! ### one more draw at some places -/
structure Can (tb : List (List Int)) (tk ps : List Int) : Prop where
  nd : ps.Nodup
  pl : ∀ p ∈ ps, 0 ≤ p ∧ p < (tb.length : Int)
  nx : ∀ p ∈ ps, atF tk p + 1 < lenAt tb p
theorem Can.tail {tb : List (List Int)} {tk ps : List Int} {p : Int} (c : Can tb tk (p :: ps)) : Can tb (bump tk p.toNat) ps := by
  refine ⟨(List.nodup_cons.mp c.nd).2, fun q hq => c.pl q (List.mem_cons_of_mem _ hq), fun q hq => ?_⟩
  have hp := c.pl p List.mem_cons_self
  have hq2 := c.pl q (List.mem_cons_of_mem _ hq)
  have hne : q ≠ p := fun z => (List.nodup_cons.mp c.nd).1 (z ▸ hq)
  have := c.nx q (List.mem_cons_of_mem _ hq)
  unfold atF at this ⊢
  rw [bump_get, if_neg (fun z => hne (by omega))]
  exact this
theorem bumpA_good : ∀ {ps : List Int} {tb : List (List Int)} {tk : List Int}, GoodK tb tk → Can tb tk ps → GoodK tb (bumpA tk ps) ∧ rem tb (bumpA tk ps) + ps.length = rem tb tk
  | [], _, _, g, _ => ⟨g, rfl⟩
  | p :: ps, tb, tk, g, c => by
    have hp := c.pl p List.mem_cons_self
    have hn := c.nx p List.mem_cons_self
    have hpn : p.toNat < tb.length := by omega
    have g2 := good_bump g hpn hn
    have a := g.at_ _ hpn
    have r := rem_bump (tb := tb) (tk := tk) hpn (by rw [g.len]; exact hpn) a.1 hn
    obtain ⟨i1, i2⟩ := bumpA_good (ps := ps) g2 c.tail
    refine ⟨i1, ?_⟩
    show rem tb (bumpA (bump tk p.toNat) ps) + (ps.length + 1) = rem tb tk
    omega
theorem can_of {many hues : Int} {wds : List WD} {tb : List (List Int)} {tk : List Int} {k : Int} {wd : WD} (gr : GoodR many hues wds) (nd : ∀ wd ∈ wds, wd.1.Nodup) (gt : GoodT many hues tb) (hw : wds[k.toNat]? = some wd) (he : plc wds k = wd.1) (h : canN tb tk (plc wds k) = true) : Can tb tk (plc wds k) := by
  have hm := List.mem_of_getElem? hw
  rw [he] at h ⊢
  refine ⟨nd wd hm, fun p hp => ?_, fun p hp => ?_⟩
  · have := (gr.each wd hm).pl p hp
    have := gt.len
    omega
  · exact of_decide_eq_true (List.all_eq_true.mp h p hp)
def LogOk (wds : List WD) (log : Log) : Prop := ∀ e ∈ log, 0 ≤ e.1 ∧ e.1 < (wds.length : Int) ∧ ∃ wd, wds[e.1.toNat]? = some wd ∧ e.2 ∈ wd.2
theorem LogOk.nil (wds : List WD) : LogOk wds [] := fun _ h => nomatch h
theorem LogOk.snoc {wds : List WD} {log : Log} {fs : List Int} {k : Int} {wd : WD} (h : LogOk wds log) (h0 : 0 ≤ k) (h1 : k < (wds.length : Int)) (hw : wds[k.toNat]? = some wd) (he : plc wds k = wd.1) (hb : brkAt fs wds k.toNat = true) : LogOk wds (log ++ [(k, huesA fs (plc wds k))]) := by
  intro e hm
  rcases List.mem_append.mp hm with z | z
  · exact h e z
  · rw [List.mem_singleton.mp z]
    refine ⟨h0, h1, wd, hw, ?_⟩
    rw [brkAt_of hw] at hb
    rw [he]
    exact of_decide_eq_true hb
theorem goR_total {many hues : Int} {wds : List WD} {tb : List (List Int)} {ord : List Int} (gr : GoodR many hues wds) (nd : ∀ wd ∈ wds, wd.1.Nodup) (gt : GoodT many hues tb) (go : GoodO wds.length ord) :
    ∀ (n : Nat) (tk : List Int) (log : Log), GoodK tb tk → LogOk wds log → rem tb tk < n → ∃ R, goR wds tb ord n tk log = some R ∧ GoodF many hues R.2.1 ∧ LogOk wds R.2.2 ∧ R.2.2.length ≤ log.length + rem tb tk
  | 0, _, _, _, _, h => absurd h (Nat.not_lt_zero _)
  | n + 1, tk, log, g, hl, h => by
    cases e : firstB (stand tb tk) wds ord with
    | none => exact ⟨(true, stand tb tk, log), by simp only [goR, e], stand_good gt g, hl, Nat.le_add_right _ _⟩
    | some k =>
      obtain ⟨hk, hb⟩ := first_some e
      obtain ⟨k0, k1⟩ := go.mem k hk
      obtain ⟨wd, hw, he⟩ := wd_of k0 k1
      cases c : canN tb tk (plc wds k) with
      | false => exact ⟨(false, stand tb tk, log), by simp only [goR, e, c]; rfl, stand_good gt g, hl, Nat.le_add_right _ _⟩
      | true =>
        have cn := can_of gr nd gt hw he c
        obtain ⟨g2, r2⟩ := bumpA_good g cn
        have one := (gr.each wd (List.mem_of_getElem? hw)).one
        rw [← he] at one
        obtain ⟨R, hR, a1, a2, a3⟩ := goR_total gr nd gt go n (bumpA tk (plc wds k)) (log ++ [(k, huesA (stand tb tk) (plc wds k))]) g2 (hl.snoc k0 k1 hw he hb) (by omega)
        refine ⟨R, by simp only [goR, e, c, if_true]; exact hR, a1, a2, ?_⟩
        rw [List.length_append, List.length_singleton] at a3
        omega
theorem rem_le : ∀ (tb : List (List Int)) (tk : List Int) (b : Nat), (∀ ds ∈ tb, ds.length ≤ b) → rem tb tk ≤ tb.length * b
  | [], _, _, _ => by simp [rem]
  | _ :: _, [], _, _ => by simp [rem]
  | ds :: r, k :: q, b, h => by
    have ih := rem_le r q b fun d hd => h d (List.mem_cons_of_mem _ hd)
    have a := h ds List.mem_cons_self
    unfold rem at ih ⊢
    rw [List.zipWith_cons_cons, List.sum_cons, List.length_cons, Nat.succ_mul]
    omega
theorem runOf_some {many hues : Int} {wds : List WD} {tb : List (List Int)} {ord : List Int} (gr : GoodR many hues wds) (nd : ∀ wd ∈ wds, wd.1.Nodup) (gt : GoodT many hues tb) (go : GoodO wds.length ord) :
    ∃ R, runOf wds tb ord = some R ∧ GoodF many hues R.2.1 ∧ LogOk wds R.2.2 ∧ R.2.2.length ≤ 6000 := by
  obtain ⟨R, h1, h2, h3, h4⟩ := goR_total gr nd gt go (rem tb (zerosI tb.length) + 1) (zerosI tb.length) [] (zeros_good gt) (LogOk.nil _) (Nat.lt_succ_self _)
  refine ⟨R, h1, h2, h3, ?_⟩
  have a := rem_le tb (zerosI tb.length) 1000 gt.few
  have b := gt.len
  have c := gr.m6
  rw [List.length_nil] at h4
  have : tb.length ≤ 6 := by omega
  omega
/-! ### the first broken one, as the law finds it -/
theorem broL_iff {fs : List Int} {wds : List WD} {n : Nat} {z : Int} : z ∈ broL fs wds n ↔ 0 ≤ z ∧ z < (n : Int) ∧ brkAt fs wds z.toNat = true := by
  unfold broL
  rw [List.mem_map]
  constructor
  · rintro ⟨k, hk, rfl⟩
    obtain ⟨h1, h2⟩ := List.mem_filter.mp hk
    have := List.mem_range.mp h1
    exact ⟨by omega, by omega, by rw [Int.toNat_natCast]; exact h2⟩
  · rintro ⟨h0, h1, h2⟩
    exact ⟨z.toNat, List.mem_filter.mpr ⟨List.mem_range.mpr (by omega), h2⟩, by omega⟩
theorem first_filter {fs : List Int} {wds : List WD} {ord : List Int} (go : GoodO wds.length ord) : (ord.filter fun z => decide (z ∈ broL fs wds wds.length)).head? = firstB fs wds ord := by
  unfold firstB
  rw [List.head?_filter]
  have e : ∀ l : List Int, (∀ z ∈ l, 0 ≤ z ∧ z < (wds.length : Int)) → l.find? (fun z => decide (z ∈ broL fs wds wds.length)) = l.find? (fun n => brkAt fs wds n.toNat) := by
    intro l
    induction l with
    | nil => intro _; rfl
    | cons a r ih =>
      intro h
      have ha := h a List.mem_cons_self
      have hq : decide (a ∈ broL fs wds wds.length) = brkAt fs wds a.toNat := by
        cases c : brkAt fs wds a.toNat with
        | true => exact decide_eq_true (broL_iff.mpr ⟨ha.1, ha.2, c⟩)
        | false => exact decide_eq_false fun z => by rw [(broL_iff.mp z).2.2] at c; cases c
      rw [List.find?_cons, List.find?_cons, hq, ih fun z hz => h z (List.mem_cons_of_mem _ hz)]
  exact e ord go.mem
theorem first_none {fs : List Int} {wds : List WD} {ord : List Int} (go : GoodO wds.length ord) : firstB fs wds ord = none ↔ broL fs wds wds.length = [] := by
  constructor
  · intro h
    rw [List.eq_nil_iff_forall_not_mem]
    intro z hz
    obtain ⟨h0, h1, h2⟩ := broL_iff.mp hz
    have hm := go.all z.toNat (by omega)
    have e : ((z.toNat : Nat) : Int) = z := by omega
    rw [e] at hm
    have := List.find?_eq_none.mp h z hm
    exact this h2
  · intro h
    refine List.find?_eq_none.mpr fun z hz c => ?_
    have hm := go.mem z hz
    have : z ∈ broL fs wds wds.length := broL_iff.mpr ⟨hm.1, hm.2, c⟩
    rw [h] at this
    cases this
end Dt

set_option Elab.async false
set_option linter.all false
set_option maxRecDepth 100000
set_option maxHeartbeats 4000000
/-! calls, frames, tables, logs: over no program -/
namespace Rd
open PySem PySem.Spec PyProof.Rows L2 Dt
theorem same_upd {H : Hp} {p : Addr} {o : HO} (h : H p = none) : Same H (upd H p o) := fun b x e => by
  rw [upd_ne (ne_of_none e h)]
  exact e
def Cal (P : Program) (w : World) (K : PySem.W.Frag) (mg : Str → Option Value) (base : Heap) (k : Nat) (x : Str) (ps : List Str) (sp : Sp) : Prop :=
  ∃ (f : Addr) (fd : FuncData), FnOk P w K mg base CX0 k f fd ps sp ∧ mg x = some (.ref f) ∧ PySem.W.keepIn K (.ref f) = true ∧ Binds K fd ps []
theorem pe_cal {X : Cx} {k : Nat} {x : Str} {ps : List Str} {sp : Sp} {p pos : Pos} {e : Expr} {es : List Expr} {t : TA} (C : Cal X.prog X.w X.K X.mg X.base k x ps sp) (hr : Room k X.A) (hg : Gl X x)
    (ha : PA X (e :: es) t) (hdb : (x == ("__debug__" : Str)) = false := by decide) (he : starEach (e :: es) X.env = (false, eval e X.env) :: starEach es X.env := by rfl) (hpl : (backTo pos (starEach es X.env)).any (·.1) = false := by rfl) :
    PE X (.Call (.Name x p) (e :: es) [] pos) (tCall sp [] E0 t) := by
  obtain ⟨f, fd, F, hm, hk, hb⟩ := C
  exact pe_call F hr hg hm hk hb .nil pass0 ha hdb he hpl
/-- a def whose code object is known -/
structure FunC (K : PySem.W.Frag) (x qual : Str) (st : Stmt) (f : Addr) (fd : FuncData) (cdv : Value) : Prop where
  ex : ∃ (oc : Value) (od : Option Addr) (kV doc pm : Value) (an : Option Addr) (ct : Value) (osl : Array (Option Value)),
    fd = PySem.W.fnOf x qual (defArgs st) (defBody st) (defScope st) .none kV doc pm an cdv ct ∧ K.lookup f = some ⟨oc, od, .func fd, osl⟩ ∧ PySem.W.codeIn K cdv qual = true
theorem FunC.ok {P : Program} {w : World} {K : PySem.W.Frag} {mg : Str → Option Value} {base : Heap} {x qual : Str} {st : Stmt} {f : Addr} {fd : FuncData} {cdv : Value} {N ps : List Str} {k : Nat} {sp : Sp} (F : FunC K x qual st f fd cdv) (S : FnScope N ps (defScope st)) (len : ∀ vs H Q E, sp vs H Q E → vs.length = ps.length)
    (body : ∀ (A : Around) (outer : List Env) (s : Shared) (H : Hp) (vs : List V) (Q : VK) (E : XK), Room k (A.deeper (envOfC qual (defScope st) s.heap.objs.size f cdv)) → sp vs H Q E →
      ∃ t, PSs (cxOf CX0 P w K mg base N qual (defScope st) f cdv A outer s H E).nox (defBody st) t ∧ t { nx := fun _ H' => Q .non H', rt := Q } (start N vs) H) : FnOk P w K mg base CX0 (k + 1) f fd ps sp := by
  obtain ⟨oc, od, kV, doc, pm, an, ct, osl, rfl, lk, hcd⟩ := F.ex
  refine fn_of lk hcd S len fun A outer s H vs Q E hr hsp => ?_
  obtain ⟨t, h, q⟩ := body A outer s H vs Q E hr hsp
  exact ⟨t, h.nox, q⟩
theorem units65 {A : Around} {k : Nat} (hr : Room k A) : A.units + 65 < cLine := by have := hr.un; omega
/-! ### frames but for some tables -/
def Tabs (Ps : List Addr) (H : Hp) : Prop := ∀ P ∈ Ps, GxR.TabG H P
def FrS (Ps : List Addr) (H H' : Hp) : Prop := (∀ b o, b ∉ Ps → H b = some o → H' b = some o) ∧ Tabs Ps H'
/-- tuples and lists stay -/
def Seqs (H H' : Hp) : Prop := Tups H H' ∧ ∀ b xs, H b = some (.lst xs) → H' b = some (.lst xs)
theorem Seqs.refl (H : Hp) : Seqs H H := ⟨Tups.refl H, fun _ _ e => e⟩
theorem Seqs.trans {H H1 H2 : Hp} (a : Seqs H H1) (b : Seqs H1 H2) : Seqs H H2 := ⟨a.1.trans b.1, fun c xs e => b.2 c xs (a.2 c xs e)⟩
theorem seqs_same {H H' : Hp} (s : Same H H') : Seqs H H' := ⟨tups_same s, fun b xs e => s b _ e⟩
theorem FrS.refl {Ps : List Addr} {H : Hp} (t : Tabs Ps H) : FrS Ps H H := ⟨fun _ _ _ e => e, t⟩
theorem FrS.trans {Ps : List Addr} {H H1 H2 : Hp} (a : FrS Ps H H1) (b : FrS Ps H1 H2) : FrS Ps H H2 := ⟨fun x o n e => b.1 x o n (a.1 x o n e), b.2⟩
theorem FrS.of {Ps : List Addr} {H H' : Hp} (t : Tabs Ps H) (s : Same H H') : FrS Ps H H' := ⟨fun b o _ e => s b o e, fun P hP => let ⟨ps, h, q⟩ := t P hP; ⟨ps, s _ _ h, q⟩⟩
theorem FrS.same {Ps : List Addr} {H H1 H2 : Hp} (a : FrS Ps H H1) (s : Same H1 H2) : FrS Ps H H2 := a.trans (FrS.of a.2 s)
theorem FrS.one {Ps : List Addr} {P : Addr} {H H' : Hp} (t : Tabs Ps H) (hP : P ∈ Ps) (f : GxR.Tabbed P H H') : FrS Ps H H' := by
  refine ⟨fun b o n e => ?_, fun Q hQ => ?_⟩
  · rw [f.2 b (fun z => n (by rw [z]; exact hP))]
    exact e
  · by_cases z : Q = P
    · rw [z]; exact f.1
    · obtain ⟨ps, h, q⟩ := t Q hQ
      exact ⟨ps, by rw [f.2 Q z]; exact h, q⟩
theorem Tabs.tup {Ps : List Addr} {H : Hp} (t : Tabs Ps H) {b : Addr} {xs : List V} (e : H b = some (.tup xs)) : b ∉ Ps := fun z => by
  obtain ⟨ps, h, _⟩ := t b z
  rw [e] at h
  cases h
theorem Tabs.lst {Ps : List Addr} {H : Hp} (t : Tabs Ps H) {b : Addr} {xs : List V} (e : H b = some (.lst xs)) : b ∉ Ps := fun z => by
  obtain ⟨ps, h, _⟩ := t b z
  rw [e] at h
  cases h
theorem Tabs.frz {Ps : List Addr} {H : Hp} (t : Tabs Ps H) {b : Addr} {o : Obj} {u : HO} (e : H b = some (.frz o u)) : b ∉ Ps := fun z => by
  obtain ⟨ps, h, _⟩ := t b z
  rw [e] at h
  cases h
theorem FrS.seqs {Ps : List Addr} {H H' : Hp} (t : Tabs Ps H) (f : FrS Ps H H') : Seqs H H' := ⟨⟨fun b xs e => f.1 b _ (t.tup e) e, fun b o xs e => f.1 b _ (t.frz e) e⟩, fun b xs e => f.1 b _ (t.lst e) e⟩
theorem FrS.tups {Ps : List Addr} {H H' : Hp} (t : Tabs Ps H) (f : FrS Ps H H') : Tups H H' := (f.seqs t).1
theorem FrS.free {Ps : List Addr} {H H' : Hp} {b : Addr} (f : FrS Ps H H') (h : H' b = none) : H b = none := by
  cases e : H b with
  | none => rfl
  | some o =>
    by_cases z : b ∈ Ps
    · obtain ⟨ps, q, _⟩ := f.2 b z
      rw [q] at h
      cases h
    · rw [f.1 b o z e] at h
      cases h
/-- a store at a place that wasn't there at first -/
theorem FrS.put {Ps : List Addr} {H H1 : Hp} {b : Addr} {o : HO} (a : FrS Ps H H1) (n : H b = none) (nb : b ∉ Ps) : FrS Ps H (upd H1 b o) :=
  ⟨fun x u nx e => by rw [upd_ne (ne_of_none e n)]; exact a.1 x u nx e, fun P hP => by
    obtain ⟨ps, h, q⟩ := a.2 P hP
    exact ⟨ps, by rw [upd_ne (fun z : P = b => nb (by rw [← z]; exact hP))]; exact h, q⟩⟩
theorem Tabs.new {Ps : List Addr} {H : Hp} (t : Tabs Ps H) {b : Addr} (n : H b = none) : b ∉ Ps := fun z => by
  obtain ⟨ps, h, _⟩ := t b z
  rw [n] at h
  cases h
theorem Tabs.same {Ps : List Addr} {H H' : Hp} (t : Tabs Ps H) (s : Same H H') : Tabs Ps H' := (FrS.of t s).2
theorem Tabs.put {Ps : List Addr} {H : Hp} (t : Tabs Ps H) {b : Addr} {o : HO} (nb : b ∉ Ps) : Tabs Ps (upd H b o) := fun P hP => by
  obtain ⟨ps, h, q⟩ := t P hP
  exact ⟨ps, by rw [upd_ne (fun z : P = b => nb (by rw [← z]; exact hP))]; exact h, q⟩
theorem free_same {H H' : Hp} {b : Addr} (s : Same H H') (h : H' b = none) : H b = none := s.free h
theorem same_put {H H1 : Hp} {b : Addr} {o : HO} (s : Same H H1) (n : H b = none) : Same H (upd H1 b o) := fun x u e => by
  rw [upd_ne (ne_of_none e n)]
  exact s x u e
/-! ### numbers, lists -/
theorem cut_from {α : Type} (f : α → V) (l : List α) (k : Nat) : cutV (l.map f) (some (k : Int)) none = (l.drop k).map f := by
  unfold cutV
  rw [HT.sIx_nat, HT.sIx_none, List.length_map, ← List.map_drop]
  by_cases h : k ≤ l.length
  · rw [Nat.min_eq_left h, List.take_of_length_le (by rw [List.length_map, List.length_drop]; exact Nat.le_refl _)]
  · have h2 : l.drop k = [] := List.drop_eq_nil_of_le (by omega)
    rw [Nat.min_eq_right (by omega), Nat.sub_self, List.take_zero, h2]
    rfl
theorem cut_to {α : Type} (f : α → V) (l : List α) (k : Nat) : cutV (l.map f) none (some (k : Int)) = (l.take k).map f := by
  unfold cutV
  rw [HT.sIx_nat, HT.sIx_none, List.length_map, List.drop_zero, Nat.sub_zero, ← List.map_take]
  by_cases h : k ≤ l.length
  · rw [Nat.min_eq_left h]
  · rw [Nat.min_eq_right (by omega), List.take_of_length_le (Nat.le_refl _), List.take_of_length_le (by omega)]
theorem log_small {m : Int} (h0 : 0 ≤ m) (h : m < 4294967296) : m.natAbs.log2 < 9000 := by
  have e : m.natAbs < 2 ^ 32 := by omega
  by_cases z : m.natAbs = 0
  · rw [z]; decide
  · have := (Nat.log2_lt z).mpr e
    omega
def toI : V → Int
  | .int i => i
  | _ => 0
def rowAt (H : Hp) (t : Addr) : List Int := match H t with
  | some (.tup xs) => xs.map toI
  | _ => []
theorem rowAt_of {H : Hp} {t : Addr} {row : Dt.Row} (h : IsRow H t row) : rowAt H t = row := by
  unfold rowAt
  rw [show H t = some (.tup (row.map V.int)) from h]
  show (row.map V.int).map toI = row
  rw [List.map_map]
  have e : (toI ∘ V.int) = id := by funext z; rfl
  rw [e, List.map_id]
def rngI (m : Int) : List Int := (List.range m.toNat).map fun (i : Nat) => (i : Int)
theorem rngI_len (m : Int) : (rngI m).length = m.toNat := by
  unfold rngI
  rw [List.length_map, List.length_range]
theorem rngI_mem {m z : Int} (h : z ∈ rngI m) : 0 ≤ z ∧ z < m := by
  obtain ⟨i, hi, rfl⟩ := List.mem_map.mp h
  have := List.mem_range.mp hi
  omega
theorem rngI_all {m : Int} {k : Nat} (h : (k : Int) < m) : (k : Int) ∈ rngI m := List.mem_map.mpr ⟨k, List.mem_range.mpr (by omega), rfl⟩
theorem rngI_nodup (m : Int) : (rngI m).Nodup := by
  unfold rngI
  refine List.Pairwise.map _ (fun a b h z => h ?_) (List.nodup_range (n := m.toNat))
  omega
theorem rgV_eq (m : Int) : rgV 0 m = (rngI m).map V.int := by
  unfold rgV rngI
  rw [List.map_map]
  have e : (m - 0).toNat = m.toNat := by rw [Int.sub_zero]
  rw [e]
  refine List.map_congr_left fun i _ => ?_
  show V.int (0 + (i : Int)) = V.int (i : Int)
  rw [Int.zero_add]
theorem map_erase {α : Type} (f : α → V) (ls : List α) (k : Nat) : (ls.map f).eraseIdx k = (ls.eraseIdx k).map f := by
  induction ls generalizing k with
  | nil => rfl
  | cons a r ih => cases k with
    | zero => rfl
    | succ k => simp [ih]
theorem erase_perm {α : Type} : ∀ (l : List α) (k : Nat) (h : k < l.length), (l[k] :: l.eraseIdx k).Perm l
  | [], k, h => absurd h (Nat.not_lt_zero _)
  | a :: r, 0, _ => List.Perm.refl _
  | a :: r, k + 1, h => by
    have ih := erase_perm r k (Nat.lt_of_succ_lt_succ h)
    show ((r[k]'(Nat.lt_of_succ_lt_succ h)) :: a :: r.eraseIdx k).Perm (a :: r)
    exact (List.Perm.swap a _ _).trans (List.Perm.cons a ih)
theorem map_get {α : Type} {f : α → V} {l : List α} {i : Nat} {x : V} (h : (l.map f)[i]? = some x) : ∃ a, l[i]? = some a ∧ x = f a := by
  rw [List.getElem?_map] at h
  cases e : l[i]? with
  | none => rw [e] at h; cases h
  | some a => rw [e] at h; cases h; exact ⟨a, rfl, rfl⟩
theorem map_at {α : Type} {f : α → V} {l : List α} {i : Nat} {a : α} (h : l[i]? = some a) : (l.map f)[i]? = some (f a) := by
  rw [List.getElem?_map, h]
  rfl
theorem atI_of {α : Type} {f : α → V} {l : List α} {p : Int} {a : α} (h0 : 0 ≤ p) (h : l[p.toNat]? = some a) : atI (l.map f) p = some (f a) := by
  have e : p = ((p.toNat : Nat) : Int) := by omega
  have q := atI_nat (xs := l.map f) (j := p.toNat) (v := f a) (map_at h)
  rw [← e] at q
  exact q
theorem ixN_of {n : Nat} {p : Int} (h0 : 0 ≤ p) (h1 : p < n) : ixN n p = some p.toNat := by
  unfold ixN
  rw [if_pos h0, if_pos h1]
theorem take_snoc {α : Type} {l : List α} {i : Nat} {a : α} (h : l[i]? = some a) : l.take (i + 1) = l.take i ++ [a] := by
  rw [List.take_add_one, h]
  rfl
/-! ### the tape -/
def Tape (H : Hp) (tp : Addr) : Prop := ∃ b c : Int, H tp = some (.lst [.int b, .int c]) ∧ 0 ≤ b ∧ 0 ≤ c ∧ c ≤ 2147483647
def Taped (tp : Addr) (H H' : Hp) : Prop := (∀ b o, b ≠ tp → H b = some o → H' b = some o) ∧ Tape H' tp
theorem Tape.same {H H' : Hp} {tp : Addr} (h : Tape H tp) (s : Same H H') : Tape H' tp := let ⟨b, c, h1, r⟩ := h; ⟨b, c, s _ _ h1, r⟩
theorem Tape.seqs {H H' : Hp} {tp : Addr} (h : Tape H tp) (s : Seqs H H') : Tape H' tp := let ⟨b, c, h1, r⟩ := h; ⟨b, c, s.2 _ _ h1, r⟩
theorem Tape.new {H : Hp} {tp b : Addr} (h : Tape H tp) (n : H b = none) : b ≠ tp := fun z => by
  obtain ⟨_, _, h1, _⟩ := h
  rw [z, h1] at n
  cases n
theorem Tape.put {H : Hp} {tp b : Addr} {o : HO} (h : Tape H tp) (n : b ≠ tp) : Tape (upd H b o) tp := let ⟨x, c, h1, r⟩ := h; ⟨x, c, by rw [upd_ne n.symm]; exact h1, r⟩
theorem Taped.refl {H : Hp} {tp : Addr} (h : Tape H tp) : Taped tp H H := ⟨fun _ _ _ e => e, h⟩
theorem Taped.trans {H H1 H2 : Hp} {tp : Addr} (a : Taped tp H H1) (b : Taped tp H1 H2) : Taped tp H H2 := ⟨fun x o n e => b.1 x o n (a.1 x o n e), b.2⟩
theorem Taped.same {H H1 H2 : Hp} {tp : Addr} (a : Taped tp H H1) (s : Same H1 H2) : Taped tp H H2 := ⟨fun x o n e => s _ _ (a.1 x o n e), a.2.same s⟩
theorem Taped.put {H H1 : Hp} {tp b : Addr} {o : HO} (a : Taped tp H H1) (n : H b = none) (nb : b ≠ tp) : Taped tp H (upd H1 b o) :=
  ⟨fun x u nx e => by rw [upd_ne (ne_of_none e n)]; exact a.1 x u nx e, a.2.put nb⟩
theorem Taped.tups {H H' : Hp} {tp : Addr} (t : Tape H tp) (a : Taped tp H H') : Tups H H' := ⟨fun b xs e => by
  obtain ⟨_, _, h1, _⟩ := t
  exact a.1 b _ (fun z => by rw [z, h1] at e; cases e) e, fun b o xs e => by
  obtain ⟨_, _, h1, _⟩ := t
  exact a.1 b _ (fun z => by rw [z, h1] at e; cases e) e⟩
theorem Taped.free {H H' : Hp} {tp b : Addr} (a : Taped tp H H') (n : H' b = none) : H b = none := by
  cases e : H b with
  | none => rfl
  | some o =>
    have m := a.2.new n
    rw [a.1 b o m e] at n
    cases n
theorem Taped.tabs {Ps : List Addr} {H H' : Hp} {tp : Addr} (t : Tape H tp) (a : Taped tp H H') (tt : Tabs Ps H) : Tabs Ps H' := fun P hP => by
  obtain ⟨ps, h, q⟩ := tt P hP
  obtain ⟨_, _, h1, _⟩ := t
  exact ⟨ps, a.1 P _ (fun z => by rw [z, h1] at h; cases h) h, q⟩
/-- len of a list or a tuple -/
def rLen (K : PySem.W.Frag) : List V → Hp → VK → Prop := fun xs H Q => ∃ p ys, xs = [.ref p] ∧ (SqL K H p ys ∨ SqT K H p ys) ∧ Q (.int (ys.length : Nat)) H
/-! ### pairs of ints, written -/
def pairsT : List (Int × Int) → TA
  | [] => tNil
  | p :: r => tCons (tTup (tCons (tC (.int p.1)) (tCons (tC (.int p.2)) tNil))) (pairsT r)
def IsPr (H : Hp) (t : Addr) (p : Int × Int) : Prop := H t = some (.tup [.int p.1, .int p.2])
theorem pairs_read {σ : L2.St} : ∀ (prs : List (Int × Int)) (H : Hp) (k : List V → Hp → Prop), (∀ ts H', Same H H' → Paired (IsPr H') ts prs → k (ts.map V.ref) H') → pairsT prs σ H k
  | [], H, k, h => h [] H (fun _ _ e => e) .nil
  | p :: r, H, k, h => by
    refine ⟨(by show 2 ≤ sizeLine; decide), fun t nt => ?_⟩
    refine pairs_read r _ _ fun ts H' sm pr => ?_
    exact h (t :: ts) H' ((same_upd nt).trans sm) (.cons (sm _ _ upd_same) pr)
theorem pairs_list {σ : L2.St} {prs : List (Int × Int)} {H : Hp} {Q : VK} (hl : prs.length ≤ 1000) (h : ∀ l ts H', Same H H' → H l = none → H' l = some (.lst (ts.map V.ref)) → Paired (IsPr H') ts prs → Q (.ref l) H') : tLst (pairsT prs) σ H Q := by
  refine pairs_read prs H _ fun ts H' sm pr => ?_
  refine ⟨by rw [List.length_map, pairedLen pr]; exact Nat.le_of_lt (small1000 hl), fun l nl => ?_⟩
  have sl := same_upd (o := .lst (ts.map V.ref)) nl
  exact h l ts _ (sm.trans sl) (sm.free nl) upd_same (pairedMap (fun _ _ e => sl _ _ e) pr)
theorem pairs_asg {i : Nat} {prs : List (Int × Int)} {D : Ends} {σ : L2.St} {H : Hp} (hl : prs.length ≤ 1000) (h : ∀ l ts H', Same H H' → H l = none → H' l = some (.lst (ts.map V.ref)) → Paired (IsPr H') ts prs → D.nx (σ.set i (some (.ref l))) H') : tAsg (tLst (pairsT prs)) (gName i) D σ H := by
  unfold tAsg
  exact pairs_list hl fun l ts H' a b c d => h l ts H' a b c d
theorem pairs_set {i : Nat} {prs : List (Int × Int)} {u : TS} {D : Ends} {σ : L2.St} {H : Hp} (hl : prs.length ≤ 1000) (h : ∀ l ts H', Same H H' → H l = none → H' l = some (.lst (ts.map V.ref)) → Paired (IsPr H') ts prs → u D (σ.set i (some (.ref l))) H') : tSeq (tAsg (tLst (pairsT prs)) (gName i)) u D σ H := pairs_asg hl h
/-! ### things popped at drawn places -/
structure Pops {α : Type} (f : α → V) (tp : Addr) (H : Hp) (l D : Addr) (zs0 : List α) (i : Nat) (H5 : Hp) (acc ls : List α) : Prop where
  fr : Taped tp H H5
  hL : H5 l = some (.lst (ls.map f))
  hD : H5 D = some (.lst (acc.map f))
  la : acc.length = i
  ll : ls.length + i = zs0.length
  pm : (acc ++ ls).Perm zs0
theorem pop_step {α : Type} {f : α → V} {tp : Addr} {H : Hp} {l D : Addr} {zs0 : List α} {i : Nat} {H5 H6 : Hp} {acc ls : List α} {d : Int} (nl : H l = none) (nlt : l ≠ tp) (nD : H D = none) (nDt : D ≠ tp) (nlD : l ≠ D) (hz : zs0.length ≤ 999) (p : Pops f tp H l D zs0 i H5 acc ls) (D6 : Taped tp H5 H6) (d0 : 0 ≤ d) (d1 : d < (ls.length : Int)) :
    ∃ y, (ls.map f)[d.toNat]? = some y ∧ H6 l = some (.lst (ls.map f)) ∧ seqIndex? d (ls.map f).length = some d.toNat ∧ ∃ acc', upd H6 l (.lst ((ls.map f).eraseIdx d.toNat)) D = some (.lst acc') ∧ acc'.length < sizeLine ∧ ∃ acc2 ls2, Pops f tp H l D zs0 (i + 1) (upd (upd H6 l (.lst ((ls.map f).eraseIdx d.toNat))) D (.lst (acc' ++ [y]))) acc2 ls2 := by
  have hd : d.toNat < ls.length := by omega
  have hL6 := D6.1 l _ nlt p.hL
  have hD6 := D6.1 D _ nDt p.hD
  have la := p.la
  have ll := p.ll
  refine ⟨f ls[d.toNat], map_at (List.getElem?_eq_getElem hd), hL6, seqIndex_of d0 (by rw [List.length_map]; exact d1), acc.map f, ?_, ?_, acc ++ [ls[d.toNat]], ls.eraseIdx d.toNat, ?_, ?_, ?_, ?_, ?_, ?_⟩
  · rw [upd_ne (Ne.symm nlD)]
    exact hD6
  · rw [List.length_map]
    exact small1000 (by omega)
  · exact ((p.fr.trans D6).put nl nlt).put nD nDt
  · rw [upd_ne nlD, upd_same, map_erase]
  · rw [upd_same, List.map_append]
    rfl
  · rw [List.length_append, la]
    rfl
  · rw [List.length_eraseIdx_of_lt hd]
    omega
  · refine List.Perm.trans ?_ p.pm
    rw [List.append_assoc]
    exact List.Perm.append_left acc (erase_perm ls _ hd)
/-! ### lists of rows -/
def IsFills (H : Hp) (l : Addr) (fss : List (List Int)) : Prop := ∃ as : List Addr, H l = some (.lst (as.map V.ref)) ∧ Paired (IsRow H) as fss
theorem pairedSnoc {α β : Type} {F : α → β → Prop} {a : α} {b : β} : ∀ {l : List α} {m : List β}, Paired F l m → F a b → Paired F (l ++ [a]) (m ++ [b])
  | _, _, .nil, h => .cons h .nil
  | _, _, .cons h t, k => .cons h (pairedSnoc t k)
theorem pairedApp {α β : Type} {F : α → β → Prop} {l2 : List α} {m2 : List β} : ∀ {l : List α} {m : List β}, Paired F l m → Paired F l2 m2 → Paired F (l ++ l2) (m ++ m2)
  | _, _, .nil, h => h
  | _, _, .cons h t, k => .cons h (pairedApp t k)
theorem yes_if {σ : L2.St} {H : Hp} {A B : Hp → Prop} (h : A H) : tYes σ H (fun b H3 => if b = true then A H3 else B H3) := by
  dsimp only [tYes]
  rw [if_pos rfl]
  exact h
theorem longer_at {hues j : Nat} (f : List Int) (h : j < hues) : (longer hues f)[j]? = some (f ++ [(j : Int)]) := by
  unfold longer
  rw [List.getElem?_map, List.getElem?_range h]
  rfl
theorem pairedZip {α β : Type} {F : α → β → Prop} : ∀ {l : List α} {m : List β}, Paired F l m → ∃ zs : List (α × β), zs.map (·.1) = l ∧ zs.map (·.2) = m ∧ ∀ z ∈ zs, F z.1 z.2
  | _, _, .nil => ⟨[], rfl, rfl, fun _ h => nomatch h⟩
  | a :: _, b :: _, .cons h t => by
    obtain ⟨zs, h1, h2, h3⟩ := pairedZip t
    refine ⟨(a, b) :: zs, by rw [List.map_cons, h1], by rw [List.map_cons, h2], fun z hz => ?_⟩
    rcases List.mem_cons.mp hz with e | e
    · rw [e]; exact h
    · exact h3 z e
theorem pairedOf {α β : Type} {F : α → β → Prop} {g : α → β} : ∀ {l : List α}, (∀ a ∈ l, F a (g a)) → Paired F l (l.map g)
  | [], _ => .nil
  | a :: r, h => .cons (h a List.mem_cons_self) (pairedOf fun b hb => h b (List.mem_cons_of_mem _ hb))
theorem longer_nodup (hues : Nat) (f : List Int) : (longer hues f).Nodup := by
  unfold longer
  refine List.Pairwise.map _ (fun a b h z => h ?_) (List.nodup_range (n := hues))
  have := List.append_cancel_left z
  simp only [List.cons.injEq, and_true] at this
  omega
theorem flat_nodup {hues : Nat} : ∀ {l : List (List Int)}, l.Nodup → (l.flatMap (longer hues)).Nodup
  | [], _ => by simp
  | f :: r, h => by
    rw [List.flatMap_cons]
    have hh := List.nodup_cons.mp h
    refine List.nodup_append.mpr ⟨longer_nodup hues f, flat_nodup hh.2, fun a ha b hb e => ?_⟩
    obtain ⟨i, _, rfl⟩ := List.mem_map.mp ha
    obtain ⟨g, hg, hb2⟩ := List.mem_flatMap.mp hb
    obtain ⟨j, _, rfl⟩ := List.mem_map.mp hb2
    have e2 : f = g := by
      have := congrArg List.dropLast e
      simpa using this
    exact hh.1 (e2 ▸ hg)
theorem fill_nodup (hues : Nat) : ∀ n : Nat, (fillL hues n).Nodup
  | 0 => by simp [fillL]
  | n + 1 => flat_nodup (fill_nodup hues n)
/-- places rising, no row twice -/
structure Neat (wd : WD) : Prop where
  pl : wd.1.Pairwise (· < ·)
  rows : wd.2.Nodup
theorem Neat.nd {wd : WD} (h : Neat wd) : wd.1.Nodup := h.pl.imp fun z e => by omega
theorem rise_of {ps : List Int} (h : ps.Pairwise (· ≤ ·)) (n : ps.Nodup) : ps.Pairwise (· < ·) := by
  have z := List.Pairwise.and h n
  exact z.imp fun ⟨a, b⟩ => by omega
/-! ### tables of draws -/
abbrev IsInts (H : Hp) (a : Addr) (ns : List Int) : Prop := H a = some (.lst (ns.map V.int))
/-- a list of lists of ints, none of them in Av -/
def IsTab (Av : Addr → Prop) (H : Hp) (ta : Addr) (tb : List (List Int)) : Prop := ∃ das : List Addr, H ta = some (.lst (das.map V.ref)) ∧ ¬ Av ta ∧ (∀ d ∈ das, ¬ Av d) ∧ Paired (IsInts H) das tb
theorem IsTab.mono {Av : Addr → Prop} {H H' : Hp} {ta : Addr} {tb : List (List Int)} (h : IsTab Av H ta tb) (k : ∀ b xs, ¬ Av b → H b = some (.lst xs) → H' b = some (.lst xs)) : IsTab Av H' ta tb := by
  obtain ⟨das, h1, h2, h3, h4⟩ := h
  refine ⟨das, k _ _ h2 h1, h2, h3, ?_⟩
  clear h1
  induction h4 with
  | nil => exact .nil
  | @cons a b l m e t ih => exact .cons (k _ _ (h3 a List.mem_cons_self) e) (ih fun d hd => h3 d (List.mem_cons_of_mem _ hd))
theorem IsTab.seqs {Av : Addr → Prop} {H H' : Hp} {ta : Addr} {tb : List (List Int)} (h : IsTab Av H ta tb) (s : Seqs H H') : IsTab Av H' ta tb := h.mono fun b xs _ e => s.2 b xs e
theorem IsTab.weak {Av Bv : Addr → Prop} {H : Hp} {ta : Addr} {tb : List (List Int)} (h : IsTab Av H ta tb) (k : ∀ b, Bv b → Av b) : IsTab Bv H ta tb := let ⟨das, h1, h2, h3, h4⟩ := h; ⟨das, h1, fun z => h2 (k _ z), fun d hd z => h3 d hd (k _ z), h4⟩
theorem IsTab.none {Av : Addr → Prop} {H : Hp} {ta : Addr} {tb : List (List Int)} (h : IsTab Av H ta tb) : IsTab (fun _ => False) H ta tb := h.weak fun _ z => z.elim
abbrev Old (H : Hp) : Addr → Prop := fun b => H b ≠ none
theorem IsTab.taped {tp : Addr} {H H' : Hp} {ta : Addr} {tb : List (List Int)} (h : IsTab (· = tp) H ta tb) (f : Taped tp H H') : IsTab (· = tp) H' ta tb := h.mono fun b xs n e => f.1 b _ n e
theorem Tape.old {H : Hp} {tp : Addr} (h : Tape H tp) : ∀ b, b = tp → Old H b := fun b e z => by
  obtain ⟨_, _, h1, _⟩ := h
  rw [e, h1] at z
  cases z
theorem dpTabs {K : PySem.W.Frag} {H : Hp} : ∀ {das : List Addr} {tb : List (List Int)}, Paired (IsInts H) das tb → DpAll K H (das.map V.ref) (tb.map fun l => .list (l.map .int))
  | _, _, .nil => .nil
  | _, _, .cons h t => .cons (.lst (.inl (.inl h)) (dpInts _)) (dpTabs t)
theorem dpTab {K : PySem.W.Frag} {Av : Addr → Prop} {H : Hp} {ta : Addr} {tb : List (List Int)} (h : IsTab Av H ta tb) : Dp K H (.ref ta) (listsD tb) := by
  obtain ⟨das, h1, _, _, h4⟩ := h
  exact .lst (.inl (.inl h1)) (dpTabs h4)
/-! ### logs and what a run tells -/
def IsEnt (H : Hp) (e : Addr) (x : Int × List Int) : Prop := ∃ r, H e = some (.tup [.int x.1, .ref r]) ∧ IsRow H r x.2
def IsLog (H : Hp) (la : Addr) (log : Log) : Prop := ∃ es : List Addr, H la = some (.lst (es.map V.ref)) ∧ Paired (IsEnt H) es log
theorem IsEnt.mono {H H' : Hp} {e : Addr} {x : Int × List Int} (h : IsEnt H e x) (t : Tups H H') : IsEnt H' e x := let ⟨r, h1, h2⟩ := h; ⟨r, t _ _ h1, t _ _ h2⟩
theorem IsLog.seqs {H H' : Hp} {la : Addr} {log : Log} (h : IsLog H la log) (s : Seqs H H') : IsLog H' la log := let ⟨es, h1, h2⟩ := h; ⟨es, s.2 _ _ h1, pairedMap (fun _ _ e => e.mono s.1) h2⟩
theorem IsLog.keep {H H' : Hp} {la : Addr} {log : Log} (h : IsLog H la log) (t : Tups H H') (k : ∀ xs, H la = some (.lst xs) → H' la = some (.lst xs)) : IsLog H' la log := let ⟨es, h1, h2⟩ := h; ⟨es, k _ h1, pairedMap (fun _ _ e => e.mono t) h2⟩
def entD (x : Int × List Int) : PyData := .tuple [.int x.1, rowD x.2]
def logD (log : Log) : PyData := .list (log.map entD)
def endS (b : Bool) : Str := if b = true then "kept" else "spent"
def resD (R : Res) : PyData := .tuple [.str (endS R.1), rowD R.2.1, logD R.2.2]
theorem dpEnts {K : PySem.W.Frag} {H : Hp} : ∀ {es : List Addr} {log : Log}, Paired (IsEnt H) es log → DpAll K H (es.map V.ref) (log.map entD)
  | _, _, .nil => .nil
  | _, _, .cons ⟨r, h1, h2⟩ t => .cons (.tup (.inl (.inl h1)) (.cons (.int _) (.cons (dpRow h2) .nil))) (dpEnts t)
theorem dpLog {K : PySem.W.Frag} {H : Hp} {la : Addr} {log : Log} (h : IsLog H la log) : Dp K H (.ref la) (logD log) := let ⟨es, h1, h2⟩ := h; .lst (.inl (.inl h1)) (dpEnts h2)
/-- what a run tells: the tuple, the filling and the log's list, which is new -/
def IsRes (H0 H : Hp) (t : Addr) (R : Res) : Prop := ∃ fa la, H t = some (.tup [.str (endS R.1), .ref fa, .ref la]) ∧ IsRow H fa R.2.1 ∧ IsLog H la R.2.2 ∧ H0 la = none
theorem dpRes {K : PySem.W.Frag} {H0 H : Hp} {t : Addr} {R : Res} (h : IsRes H0 H t R) : Dp K H (.ref t) (resD R) := let ⟨fa, la, h1, h2, h3, _⟩ := h; .tup (.inl (.inl h1)) (.cons (.str _) (.cons (dpRow h2) (.cons (dpLog h3) .nil)))
theorem IsRes.seqs {H0 H H' : Hp} {t : Addr} {R : Res} (h : IsRes H0 H t R) (s : Seqs H H') : IsRes H0 H' t R := let ⟨fa, la, h1, h2, h3, h4⟩ := h; ⟨fa, la, s.1 _ _ h1, s.1 _ _ h2, h3.seqs s, h4⟩
theorem IsRes.old {H0 H1 H : Hp} {t : Addr} {R : Res} (h : IsRes H1 H t R) (k : ∀ b, H1 b = none → H0 b = none) : IsRes H0 H t R := let ⟨fa, la, h1, h2, h3, h4⟩ := h; ⟨fa, la, h1, h2, h3, k _ h4⟩
/-- each log's pair is fine -/
theorem fine_ent {many hues : Int} {wds : List WD} (gr : GoodR many hues wds) {x : Int × List Int} (h : 0 ≤ x.1 ∧ x.1 < (wds.length : Int) ∧ ∃ wd, wds[x.1.toNat]? = some wd ∧ x.2 ∈ wd.2) : Fine (entD x) 3 80 := by
  obtain ⟨h0, h1, wd, hw, hr⟩ := h
  have e8 := gr.eight
  have g := gr.each wd (List.mem_of_getElem? hw)
  have a := fine_int (i := x.1) h0 (by omega)
  have b : Fine (rowD x.2) 2 64 := fine_row (fun z hz => ⟨((g.row _ hr).2 z hz).1, by have := ((g.row _ hr).2 z hz).2; have := gr.h4; omega⟩) (by have := (g.row _ hr).1; have := g.three; omega)
  exact (Fine.tuple (FineAll.cons (a.mono (by omega) (Nat.le_refl _)) (FineAll.cons b (FineAll.nil _)))).mono (Nat.le_refl _) (by omega)
theorem fine_log {many hues : Int} {wds : List WD} (gr : GoodR many hues wds) {log : Log} (h : LogOk wds log) (hl : log.length ≤ 6000) : Fine (logD log) 4 600000 :=
  (Fine.list (fineAll_map log fun x hx => fine_ent gr (h x hx))).mono (Nat.le_refl _) (by omega)
theorem fine_end (b : Bool) : Fine (.str (endS b)) 1 64 := by
  cases b <;> exact ⟨by decide +kernel, by decide +kernel, by decide +kernel, by decide +kernel, by decide +kernel, by decide +kernel⟩
theorem fine_res {many hues : Int} {wds : List WD} (gr : GoodR many hues wds) {R : Res} (gf : GoodF many hues R.2.1) (h : LogOk wds R.2.2) (hl : R.2.2.length ≤ 6000) : Fine (resD R) 5 700000 :=
  (Fine.tuple (FineAll.cons ((fine_end R.1).mono (by omega) (Nat.le_refl _)) (FineAll.cons ((fine_fill gf gr.m6 gr.h4).mono (by omega) (Nat.le_refl _)) (FineAll.cons (fine_log gr h hl) (FineAll.nil _))))).mono (Nat.le_refl _) (by omega)
theorem fine_tabT {many hues : Int} {tb : List (List Int)} (m6 : many ≤ 6) (h4 : hues ≤ 4) (g : GoodT many hues tb) : Fine (listsD tb) 3 100000 := by
  have hl := g.len
  refine (Fine.list (fineAll_map tb (n := 2) (w := 15000) fun l hm => (fine_ints fun z hz => ⟨(g.hue l hm z hz).1, by have := (g.hue l hm z hz).2; omega⟩).mono (Nat.le_refl _) (by have := g.few l hm; omega))).mono (Nat.le_refl _) ?_
  have : tb.length ≤ 6 := by omega
  omega
/-! ### equality of data -/
theorem eqv_str (a b : Str) : PyData.eqv (.str a) (.str b) = (a == b) := by simp [PyData.eqv]
end Rd
namespace Gx
open PySem PySem.Spec PyProof.Rows L2 GenW
theorem tup_zipL {K : PySem.W.Frag} {a b : Addr} {xs ys : List V} {g : TG} {tt : TT} {te : TE} {vs : List Nat} {σ : L2.St} {Q : List V → Hp → Prop} {H2 : Hp} (hl : xs.length = ys.length) (hz : xs.length ≤ sizeLine) (Pv : Nat → List V → Hp → Prop) (h0 : Pv 0 [] H2) (hq : ∀ i zs H, Pv i zs H → SqL K H a xs ∧ SqL K H b ys) (hy : ∀ i zs H, Pv i zs H → zs.length ≤ i)
    (hs : ∀ i x y T zs H, xs[i]? = some x → ys[i]? = some y → Pv i zs H → H T = none → g (.ref T) (wipe σ vs) (upd H T (.tup [x, y])) fun σ2 H2 => wipe σ2 vs = wipe σ vs ∧ tt σ2 H2 fun b H3 => if b = true then te σ2 H3 fun y H4 => Pv (i + 1) (zs ++ [y]) H4 else Pv (i + 1) zs H3) (hd : ∀ zs H, Pv xs.length zs H → Q zs H) :
    ∃ W : Nat → Nat → List V → Hp → Prop, (∃ m, W 0 m [] H2) ∧ TurnsC (Itz K a b) g tt te vs σ Q W := by
  refine ⟨fun i m zs H => m = xs.length - i ∧ i ≤ xs.length ∧ Pv i zs H, ⟨xs.length, by simp, Nat.zero_le _, h0⟩, ?_⟩
  rintro i m zs H ⟨rfl, hi, p⟩
  obtain ⟨qx, qy⟩ := hq i zs H p
  by_cases hlt : i < xs.length
  · have hx : xs[i]? = some xs[i] := List.getElem?_eq_getElem hlt
    have hlt2 : i < ys.length := by omega
    have hy2 : ys[i]? = some ys[i] := List.getElem?_eq_getElem hlt2
    refine .inr ⟨⟨xs, ys, _, _, qx, qy, hx, hy2⟩, Nat.lt_of_le_of_lt (hy i zs H p) (Nat.lt_of_lt_of_le hlt hz), Pv (i + 1), fun zs' H' p' => ⟨xs.length - (i + 1), by omega, rfl, hlt, p'⟩, fun v H' y => ?_⟩
    obtain ⟨T, x', y', rfl, hT, rfl, f1, f2⟩ := y
    exact hs i x' y' T zs H (f1 xs qx) (f2 ys qy) p hT
  · have e : i = xs.length := by omega
    subst e
    exact .inl ⟨⟨xs, ys, qx, qy, Or.inl (Nat.le_refl _)⟩, hd zs H p⟩
end Gx
namespace Rd
open PySem PySem.Spec PyProof.Rows L2 Dt
def leftAt (tb : List (List Int)) (tk : List Int) (p : Int) : List Int := (leftOf tb tk).getD p.toNat []
theorem leftAt_get {tb : List (List Int)} {tk : List Int} {p : Int} (g : GoodK tb tk) (h0 : 0 ≤ p) (h1 : p < (tb.length : Int)) : (leftOf tb tk)[p.toNat]? = some (leftAt tb tk p) := by
  have h : p.toNat < (leftOf tb tk).length := by rw [left_len g]; omega
  rw [leftAt, getD_get h]
  exact List.getElem?_eq_getElem h
theorem leftAt_nil {tb : List (List Int)} {tk : List Int} {p : Int} (g : GoodK tb tk) (h0 : 0 ≤ p) (h1 : p < (tb.length : Int)) : (leftAt tb tk p = []) ↔ ¬ (atF tk p + 1 < lenAt tb p) := by
  have hp : p.toNat < tb.length := by omega
  have e := left_get g hp
  rw [leftAt_get g h0 h1] at e
  rw [Option.some.inj e, List.drop_eq_nil_iff]
  have a := g.at_ _ hp
  unfold atF lenAt
  omega
theorem eqv_ints_nil (l : List Int) : PyData.eqv (.list (l.map .int)) (.list []) = decide (l = []) := by
  cases l with
  | nil => simp [PyData.eqv, PyData.eqvAll]
  | cons a r => simp [PyData.eqv, PyData.eqvAll]
theorem any_left {tb : List (List Int)} {tk : List Int} (g : GoodK tb tk) : ∀ ps : List Int, (∀ p ∈ ps, 0 ≤ p ∧ p < (tb.length : Int)) → ((ps.map fun p => PyData.list ((leftAt tb tk p).map .int)).any fun z => PyData.eqv z (.list [])) = !canN tb tk ps
  | [], _ => rfl
  | p :: r, h => by
    have hp := h p List.mem_cons_self
    rw [List.map_cons, List.any_cons, any_left g r fun q hq => h q (List.mem_cons_of_mem _ hq), eqv_ints_nil]
    unfold canN
    rw [List.all_cons, Bool.not_and]
    congr 1
    by_cases e : leftAt tb tk p = []
    · rw [decide_eq_true e, decide_eq_false ((leftAt_nil g hp.1 hp.2).mp e)]
      rfl
    · rw [decide_eq_false e, decide_eq_true (Classical.not_not.mp fun z => e ((leftAt_nil g hp.1 hp.2).mpr z))]
      rfl
theorem stand0 {many hues : Int} {tb : List (List Int)} (g : GoodT many hues tb) {i : Nat} {ds : List Int} (h : tb[i]? = some ds) : (stand tb (zerosI tb.length))[i]? = some (atF ds 0) := by
  have hi : i < tb.length := (List.getElem?_eq_some_iff.mp h).1
  rw [stand_get (zeros_good g) hi, zeros_get, List.getD_eq_getElem?_getD, h]
  rfl
theorem left0 {many hues : Int} {tb : List (List Int)} (g : GoodT many hues tb) {i : Nat} {ds : List Int} (h : tb[i]? = some ds) : (leftOf tb (zerosI tb.length))[i]? = some (ds.drop 1) := by
  have hi : i < tb.length := (List.getElem?_eq_some_iff.mp h).1
  rw [left_get (zeros_good g) hi, zeros_get, List.getD_eq_getElem?_getD, h]
  rfl
theorem paired_upd {H : Hp} {D : Addr} {o : HO} : ∀ {l : List Addr} {m : List (List Int)}, Paired (IsInts H) l m → (∀ d ∈ l, d ≠ D) → Paired (IsInts (upd H D o)) l m
  | _, _, .nil, _ => .nil
  | a :: _, _, .cons h t, n => .cons (by show upd H D o a = _; rw [upd_ne (n a List.mem_cons_self)]; exact h) (paired_upd t fun d hd => n d (List.mem_cons_of_mem _ hd))
theorem paired_set {α β : Type} {F : α → β → Prop} : ∀ {l : List α} {m : List β} {i : Nat} {a : α} {b : β}, Paired F l m → F a b → Paired F (l.set i a) (m.set i b)
  | _, _, _, _, _, .nil, _ => .nil
  | _, _, 0, _, _, .cons _ t, h => .cons h t
  | _, _, i + 1, _, _, .cons e t, h => .cons e (paired_set (i := i) t h)
theorem paired_fresh {H : Hp} {D : Addr} {l : List Addr} {m : List (List Int)} (p : Paired (IsInts H) l m) (n : H D = none) : ∀ d ∈ l, d ≠ D := fun d hd z => by
  obtain ⟨j, hj⟩ := List.getElem?_of_mem hd
  obtain ⟨row, _, e⟩ := pairedGetL p hj
  have e2 : H d = some (.lst (row.map V.int)) := e
  rw [z, n] at e2
  cases e2
end Rd
namespace Rd
open PySem PySem.Spec PyProof.Rows L2 Dt
/-! ### the script's list, the tape and the tables, together -/
def rListO (K : PySem.W.Frag) : List V → Hp → VK → Prop := fun xs H Q => ∃ p ys, xs = [.ref p] ∧ (SqL K H p ys ∨ SqT K H p ys) ∧ ∀ l, H l = none → Q (.ref l) (upd H l (.lst ys))
theorem sq_keep {K : PySem.W.Frag} {H H' : Hp} {a : Addr} {xs : List V} (h : SqL K H a xs) (k : ∀ o, H a = some o → H' a = some o) : SqL K H' a xs := by
  rcases h with (h | ⟨o, h⟩) | h
  · exact .inl (.inl (k _ h))
  · exact .inl (.inr ⟨o, k _ h⟩)
  · exact .inr h
theorem sq_new {K : PySem.W.Frag} {H : Hp} {a tp : Addr} {xs : List V} (h : SqL K H a xs) (n : H tp = none) (e : a = tp) (H' : Hp) : SqL K H' a xs := by
  rcases h with (h | ⟨o, h⟩) | h
  · rw [e, n] at h; cases h
  · rw [e, n] at h; cases h
  · exact .inr h
theorem Tabs.sq {K : PySem.W.Frag} {Ps : List Addr} {H H' : Hp} {a : Addr} {xs : List V} (t : Tabs Ps H) (f : FrS Ps H H') (h : SqL K H a xs) : SqL K H' a xs := by
  rcases h with (h | ⟨o, h⟩) | h
  · exact .inl (.inl (f.1 _ _ (t.lst h) h))
  · exact .inl (.inr ⟨o, f.1 _ _ (fun z => by obtain ⟨ps, q, _⟩ := t a z; rw [h] at q; cases q) h⟩)
  · exact .inr h
structure LI (K : PySem.W.Frag) (a : Addr) (xs : List V) (Ps : List Addr) (tp : Addr) (H : Hp) : Prop where
  tape : Tape H tp
  tabs : Tabs Ps H
  scr : SqL K H a xs
  far : a = tp → ∀ H', SqL K H' a xs
theorem LI.frs {K : PySem.W.Frag} {a : Addr} {xs : List V} {Ps : List Addr} {tp : Addr} {H H' : Hp} (h : LI K a xs Ps tp H) (f : FrS Ps H H') : LI K a xs Ps tp H' := ⟨h.tape.seqs (f.seqs h.tabs), f.2, h.tabs.sq f h.scr, h.far⟩
theorem LI.same {K : PySem.W.Frag} {a : Addr} {xs : List V} {Ps : List Addr} {tp : Addr} {H H' : Hp} (h : LI K a xs Ps tp H) (s : Same H H') : LI K a xs Ps tp H' := h.frs (FrS.of h.tabs s)
theorem LI.taped {K : PySem.W.Frag} {a : Addr} {xs : List V} {Ps : List Addr} {tp : Addr} {H H' : Hp} (h : LI K a xs Ps tp H) (f : Taped tp H H') : LI K a xs Ps tp H' := by
  refine ⟨f.2, f.tabs h.tape h.tabs, ?_, h.far⟩
  by_cases e : a = tp
  · exact h.far e H'
  · exact sq_keep h.scr fun o => f.1 a o e
theorem fine_eqv {d : PyData} {n w : Nat} (h : Fine d n w) : PyData.eqv d d = true := PySem.SeqAt.eqv_refl d h.lay
theorem pairedRep {α β : Type} {F : α → β → Prop} {a : α} {b : β} (h : F a b) : ∀ n : Nat, Paired F (List.replicate n a) (List.replicate n b)
  | 0 => .nil
  | n + 1 => .cons h (pairedRep h n)
theorem rep_flat {α : Type} (f : α → V) (a : α) (n : Nat) : (List.replicate n [f a]).flatten = (List.replicate n a).map f := by
  rw [List.map_replicate]
  induction n with
  | zero => rfl
  | succ n ih => rw [List.replicate_succ, List.flatten_cons, ih, List.replicate_succ]; rfl
theorem goodT_rep {many hues : Int} {tb : List (List Int)} {ds : List Int} (g : GoodT many hues tb) (h : ds ∈ tb) (m0 : 0 ≤ many) : GoodT many hues (List.replicate many.toNat ds) := by
  refine ⟨by rw [List.length_replicate]; omega, fun x hx => ?_, fun x hx => ?_, fun x hx => ?_⟩
  · rw [(List.mem_replicate.mp hx).2]; exact g.one ds h
  · rw [(List.mem_replicate.mp hx).2]; exact g.few ds h
  · rw [(List.mem_replicate.mp hx).2]; exact g.hue ds h
end Rd

set_option Elab.async false
set_option linter.all false
set_option maxRecDepth 100000
set_option maxHeartbeats 4000000
/-! tuple.index of whole numbers; sorted of a tuple of tuples -/
namespace Rd
open PySem PySem.Spec PyProof.Rows L2 Dt
def rIdxT (K : PySem.W.Frag) : V → List V → Hp → VK → Prop := fun x xs H Q => ∃ (a : Addr) (ns : List Int) (k : Int), x = .ref a ∧ xs = [.int k] ∧ SqT K H a (ns.map V.int) ∧ k ∈ ns ∧ Q (.int (ns.idxOf k : Nat)) H
theorem mt_indexT {X : Cx} : MtR X "tuple.index" (rIdxT X.K) := by
  intro pins s σ H x xs v us Q I rx rxs h
  obtain ⟨a, ns, k, rfl, rfl, hs, hk, q⟩ := h
  cases rx
  obtain ⟨u, rfl, ru⟩ := rxs.one
  obtain ⟨t, rfl⟩ := ru
  obtain ⟨its, rv, ht, hz⟩ := I.tuple hs
  exact PySem.SeqAt.tuple_index_ints ht rv.ints hk ⟨.int (ns.idxOf k : Nat), H, I.tok _, ⟨_, rfl⟩, q⟩
section
variable {prog : Program} {w : World} {A : Around} {E : Value → Shared → Prop} {s : Shared}
theorem coll_tup {l : Addr} {vs : List Value} {Q : List Value → Shared → Prop} (hz : vs.length ≤ sizeLine) (hl : s.heap.IsTuple l vs.toArray) (h : Q vs { s with heap := (s.heap.push (seqObj "list" #[] 0)).update s.heap.objs.size (Obj.mapSeq (· ++ vs.toArray)) }) : wpAny (model prog w) A (collect (.ref l)) Q E s := by
  obtain ⟨o, he, hc, n, hd⟩ := id hl; unfold collect; refine wpAny_bind (wpAny_runValue (codeAny_builtin entry_proto_collect' ?_)); show wpAny _ _ (do again (.builtin "list.__iadd__" ⟨[← newList [], .ref l], []⟩)) _ _ s; refine wpAny_bind (wpAny_newList (wpAny_pure ⟨Code.quiet_builtin _ (by decide +kernel), codeAny_builtin entry_list_iadd' ?_⟩)); show wpAny _ _ (Builtin.List.listExtendWith (.ref s.heap.objs.size) (.ref l) (.ref s.heap.objs.size)) _ _ { s with heap := s.heap.push (seqObj "list" #[] 0) }; unfold Builtin.List.listExtendWith; have he2 : (s.heap.push (seqObj "list" #[] 0)).get? l = some o := Heap.get?_push_of_some _ he; refine wpAny_bind (wpAny_typeOf (T := "tuple") ⟨o, he2, hc⟩ ?_); have hy : (Value.type "tuple" == Value.type "tuple") = true := (by rfl); rw [if_pos (by rw [hy]; simp)]; refine wpAny_bind (listItems_at he2 hd ?_); refine wpAny_bind (listItems_at (xs := #[]) (n := 0) (Heap.get?_push_size _ rfl) rfl ?_); rw [if_neg (by simp)]; refine wpAny_bind (listUpdate_at (xs := #[]) (n := 0) (Heap.get?_push_size _ rfl) rfl ?_ (Nat.zero_le _) (by show (#[] ++ vs.toArray).size ≤ sizeLine + 1; simp only [Array.size_append, List.size_toArray, List.length_nil]; omega)); refine wpAny_pure ?_; show wpAny (model prog w) A (load s.heap.objs.size >>= fun ob => match ob.data with | .seq ys _ => pure ys.toList | _ => unsupported "internal:collect") Q E { s with heap := (s.heap.push (seqObj "list" #[] 0)).update s.heap.objs.size (Obj.mapSeq (· ++ vs.toArray)) }; refine wpAny_bind (wpAny_load (get?_update_seq (Heap.get?_push_size _ rfl) _) ?_); show wpAny _ _ (pure ((#[] : Array Value) ++ vs.toArray).toList) Q E _; rw [show ((#[] : Array Value) ++ vs.toArray).toList = vs by simp]; exact wpAny_pure h
theorem sorted_tup {l : Addr} {vs : List Value} {ltv : Value → Value → Bool} {Q : Value → Shared → Prop} (O : SrtO.Swo ltv) (hl : s.heap.IsTuple l vs.toArray) (hz : vs.length ≤ sizeLine)
    (hS : 2 ≤ vs.length → ∀ (h₁ : Heap) (a : Addr), h₁.get? a = some (seqObj "list" vs.toArray 0) → (∀ b o, s.heap.get? b = some o → b ≠ a ∧ h₁.get? b = some o) → SrtO.SortableO prog w A.in1.in1 { s with heap := h₁ } a vs ltv)
    (h : ∀ out : List Value, SrtO.Srtd ltv out → SrtO.Stb ltv out vs → Q (.ref (s.heap.objs.size + 1)) { s with heap := sortedAll s.heap vs out.toArray }) : wpAny (model prog w) A (call (.builtin "sorted") [.ref l]) Q E s := by
  refine Calls.call_function_entry kind_sorted plain_sorted entry_sorted (args_sorted1 _) ?_; unfold Builtin.«sorted»; refine wpAny_bind (m := checkCount "sorted" 1 1 _) (wpAny_pure ?_); refine wpAny_bind (coll_tup hz hl (wpAny_bind (wpAny_newList ?_ hz))); have e1 : ((s.heap.push (seqObj "list" #[] 0)).update s.heap.objs.size (Obj.mapSeq (· ++ vs.toArray))).objs.size = s.heap.objs.size + 1 := (by rw [Heap.size_update, size_push']); have e2 : (((s.heap.push (seqObj "list" #[] 0)).update s.heap.objs.size (Obj.mapSeq (· ++ vs.toArray))).push (seqObj "list" vs.toArray 0)).get? (s.heap.objs.size + 1) = some (seqObj "list" vs.toArray 0) := (by rw [← e1]; exact Heap.get?_push_size _ rfl)
  have kp : ∀ b o, s.heap.get? b = some o → b ≠ s.heap.objs.size + 1 ∧ (((s.heap.push (seqObj "list" #[] 0)).update s.heap.objs.size (Obj.mapSeq (· ++ vs.toArray))).push (seqObj "list" vs.toArray 0)).get? b = some o := fun b o q => by
    have lt : b < s.heap.objs.size := Heap.lt_size q
    refine ⟨Nat.ne_of_lt (Nat.lt_succ_of_lt lt), Heap.get?_push_of_some _ ?_⟩
    rw [Heap.get?_update_ne _ _ _ _ (Nat.ne_of_lt lt)]
    exact Heap.get?_push_of_some _ q
  show wpAny _ _ _ _ _ { s with heap := ((s.heap.push (seqObj "list" #[] 0)).update s.heap.objs.size (Obj.mapSeq (· ++ vs.toArray))).push (seqObj "list" vs.toArray 0) }; rw [e1]; refine wpAny_bind (wpAny_holding (wpAny_call_entry slot_list_sort ⟨_, e2, rfl⟩ entry_list_sort (SrtO.list_sort_ord O e2 hz (fun h2 => hS h2 _ _ e2 kp) fun out hs hb => ⟨_, rfl, ?_⟩) (args_list_sort _))); exact wpAny_pure ⟨_, rfl, h out hs hb⟩
end
def rSortedU (K : PySem.W.Frag) : List V → Hp → VK → Prop := fun vs H Q => ∃ (a : Addr) (ts : List Addr) (k : Addr → List Int) (d : Nat) (B : Int), vs = [.ref a] ∧ SqT K H a (ts.map V.ref) ∧ 1 ≤ d ∧ (∀ t ∈ ts, H t = some (.tup ((k t).map V.int)) ∧ (k t).length = d ∧ TS.Bd B (k t)) ∧
  ∀ (ts' : List Addr) (p : Addr), ts'.Perm ts → H p = none → Q (.ref p) (upd H p (.lst (ts'.map V.ref)))
theorem cr_sortedU {X : Cx} : CallR X (.builtin "sorted") (rSortedU X.K) := by
  intro pins s σ H vs us Q I r h
  obtain ⟨a, ts, k, d, B, rfl, hs, hd, ht, q⟩ := h
  obtain ⟨its, rv, hl, hz⟩ := I.tuple hs
  obtain ⟨u, rfl, ru⟩ := vals1 r
  cases (show u = Value.ref a from ru)
  obtain rfl := Tt.vals_refs rv
  have tup : ∀ t ∈ ts, TS.TupInts s.heap (.ref t) (k t) := fun t hm => by
    obtain ⟨_, its, rr, hT⟩ := I.hok t _ (ht t hm).1
    exact ⟨t, its.toArray, rfl, hT, by simpa using rr.ints⟩
  have ok : TS.TupsOk s.heap d B (ts.map Value.ref) := fun v hv => by
    obtain ⟨t, hm, rfl⟩ := List.mem_map.mp hv
    exact ⟨k t, tup t hm, (ht t hm).2.1, (ht t hm).2.2⟩
  have rk_at : ∀ v ∈ ts.map Value.ref, ∀ ns, TS.TupInts s.heap v ns → Tt.rk s.heap B v = TS.code B ns := fun v _ ns t => by
    unfold Tt.rk
    rw [t.ints]
  refine sorted_tup (Tt.swo_rk (Tt.rk s.heap B)) hl (by rw [← rv.length]; exact hz) (fun h2 h₁ a' ha' kk => ?_) fun out so sb => ?_
  · have keep : ∀ b o, s.heap.get? b = some o → o.cls = .type "tuple" → h₁.get? b = some o := fun b o e _ => (kk b o e).2
    refine Tt.sortable (s := { s with heap := h₁ }) hd h2 (ok.keeps keep) (fun o e c => ?_) (Tt.rk s.heap B) fun v hv ns t => ?_
    · have e' := Option.some.inj (e.symm.trans ha')
      rw [e'] at c
      exact absurd (Value.type.inj c) (by decide)
    · obtain ⟨n0, t0, _⟩ := ok v hv
      rw [show ns = n0 from t.ints.symm.trans (t0.keeps keep).ints]
      exact rk_at v hv n0 t0
  · obtain ⟨ep, he⟩ := PyProof.Rows.sortedAll_at s.heap (ts.map Value.ref) out.toArray
    have pm := sb.perm
    obtain ⟨ts', rfl, pt⟩ : ∃ ts' : List Addr, out = ts'.map Value.ref ∧ ts'.Perm ts := by
      have back : ∀ v ∈ out, ∃ t, v = Value.ref t := fun v hv => by
        obtain ⟨t, _, e⟩ := List.mem_map.mp (pm.mem_iff.mp hv)
        exact ⟨t, e.symm⟩
      have g : ∀ l : List Value, (∀ v ∈ l, ∃ t, v = Value.ref t) → ∃ m : List Addr, l = m.map Value.ref := by
        intro l
        induction l with
        | nil => intro _; exact ⟨[], rfl⟩
        | cons v r ih =>
          intro hv
          obtain ⟨t, rfl⟩ := hv v List.mem_cons_self
          obtain ⟨m, rfl⟩ := ih fun z hz => hv z (List.mem_cons_of_mem _ hz)
          exact ⟨t :: m, rfl⟩
      obtain ⟨m, rfl⟩ := g out back
      let f : Value → Addr := fun v => match v with | .ref t => t | _ => 0
      have q2 := pm.map f
      rw [List.map_map, List.map_map] at q2
      have e1 : (f ∘ Value.ref) = id := by funext z; rfl
      rw [e1, List.map_id, List.map_id] at q2
      exact ⟨m, rfl, q2⟩
    refine ⟨.ref (s.heap.objs.size + 1), _, I.laid (t' := s.toks) (o := .lst (ts'.map V.ref)) (fun _ _ => PyProof.Rows.sortedAll_old) (Nat.le_succ _) ⟨?_, ts'.map Value.ref, ep, Tt.refs_vals ts', he⟩, rfl, q ts' _ pt (I.hok.fresh (Nat.le_succ _))⟩
    rw [List.length_map, pt.length_eq]
    rw [List.length_map] at hz
    exact hz
theorem for_enumL {K : PySem.W.Frag} {a : Addr} {xs : List V} {g : TG} {tb : TS} {D : Ends} {σ : L2.St} {H : Hp} (Pv : Nat → L2.St → Hp → Prop) (h0 : Pv 0 σ H) (hl : ∀ i σ H, i ≤ xs.length → Pv i σ H → SqL K H a xs)
    (hs : ∀ i x σ H T, xs[i]? = some x → Pv i σ H → H T = none → g (.ref T) σ (upd H T (.tup [.int (i : Nat), x])) fun σ2 H2 => tb { D with nx := Pv (i + 1), ct := Pv (i + 1), bk := D.nx } σ2 H2) (hd : ∀ σ H, Pv xs.length σ H → D.nx σ H) :
    ∃ W : Nat → Nat → L2.St → Hp → Prop, (∃ m, W 0 m σ H) ∧ ∀ i m σ H, W i m σ H →
      ((Ite K a).stop i H ∧ D.nx σ H) ∨ ((Ite K a).go i H ∧ ∃ N : L2.St → Hp → Prop, (∀ σ' H', N σ' H' → ∃ m', m' < m ∧ W (i + 1) m' σ' H') ∧ ∀ x H', (Ite K a).yld i H x H' → g x σ H' fun σ2 H2 => tb { D with nx := N, ct := N, bk := D.nx } σ2 H2) := by
  refine ⟨fun i m σ H => i + m = xs.length ∧ Pv i σ H, ⟨xs.length, by omega, h0⟩, ?_⟩
  rintro i m σ H ⟨e, p⟩
  have q := hl i σ H (by omega) p
  by_cases c : i < xs.length
  · refine .inr ⟨⟨xs, xs[i], q, List.getElem?_eq_getElem c⟩, Pv (i + 1), fun σ' H' p' => ⟨m - 1, by omega, by omega, p'⟩, fun v H' hy => ?_⟩
    obtain ⟨T, x, rfl, nT, rfl, fx⟩ := hy
    exact hs i x σ H T (fx xs q) p nT
  · have e2 : i = xs.length := by omega
    subst e2
    exact .inl ⟨⟨xs, q, Nat.le_refl _⟩, hd σ H p⟩
theorem ip_mul {X : Cx} : PIp X .Mult (fun x y H Q => ∃ i j, x = .int i ∧ y = .int j ∧ CMul i j ∧ Q (.int (i * j)) H) := by
  intro pins s σ H x y v u Q I r1 r2 h
  obtain ⟨i, j, e1, e2, hm, q⟩ := h
  subst e1; subst e2
  obtain ⟨t, rfl⟩ := r1
  obtain ⟨t', rfl⟩ := r2
  exact imul_int ⟨.int _, H, I.tok _, ⟨_, rfl⟩, q⟩ hm.ok
theorem pow_bd {n : Int} (h0 : 0 ≤ n) (h4 : n ≤ 4) {i : Nat} (hi : i ≤ 6) : 0 ≤ n ^ i ∧ n ^ i ≤ 4096 := by
  obtain ⟨m, rfl⟩ : ∃ m : Nat, n = m := ⟨n.toNat, by omega⟩
  have := pow_le_4096 (show m ≤ 4 by omega) hi
  constructor
  · exact Int.pow_nonneg h0
  · exact_mod_cast this
/-! ### a tuple whose object is known -/
def rTupF (K : PySem.W.Frag) : List V → Hp → VK → Prop := fun xs H Q => ∃ p ys, xs = [.ref p] ∧ SqL K H p ys ∧ ∀ l (o : Obj), H l = none → o.cls = .type "tuple" → o.dict = none → Q (.ref l) (upd H l (.frz o (.tup ys)))
theorem call_tupF {X : Cx} : CallR X (.type "tuple") (rTupF X.K) := by
  intro pins s σ H xs us Q I r h
  obtain ⟨p, ys, rfl, hq, q⟩ := h
  obtain ⟨u, rfl, rx⟩ := vals1 r
  cases rx
  obtain ⟨its, r', pl, hz⟩ := I.list hq
  have hlen := r'.length
  refine call_tuple_list pl.isList (fun h' kp => ?_) (by simp only [List.size_toArray] <;> omega)
  have J1 : Inv X pins σ H { s with heap := h' } := I.kept (t' := s.toks) kp
  have ob : ObjOk X.prog X.w (upd H h'.objs.size (.frz { cls := .type "tuple", data := .seq its.toArray } (.tup ys))) (h'.push { cls := .type "tuple", data := .seq its.toArray }) h'.objs.size (.frz { cls := .type "tuple", data := .seq its.toArray } (.tup ys)) := ⟨Heap.get?_push_size _ rfl, hz, its, r', IsTup.new _ _⟩
  exact ⟨.ref h'.objs.size, _, J1.laid (t' := s.toks) (fun b o e => Heap.get?_push_of_some _ e) (Nat.le_refl _) ob, rfl, q _ _ (J1.hok.fresh (Nat.le_refl _)) rfl rfl⟩
/-- a method of such a tuple -/
def tBMF (r : V → List V → Hp → VK → Prop) (to : TE) (t : TA) : TE := fun σ H Q => to σ H fun x H1 => (∃ a o u, x = .ref a ∧ H1 a = some (.frz o u) ∧ o.cls = .type "tuple" ∧ o.dict = none) ∧ t σ H1 fun vs H2 => r x vs H2 Q
theorem pe_bmF {X : Cx} {o e : Expr} {es : List Expr} {to : TE} {t : TA} {name : Str} {apos cpos : Pos} {id : String} {r : V → List V → Hp → VK → Prop} (pa : PlainAttrs "tuple") (slot : Slot "tuple" name id) (hty : typeOf (.builtin id) = pure (.type "method_descriptor")) (hm : MtR X id r) (ho : PE X o to) (ha : PA X (e :: es) t)
    (hbase : attributeBase o name X.env (eval o X.env) = eval o X.env := by rfl) (hfew : ((backTo cpos (starEach (e :: es) X.env)).all (fun x => !x.1) && (backToKw cpos (keywordEach [] X.env)).all (fun x => x.1.isSome) && decide ((e :: es).length + ([] : List Keyword).length + (if ([] : List Keyword).isEmpty then 0 else 1) < 30)) = true := by rfl)
    (hline : (apos.endLine == cpos.line) = true := by rfl) (hs : starEach (e :: es) X.env = (false, eval e X.env) :: starEach es X.env := by rfl) (hplain : (backTo cpos (starEach es X.env)).any (·.1) = false := by rfl) : PE X (.Call (.Attribute o name apos) (e :: es) [] cpos) (tBMF r to t) := ⟨fun pins s σ H Q I h => by
  refine wpAny_Call_method_late hbase hfew hline rfl (thn (ho.run pins s σ H _ I h) fun v s1 ⟨x, H1, I1, r1, ⟨a, ob, u, ex, e1, e2, e3⟩, q1⟩ => ?_)
  subst ex
  cases r1
  have gt : s1.heap.get? a = some ob := (I1.hok a _ e1).1
  refine ⟨"tuple", id, pa, slot, hty, ⟨ob, gt, e2⟩, fun b e4 => by cases e4; exact ⟨ob, gt, e3⟩, ?_⟩
  have hA := ha.run cpos pins s1 σ H1 _ I1 q1; rw [hs] at hA ⊢
  refine Calls.callWith_builtin (by show (false || (backTo cpos (starEach es X.env)).any (·.1)) = false; rw [hplain] <;> rfl) (Calls.evalArgs_plain (thn hA fun us s2 ⟨vs, H2, I2, r2, q2⟩ => ?_))
  exact hm pins s2 σ H2 (.ref a) vs (.ref a) us Q I2 rfl r2 q2⟩
def rTupO (K : PySem.W.Frag) : List V → Hp → VK → Prop := fun xs H Q => ∃ p ys, xs = [.ref p] ∧ ((SqL K H p ys ∧ ∀ l, H l = none → Q (.ref l) (upd H l (.tup ys))) ∨ (SqT K H p ys ∧ Q (.ref p) H))
def rNotInU (K : PySem.W.Frag) : R2 := fun x y H Q => ∃ d ds, Dp K H x d ∧ Dp K H y (.tuple ds) ∧ SeqAt.shaped d = true ∧ SeqAt.shaped (.tuple ds) = true ∧ Q (.bl (!ds.any fun z => PyData.eqv z d)) H
theorem op_notInU {X : Cx} (hu : X.A.units + 65 < cLine) : OpR X (compareOp .NotIn) (rNotInU X.K) := by
  intro pins s σ H x y v u Q I rx ry h
  obtain ⟨d, ds, hd, he, sd, se, q⟩ := h
  obtain ⟨as, r1⟩ := Dp.reads I d x v hd rx
  obtain ⟨bs, r2⟩ := Dp.reads I (.tuple ds) y u he ry
  exact SeqAt.notIn_tuple_reads r2 r1 (SeqAt.canLay_of_shaped se) (SeqAt.canLay_of_shaped sd) (room_in_shaped sd hu) ⟨.bl _, H, I, rfl, q⟩
theorem fine_bool (b : Bool) : Fine (.bool b) 1 2 := by
  refine ⟨rfl, by simp [PyData.depth], by simp [PyData.weight], rfl, rfl, rfl⟩
theorem fine_bb (a b : Bool) : Fine (.tuple [.bool a, .bool b]) 2 8 := (Fine.tuple (.cons (fine_bool a) (.cons (fine_bool b) (.nil _)))).mono (by omega) (by omega)
end Rd

set_option Elab.async false
set_option linter.all false
set_option maxRecDepth 100000
set_option maxHeartbeats 4000000
/-! wishes apart: what is due -/
namespace Rd
open PySem PySem.Spec PyProof.Rows L2 Dt
def bothF (a b : WD) (fills : List (List Int)) : Option (List Int) := fills.find? fun f => brk f a && brk f b
def pairR (wds : List WD) (fills : List (List Int)) (i j : Nat) : Option (List Int) := match wds[i]?, wds[j]? with
  | some a, some b => if clB a b = true then bothF a b fills else none
  | _, _ => none
theorem pairR_of {wds : List WD} {fills : List (List Int)} {i j : Nat} {a b : WD} (ha : wds[i]? = some a) (hb : wds[j]? = some b) : pairR wds fills i j = if clB a b = true then bothF a b fills else none := by
  unfold pairR
  rw [ha, hb]
abbrev ApR := Option (Nat × Nat × List Int)
def Apt (wds : List WD) (fills : List (List Int)) : ApR → Prop
  | none => ∀ i j, i < j → j < wds.length → pairR wds fills i j = none
  | some (i, j, f) => i < j ∧ j < wds.length ∧ pairR wds fills i j = some f ∧ ∀ i' j', i' < j' → j' < wds.length → (i' < i ∨ (i' = i ∧ j' < j)) → pairR wds fills i' j' = none
theorem Apt.one {wds : List WD} {fills : List (List Int)} : ∀ {r r' : ApR}, Apt wds fills r → Apt wds fills r' → r = r'
  | none, none, _, _ => rfl
  | none, some (i, j, f), h, ⟨a, b, c, _⟩ => by rw [h i j a b] at c; cases c
  | some (i, j, f), none, ⟨a, b, c, _⟩, h => by rw [h i j a b] at c; cases c
  | some (i, j, f), some (i', j', f'), ⟨a, b, c, d⟩, ⟨a', b', c', d'⟩ => by
    have h1 : ¬ (i' < i ∨ (i' = i ∧ j' < j)) := fun z => by rw [d i' j' a' b' z] at c'; cases c'
    have h2 : ¬ (i < i' ∨ (i = i' ∧ j < j')) := fun z => by rw [d' i j a b z] at c; cases c
    have e1 : i = i' := by omega
    have e2 : j = j' := by omega
    subst e1
    subst e2
    rw [c] at c'
    cases c'
    rfl
/-! ### what the law asks ahead of it -/
def shd (a b : WD) : List Int := a.1.filter fun p => decide (p ∈ b.1)
def agreeB (a b : WD) (r s : List Int) : Bool := (shd a b).all fun p => decide (r.getD (a.1.idxOf p) 0 = s.getD (b.1.idxOf p) 0)
def meetB (a b : WD) : Bool := a.2.any fun r => b.2.any fun s => agreeB a b r s
theorem shd_nil (a b : WD) : shd a b = [] ↔ clB a b = false := by
  unfold shd clB
  rw [List.filter_eq_nil_iff, List.any_eq_false]
theorem at_idx {fs ps : List Int} {p : Int} (h : p ∈ ps) : (huesA fs ps).getD (ps.idxOf p) 0 = atF fs p := by
  have hl := List.idxOf_lt_length_of_mem h
  unfold huesA
  rw [List.getD_eq_getElem?_getD, List.getElem?_map, List.getElem?_eq_getElem hl, List.getElem_idxOf]
  rfl
theorem meet_of {a b : WD} {f : List Int} (ha : brk f a = true) (hb : brk f b = true) : meetB a b = true := by
  have h1 := of_decide_eq_true ha
  have h2 := of_decide_eq_true hb
  unfold meetB
  rw [List.any_eq_true]
  refine ⟨_, h1, ?_⟩
  rw [List.any_eq_true]
  refine ⟨_, h2, ?_⟩
  unfold agreeB
  rw [List.all_eq_true]
  intro p hp
  obtain ⟨p1, p2⟩ := List.mem_filter.mp hp
  have p3 := of_decide_eq_true p2
  rw [at_idx p1, at_idx p3]
  simp
theorem pairR_meet {wds : List WD} {fills : List (List Int)} {i j : Nat} {a b : WD} (ha : wds[i]? = some a) (hb : wds[j]? = some b) (h : ¬ (clB a b = true ∧ meetB a b = true)) : pairR wds fills i j = none := by
  rw [pairR_of ha hb]
  split
  · rename_i hc
    unfold bothF
    rw [List.find?_eq_none]
    intro f _ hf
    rw [Bool.and_eq_true] at hf
    exact h ⟨hc, meet_of hf.1 hf.2⟩
  · rfl
/-! ### rising numbers of those that clash -/
theorem clsL_rise (wds : List WD) (a : WD) (i : Nat) : (clsL wds a i).Pairwise (· < ·) := by
  unfold clsL
  rw [List.pairwise_map]
  refine List.Pairwise.imp (fun {x y} h => ?_) (List.Pairwise.filter _ List.pairwise_lt_range)
  omega
theorem clsL_in {wds : List WD} {a b : WD} {j n : Nat} (hj : j < n) (hb : wds[j]? = some b) (h : clB a b = true) : (j : Int) ∈ clsL wds a n := by
  unfold clsL
  refine List.mem_map.mpr ⟨j, List.mem_filter.mpr ⟨List.mem_range.mpr hj, ?_⟩, rfl⟩
  rw [clAt_of hb]
  exact h
theorem rise_take {l : List Int} (h : l.Pairwise (· < ·)) {k : Nat} {x y : Int} (hx : l[k]? = some x) (hy : y ∈ l) (hyx : y < x) : y ∈ l.take k := by
  obtain ⟨m, hm, rfl⟩ := List.mem_iff_getElem.mp hy
  obtain ⟨hk, rfl⟩ := List.getElem?_eq_some_iff.mp hx
  have lt : m < k := by
    rcases Nat.lt_trichotomy m k with z | z | z
    · exact z
    · subst z; omega
    · have := List.pairwise_iff_getElem.mp h k m hk hm z
      omega
  rw [List.mem_iff_getElem]
  exact ⟨m, by rw [List.length_take]; omega, by rw [List.getElem_take]⟩
/-! ### what is told -/
def IsOpt (H : Hp) (v : V) : Option (List Int) → Prop
  | none => v = .non
  | some f => ∃ fa, v = .ref fa ∧ IsRow H fa f
def IsAp (H : Hp) (t : Addr) : ApR → Prop
  | none => H t = some (.tup [.str "apart"])
  | some (i, j, f) => ∃ fa, H t = some (.tup [.str "both", .int (i : Nat), .int (j : Nat), .ref fa]) ∧ IsRow H fa f
def apD : ApR → PyData
  | none => .tuple [.str "apart"]
  | some (i, j, f) => .tuple [.str "both", .int (i : Nat), .int (j : Nat), rowD f]
theorem IsAp.mono {H H' : Hp} {t : Addr} (h : Tups H H') : ∀ {r : ApR}, IsAp H t r → IsAp H' t r
  | none, e => h _ _ e
  | some (i, j, f), ⟨fa, e1, e2⟩ => ⟨fa, h _ _ e1, h _ _ e2⟩
theorem dpAp {K : PySem.W.Frag} {H : Hp} {t : Addr} : ∀ {r : ApR}, IsAp H t r → Dp K H (.ref t) (apD r)
  | none, e => .tup (.inl (.inl e)) (.cons (.str _) .nil)
  | some (i, j, f), ⟨fa, e1, e2⟩ => .tup (.inl (.inl e1)) (.cons (.str _) (.cons (.int _) (.cons (.int _) (.cons (dpRow e2) .nil))))
theorem find_take {α : Type} {p : α → Bool} {l : List α} {i : Nat} {x : α} (hx : l[i]? = some x) (h : ∀ y ∈ l.take i, p y = false) (hp : p x = true) : l.find? p = some x := by
  obtain ⟨hi, e⟩ := List.getElem?_eq_some_iff.mp hx
  have e2 : l = l.take i ++ x :: l.drop (i + 1) := by
    rw [← e, List.getElem_cons_drop, List.take_append_drop]
  rw [e2, List.find?_append, List.find?_eq_none.mpr (fun y hy => by rw [h y hy]; decide), List.find?_cons, hp]
  rfl
theorem bothF_none {a b : WD} {l : List (List Int)} (h : ∀ f ∈ l, (brk f a && brk f b) = false) : bothF a b l = none := List.find?_eq_none.mpr fun f hf => by rw [h f hf]; decide
end Rd

set_option Elab.async false
set_option linter.all false
set_option maxRecDepth 100000
set_option maxHeartbeats 4000000
/-! runs step by step, and the draws told back -/
namespace Dt
open PySem PySem.Spec PyProof.Rows L2
inductive Steps (wds : List WD) (tb : List (List Int)) (ord : List Int) : List Int → Log → List Int → Log → Prop
  | refl (tk : List Int) (log : Log) : Steps wds tb ord tk log tk log
  | step {tk tk' : List Int} {log log' : Log} {k : Int} : firstB (stand tb tk) wds ord = some k → canN tb tk (plc wds k) = true → Steps wds tb ord (bumpA tk (plc wds k)) (log ++ [(k, huesA (stand tb tk) (plc wds k))]) tk' log' → Steps wds tb ord tk log tk' log'
/-- how a run ends -/
structure EndsAt (wds : List WD) (tb : List (List Int)) (ord : List Int) (tk : List Int) (b : Bool) : Prop where
  kept : b = true → firstB (stand tb tk) wds ord = none
  spent : b = false → ∃ k, firstB (stand tb tk) wds ord = some k ∧ canN tb tk (plc wds k) = false
theorem goR_steps {wds : List WD} {tb : List (List Int)} {ord : List Int} {R : Res} : ∀ (n : Nat) (tk : List Int) (log : Log), goR wds tb ord n tk log = some R → ∃ tkE, Steps wds tb ord tk log tkE R.2.2 ∧ R.2.1 = stand tb tkE ∧ EndsAt wds tb ord tkE R.1
  | 0, _, _, h => nomatch h
  | n + 1, tk, log, h => by
    rw [goR] at h
    cases e : firstB (stand tb tk) wds ord with
    | none =>
      rw [e] at h
      have z := Option.some.inj h
      rw [← z]
      exact ⟨tk, .refl _ _, rfl, fun _ => e, fun z => nomatch z⟩
    | some k =>
      rw [e] at h
      dsimp only at h
      cases c : canN tb tk (plc wds k) with
      | false =>
        rw [c, if_neg (by decide)] at h
        have z := Option.some.inj h
        rw [← z]
        exact ⟨tk, .refl _ _, rfl, (fun z => nomatch z), fun _ => ⟨k, e, c⟩⟩
      | true =>
        rw [c, if_pos rfl] at h
        obtain ⟨tkE, h1, h2, h3⟩ := goR_steps n _ _ h
        exact ⟨tkE, .step e c h1, h2, h3⟩
theorem steps_goR {wds : List WD} {tb : List (List Int)} {ord : List Int} {tk tk' : List Int} {log log' : Log} (s : Steps wds tb ord tk log tk' log') : ∃ c : Nat, ∀ m, goR wds tb ord (m + c) tk log = goR wds tb ord m tk' log' := by
  induction s with
  | refl tk log => exact ⟨0, fun m => rfl⟩
  | @step tk tk' log log' k e c s ih =>
    obtain ⟨n, hn⟩ := ih
    refine ⟨n + 1, fun m => ?_⟩
    show goR wds tb ord (m + n + 1) tk log = _
    rw [goR, e]
    dsimp only
    rw [c, if_pos rfl]
    exact hn m
theorem ends_goR {wds : List WD} {tb : List (List Int)} {ord : List Int} {tk : List Int} {b : Bool} (h : EndsAt wds tb ord tk b) (m : Nat) (log : Log) : goR wds tb ord (m + 1) tk log = some (b, stand tb tk, log) := by
  rw [goR]
  cases b with
  | true => rw [h.kept rfl]
  | false =>
    obtain ⟨k, h1, h2⟩ := h.spent rfl
    rw [h1]
    dsimp only
    rw [h2, if_neg (by decide)]
theorem goR_more {wds : List WD} {tb : List (List Int)} {ord : List Int} {R : Res} : ∀ (n : Nat) (tk : List Int) (log : Log) (m : Nat), goR wds tb ord n tk log = some R → goR wds tb ord (n + m) tk log = some R
  | 0, _, _, _, h => nomatch h
  | n + 1, tk, log, m, h => by
    rw [show n + 1 + m = (n + m) + 1 by omega]
    rw [goR] at h ⊢
    cases e : firstB (stand tb tk) wds ord with
    | none => rw [e] at h; exact h
    | some k =>
      rw [e] at h
      dsimp only at h ⊢
      cases c : canN tb tk (plc wds k) with
      | false => rw [c, if_neg (by decide)] at h; rw [if_neg (by decide)]; exact h
      | true =>
        rw [c, if_pos rfl] at h
        rw [if_pos rfl]
        exact goR_more n _ _ m h
theorem goR_one {wds : List WD} {tb : List (List Int)} {ord : List Int} {R R' : Res} {n n' : Nat} {tk : List Int} {log : Log} (h : goR wds tb ord n tk log = some R) (h' : goR wds tb ord n' tk log = some R') : R = R' := by
  have a := goR_more n tk log n' h
  have b := goR_more n' tk log n h'
  rw [Nat.add_comm] at b
  exact Option.some.inj (a.symm.trans b)
/-- a run by its steps -/
theorem runOf_of {many hues : Int} {wds : List WD} {tb : List (List Int)} {ord : List Int} (gr : GoodR many hues wds) (nd : ∀ wd ∈ wds, wd.1.Nodup) (gt : GoodT many hues tb) (go : GoodO wds.length ord) {tk : List Int} {log : Log} {b : Bool} (s : Steps wds tb ord (zerosI tb.length) [] tk log) (e : EndsAt wds tb ord tk b) : runOf wds tb ord = some (b, stand tb tk, log) := by
  obtain ⟨R, hR, _⟩ := runOf_some gr nd gt go
  obtain ⟨c, hc⟩ := steps_goR s
  have z := ends_goR e 0 log
  rw [← hc (0 + 1)] at z
  rw [hR]
  exact congrArg some (goR_one hR z)
theorem runOf_steps {wds : List WD} {tb : List (List Int)} {ord : List Int} {R : Res} (h : runOf wds tb ord = some R) : ∃ tkE, Steps wds tb ord (zerosI tb.length) [] tkE R.2.2 ∧ R.2.1 = stand tb tkE ∧ EndsAt wds tb ord tkE R.1 := goR_steps _ _ _ h
/-! ### what stays along steps -/
structure Fit (many hues : Int) (wds : List WD) (tb : List (List Int)) (ord : List Int) : Prop where
  gr : GoodR many hues wds
  nd : ∀ wd ∈ wds, wd.1.Nodup
  len : (tb.length : Int) = many
  go : GoodO wds.length ord
theorem can_fit {many hues : Int} {wds : List WD} {tb : List (List Int)} {tk : List Int} {ord : List Int} {k : Int} (f : Fit many hues wds tb ord) (e : firstB (stand tb tk) wds ord = some k) (h : canN tb tk (plc wds k) = true) : Can tb tk (plc wds k) ∧ ∃ wd, wds[k.toNat]? = some wd ∧ plc wds k = wd.1 ∧ brkAt (stand tb tk) wds k.toNat = true ∧ 0 ≤ k ∧ k < (wds.length : Int) := by
  obtain ⟨hk, hb⟩ := first_some e
  obtain ⟨k0, k1⟩ := f.go.mem k hk
  obtain ⟨wd, hw, he⟩ := wd_of k0 k1
  refine ⟨⟨?_, fun p hp => ?_, fun p hp => of_decide_eq_true (List.all_eq_true.mp h p hp)⟩, wd, hw, he, hb, k0, k1⟩
  · rw [he]; exact f.nd wd (List.mem_of_getElem? hw)
  · rw [he] at hp
    have := (f.gr.each wd (List.mem_of_getElem? hw)).pl p hp
    have := f.len
    omega
theorem steps_good {many hues : Int} {wds : List WD} {tb : List (List Int)} {ord : List Int} (f : Fit many hues wds tb ord) {tk tk' : List Int} {log log' : Log} (s : Steps wds tb ord tk log tk' log') (g : GoodK tb tk) : GoodK tb tk' := by
  induction s with
  | refl => exact g
  | step e c s ih => exact ih (bumpA_good g (can_fit f e c).1).1
theorem atF_bump (tk : List Int) (p q : Int) (h0 : 0 ≤ p) (h1 : p < (tk.length : Int)) (hq : 0 ≤ q) : atF (bump tk p.toNat) q = atF tk q + (if q = p then 1 else 0) := by
  unfold atF
  rw [bump_get]
  by_cases e : q = p
  · subst e
    rw [if_pos ⟨rfl, by omega⟩, if_pos rfl]
  · rw [if_neg (fun z => e (by omega)), if_neg e, Int.add_zero]
theorem atF_bumpA : ∀ (ps : List Int) (tk : List Int) (q : Int), ps.Nodup → (∀ p ∈ ps, 0 ≤ p ∧ p < (tk.length : Int)) → 0 ≤ q → atF (bumpA tk ps) q = atF tk q + (if q ∈ ps then 1 else 0)
  | [], tk, q, _, _, _ => by simp [bumpA]
  | p :: r, tk, q, nd, h, hq => by
    have hp := h p List.mem_cons_self
    have nd2 := List.nodup_cons.mp nd
    show atF (bumpA (bump tk p.toNat) r) q = _
    rw [atF_bumpA r (bump tk p.toNat) q nd2.2 (fun x hx => by rw [bump_len]; exact h x (List.mem_cons_of_mem _ hx)) hq, atF_bump tk p q hp.1 hp.2 hq]
    by_cases e : q = p
    · subst e
      rw [if_pos rfl, if_neg nd2.1, if_pos List.mem_cons_self]
      omega
    · rw [if_neg e, Int.add_zero]
      by_cases e2 : q ∈ r
      · rw [if_pos e2, if_pos (List.mem_cons_of_mem _ e2)]
      · rw [if_neg e2, if_neg (fun z => (List.mem_cons.mp z).elim e e2)]
def cntP (wds : List WD) (log : Log) (p : Int) : Nat := (log.filter fun e => decide (p ∈ plc wds e.1)).length
theorem cntP_snoc (wds : List WD) (log : Log) (e : Int × List Int) (p : Int) : cntP wds (log ++ [e]) p = cntP wds log p + (if p ∈ plc wds e.1 then 1 else 0) := by
  unfold cntP
  rw [List.filter_append, List.length_append]
  by_cases h : p ∈ plc wds e.1
  · simp [h]
  · simp [h]
theorem steps_cnt {many hues : Int} {wds : List WD} {tb : List (List Int)} {ord : List Int} (f : Fit many hues wds tb ord) {tk tk' : List Int} {log log' : Log} (s : Steps wds tb ord tk log tk' log') (g : GoodK tb tk) (h : ∀ p, 0 ≤ p → p < (tb.length : Int) → atF tk p = cntP wds log p) : ∀ p, 0 ≤ p → p < (tb.length : Int) → atF tk' p = cntP wds log' p := by
  induction s with
  | refl => exact h
  | @step tk tk' log log' k e c s ih =>
    have cf := (can_fit f e c).1
    refine ih (bumpA_good g cf).1 fun p p0 p1 => ?_
    rw [atF_bumpA _ _ _ cf.nd (fun x hx => by rw [g.len]; exact cf.pl x hx) p0, cntP_snoc, h p p0 p1]
    by_cases e2 : p ∈ plc wds k
    · rw [if_pos e2, if_pos e2]; rfl
    · rw [if_neg e2, if_neg e2]; rfl
theorem steps_le {many hues : Int} {wds : List WD} {tb : List (List Int)} {ord : List Int} (f : Fit many hues wds tb ord) {tk tk' : List Int} {log log' : Log} (s : Steps wds tb ord tk log tk' log') (g : GoodK tb tk) : ∀ p, 0 ≤ p → atF tk p ≤ atF tk' p := by
  induction s with
  | refl => exact fun _ _ => Int.le_refl _
  | @step tk tk' log log' k e c s ih =>
    intro p p0
    have cf := (can_fit f e c).1
    have a := ih (bumpA_good g cf).1 p p0
    rw [atF_bumpA _ _ _ cf.nd (fun x hx => by rw [g.len]; exact cf.pl x hx) p0] at a
    split at a <;> omega
theorem steps_pre {wds : List WD} {tb : List (List Int)} {ord : List Int} {tk tk' : List Int} {log log' : Log} (s : Steps wds tb ord tk log tk' log') : ∃ more, log' = log ++ more := by
  induction s with
  | refl => exact ⟨[], by rw [List.append_nil]⟩
  | step e c s ih =>
    obtain ⟨more, h⟩ := ih
    exact ⟨_, by rw [h, List.append_assoc]⟩
/-! ### tables that agree so far -/
structure Agree (tb tb' : List (List Int)) (tk : List Int) : Prop where
  len : tb'.length = tb.length
  long : ∀ p : Nat, p < tb.length → tk.getD p 0 < ((tb'.getD p []).length : Int)
  eq : ∀ p : Nat, p < tb.length → (tb'.getD p []).take ((tk.getD p 0).toNat + 1) = (tb.getD p []).take ((tk.getD p 0).toNat + 1)
theorem take_at {a b : List Int} {n j : Nat} (h : a.take (n + 1) = b.take (n + 1)) (hj : j ≤ n) : a.getD j 0 = b.getD j 0 := by
  have z := congrArg (fun l : List Int => l[j]?) h
  simp only [List.getElem?_take] at z
  rw [if_pos (by omega), if_pos (by omega)] at z
  rw [List.getD_eq_getElem?_getD, List.getD_eq_getElem?_getD, z]
theorem Agree.stand {tb tb' : List (List Int)} {tk tkE : List Int} (a : Agree tb tb' tkE) (g : GoodK tb tk) (h : ∀ p, 0 ≤ p → atF tk p ≤ atF tkE p) : stand tb' tk = stand tb tk := by
  have g' : GoodK tb' tk := by
    refine ⟨by rw [a.len]; exact g.len, fun p hp => ?_⟩
    rw [a.len] at hp
    have b := g.at_ p hp
    have c := a.long p hp
    have d := h p (by omega)
    unfold atF at d
    rw [Int.toNat_natCast] at d
    omega
  refine List.ext_getElem? fun i => ?_
  by_cases hi : i < tb.length
  · rw [stand_get g' (by rw [a.len]; exact hi), stand_get g hi]
    have b := g.at_ i hi
    have d := h i (by omega)
    unfold atF at d ⊢
    rw [Int.toNat_natCast] at d
    rw [take_at (a.eq i hi) (by omega)]
  · rw [List.getElem?_eq_none (by rw [stand_len g', a.len]; omega), List.getElem?_eq_none (by rw [stand_len g]; omega)]
theorem agree_good {tb tb' : List (List Int)} {tk tkE : List Int} (a : Agree tb tb' tkE) (g : GoodK tb tk) (h : ∀ p, 0 ≤ p → atF tk p ≤ atF tkE p) : GoodK tb' tk := by
  refine ⟨by rw [a.len]; exact g.len, fun p hp => ?_⟩
  rw [a.len] at hp
  have b := g.at_ p hp
  have c := a.long p hp
  have d := h p (by omega)
  unfold atF at d
  rw [Int.toNat_natCast] at d
  omega
theorem steps_agree {many hues : Int} {wds : List WD} {tb tb' : List (List Int)} {ord : List Int} (f : Fit many hues wds tb ord) {tk tkE : List Int} {log log' : Log} (s : Steps wds tb ord tk log tkE log') (g : GoodK tb tk) (a : Agree tb tb' tkE) : Steps wds tb' ord tk log tkE log' := by
  induction s with
  | refl => exact .refl _ _
  | @step tk tkE log log' k e c s ih =>
    have cf := (can_fit f e c).1
    have g2 := (bumpA_good g cf).1
    have le2 := steps_le f s g2
    have le1 := steps_le f (.step e c s) g
    have es := a.stand g le1
    have ih2 := ih g2 a
    refine .step (k := k) (by rw [es]; exact e) ?_ (by rw [es]; exact ih2)
    refine List.all_eq_true.mpr fun p hp => decide_eq_true ?_
    have pp := cf.pl p hp
    have b := le2 p pp.1
    rw [atF_bumpA _ _ _ cf.nd (fun x hx => by rw [g.len]; exact cf.pl x hx) pp.1, if_pos hp] at b
    have d := a.long p.toNat (by omega)
    unfold atF lenAt at *
    omega
/-! ### the draws told back -/
def app1 (tb : List (List Int)) (p : Nat) (h : Int) : List (List Int) := tb.set p (tb.getD p [] ++ [h])
def appA (tb : List (List Int)) (ps row : List Int) : List (List Int) := (ps.zip row).foldl (fun t x => app1 t x.1.toNat x.2) tb
def toldL (wds : List WD) (n : Nat) (log : Log) : List (List Int) := log.foldl (fun t e => appA t (plc wds e.1) e.2) (List.replicate n [])
def finA (tb : List (List Int)) (fs : List Int) (i : Nat) : List (List Int) := (List.range i).foldl (fun t j => app1 t j (fs.getD j 0)) tb
def toldT (wds : List WD) (fs : List Int) (log : Log) : List (List Int) := finA (toldL wds fs.length log) fs fs.length
def takes (tb : List (List Int)) (tk : List Int) : List (List Int) := List.zipWith (fun ds k => ds.take k.toNat) tb tk
def firsts (tb : List (List Int)) (tk : List Int) : List (List Int) := List.zipWith (fun ds k => ds.take (k.toNat + 1)) tb tk
theorem app1_len (tb : List (List Int)) (p : Nat) (h : Int) : (app1 tb p h).length = tb.length := by simp [app1]
theorem app1_get (tb : List (List Int)) (p i : Nat) (h : Int) : (app1 tb p h).getD i [] = if i = p ∧ p < tb.length then tb.getD p [] ++ [h] else tb.getD i [] := by
  unfold app1
  rw [List.getD_eq_getElem?_getD, List.getElem?_set]
  by_cases e : p = i
  · subst e
    by_cases h2 : p < tb.length
    · rw [if_pos rfl, if_pos h2, if_pos ⟨rfl, h2⟩]; rfl
    · rw [if_pos rfl, if_neg h2, if_neg (fun z => h2 z.2), List.getD_eq_getElem?_getD, List.getElem?_eq_none (by omega)]
  · rw [if_neg e, if_neg (fun z => e z.1.symm), List.getD_eq_getElem?_getD]
theorem appA_len : ∀ (ps row : List Int) (tb : List (List Int)), (appA tb ps row).length = tb.length
  | [], _, _ => rfl
  | _ :: _, [], _ => rfl
  | p :: r, h :: q, tb => by
    show (appA (app1 tb p.toNat h) r q).length = _
    rw [appA_len r q, app1_len]
theorem toldL_len (wds : List WD) (n : Nat) : ∀ log : Log, (toldL wds n log).length = n := fun log => by
  unfold toldL
  have : ∀ (log : Log) (tb : List (List Int)), (log.foldl (fun t e => appA t (plc wds e.1) e.2) tb).length = tb.length := by
    intro log
    induction log with
    | nil => intro _; rfl
    | cons e r ih => intro tb; rw [List.foldl_cons, ih, appA_len]
  rw [this, List.length_replicate]
theorem toldL_snoc (wds : List WD) (n : Nat) (log : Log) (e : Int × List Int) : toldL wds n (log ++ [e]) = appA (toldL wds n log) (plc wds e.1) e.2 := by
  unfold toldL
  rw [List.foldl_append]
  rfl
theorem finA_succ (tb : List (List Int)) (fs : List Int) (i : Nat) : finA tb fs (i + 1) = app1 (finA tb fs i) i (fs.getD i 0) := by
  unfold finA
  rw [List.range_succ, List.foldl_append]
  rfl
theorem finA_len (tb : List (List Int)) (fs : List Int) : ∀ i : Nat, (finA tb fs i).length = tb.length
  | 0 => rfl
  | i + 1 => by rw [finA_succ, app1_len, finA_len tb fs i]
theorem finA_get (tb : List (List Int)) (fs : List Int) : ∀ (i q : Nat), i ≤ tb.length → (finA tb fs i).getD q [] = if q < i then tb.getD q [] ++ [fs.getD q 0] else tb.getD q []
  | 0, q, _ => by rw [if_neg (Nat.not_lt_zero _)]; rfl
  | i + 1, q, h => by
    rw [finA_succ, app1_get, finA_len, finA_get tb fs i q (by omega), finA_get tb fs i i (by omega)]
    by_cases e : q = i
    · subst e
      rw [if_pos ⟨rfl, by omega⟩, if_neg (Nat.lt_irrefl _), if_pos (Nat.lt_succ_self _)]
    · rw [if_neg (fun z => e z.1)]
      by_cases e2 : q < i
      · rw [if_pos e2, if_pos (by omega)]
      · rw [if_neg e2, if_neg (by omega)]
theorem toldT_len (wds : List WD) (fs : List Int) (log : Log) : (toldT wds fs log).length = fs.length := by
  rw [toldT, finA_len, toldL_len]
theorem toldT_get (wds : List WD) (fs : List Int) (log : Log) {q : Nat} (h : q < fs.length) : (toldT wds fs log).getD q [] = (toldL wds fs.length log).getD q [] ++ [fs.getD q 0] := by
  rw [toldT, finA_get _ _ _ _ (by rw [toldL_len]; exact Nat.le_refl _), if_pos h]
theorem takes_len {tb : List (List Int)} {tk : List Int} (g : GoodK tb tk) : (takes tb tk).length = tb.length := by
  unfold takes
  rw [List.length_zipWith, g.len, Nat.min_self]
theorem takes_get {tb : List (List Int)} {tk : List Int} (g : GoodK tb tk) {p : Nat} (hp : p < tb.length) : (takes tb tk)[p]? = some ((tb.getD p []).take (tk.getD p 0).toNat) := by
  have h2 : p < tk.length := by rw [g.len]; exact hp
  unfold takes
  rw [List.getElem?_zipWith, List.getElem?_eq_getElem hp, List.getElem?_eq_getElem h2, getD_get hp, getD_get h2]
theorem firsts_len {tb : List (List Int)} {tk : List Int} (g : GoodK tb tk) : (firsts tb tk).length = tb.length := by
  unfold firsts
  rw [List.length_zipWith, g.len, Nat.min_self]
theorem firsts_get {tb : List (List Int)} {tk : List Int} (g : GoodK tb tk) {p : Nat} (hp : p < tb.length) : (firsts tb tk)[p]? = some ((tb.getD p []).take ((tk.getD p 0).toNat + 1)) := by
  have h2 : p < tk.length := by rw [g.len]; exact hp
  unfold firsts
  rw [List.getElem?_zipWith, List.getElem?_eq_getElem hp, List.getElem?_eq_getElem h2, getD_get hp, getD_get h2]
theorem getD_of {α : Type} {l : List α} {i : Nat} {a d : α} (h : l[i]? = some a) : l.getD i d = a := by
  rw [List.getD_eq_getElem?_getD, h]
  rfl
theorem take1 {tb : List (List Int)} {tk : List Int} {p : Nat} (g : GoodK tb tk) (hp : p < tb.length) (h : tk.getD p 0 + 1 < ((tb.getD p []).length : Int)) : app1 (takes tb tk) p (atF (tb.getD p []) (tk.getD p 0)) = takes tb (bump tk p) := by
  have g2 := good_bump g hp h
  have a := g.at_ p hp
  refine List.ext_getElem? fun i => ?_
  unfold app1
  rw [List.getElem?_set]
  by_cases hi : i < tb.length
  · rw [takes_get g2 hi, bump_get]
    by_cases e : p = i
    · subst e
      rw [if_pos rfl, if_pos (by rw [takes_len g]; exact hp), if_pos ⟨rfl, by rw [g.len]; exact hp⟩, getD_of (takes_get g hp)]
      have en : (tk.getD p 0 + 1).toNat = (tk.getD p 0).toNat + 1 := by omega
      have hl : (tk.getD p 0).toNat < (tb.getD p []).length := by omega
      rw [en, List.take_add_one, atF, getD_get hl, List.getElem?_eq_getElem hl]
      rfl
    · rw [if_neg e, if_neg (fun z => e z.1.symm), takes_get g hi]
  · rw [if_neg (by omega), List.getElem?_eq_none (by rw [takes_len g]; omega), List.getElem?_eq_none (by rw [takes_len g2]; omega)]
theorem takeA : ∀ (ps : List Int) {tb : List (List Int)} {tk : List Int} (w : Int → Int), GoodK tb tk → Can tb tk ps → (∀ p ∈ ps, w p = atF (tb.getD p.toNat []) (atF tk p)) → appA (takes tb tk) ps (ps.map w) = takes tb (bumpA tk ps)
  | [], _, _, _, _, _, _ => rfl
  | p :: r, tb, tk, w, g, c, h => by
    have hp := c.pl p List.mem_cons_self
    have hn := c.nx p List.mem_cons_self
    have hpn : p.toNat < tb.length := by omega
    show appA (app1 (takes tb tk) p.toNat (w p)) r (r.map w) = takes tb (bumpA (bump tk p.toNat) r)
    rw [h p List.mem_cons_self, show atF tk p = tk.getD p.toNat 0 from rfl, take1 g hpn hn]
    refine takeA r w (good_bump g hpn hn) c.tail fun q hq => ?_
    have hq2 := c.pl q (List.mem_cons_of_mem _ hq)
    have hne : q ≠ p := fun z => (List.nodup_cons.mp c.nd).1 (z ▸ hq)
    rw [h q (List.mem_cons_of_mem _ hq), atF_bump tk p q hp.1 (by rw [g.len]; exact hp.2) hq2.1, if_neg hne, Int.add_zero]
theorem steps_told {many hues : Int} {wds : List WD} {tb : List (List Int)} {ord : List Int} (f : Fit many hues wds tb ord) {tk tk' : List Int} {log log' : Log} (s : Steps wds tb ord tk log tk' log') (g : GoodK tb tk) (h : toldL wds tb.length log = takes tb tk) : toldL wds tb.length log' = takes tb tk' := by
  induction s with
  | refl => exact h
  | @step tk tk' log log' k e c s ih =>
    have cf := (can_fit f e c).1
    refine ih (bumpA_good g cf).1 ?_
    rw [toldL_snoc, h]
    refine takeA _ _ g cf fun p hp => ?_
    have pp := cf.pl p hp
    have hpn : p.toNat < tb.length := by omega
    show atF (stand tb tk) p = _
    rw [atF, getD_of (stand_get g hpn)]
    rfl
theorem told_end {wds : List WD} {tb : List (List Int)} {tk : List Int} {log : Log} (g : GoodK tb tk) (h : toldL wds tb.length log = takes tb tk) : toldT wds (stand tb tk) log = firsts tb tk := by
  refine List.ext_getElem? fun i => ?_
  by_cases hi : i < tb.length
  · have hs : i < (stand tb tk).length := by rw [stand_len g]; exact hi
    have e := toldT_get wds (stand tb tk) log hs
    rw [stand_len g, h, getD_of (takes_get g hi), getD_of (stand_get g hi)] at e
    have hl : i < (toldT wds (stand tb tk) log).length := by rw [toldT_len]; exact hs
    rw [getD_get hl] at e
    rw [List.getElem?_eq_getElem hl, e, firsts_get g hi]
    have a := g.at_ i hi
    have hl2 : (tk.getD i 0).toNat < (tb.getD i []).length := by omega
    rw [List.take_add_one, atF, getD_get hl2, List.getElem?_eq_getElem hl2]
    rfl
  · rw [List.getElem?_eq_none (by rw [toldT_len, stand_len g]; omega), List.getElem?_eq_none (by rw [firsts_len g]; omega)]
theorem takes_zero {tb : List (List Int)} : toldL wds tb.length [] = takes tb (zerosI tb.length) := by
  show List.replicate tb.length [] = _
  unfold takes zerosI
  refine List.ext_getElem? fun i => ?_
  rw [List.getElem?_zipWith, List.getElem?_replicate, List.getElem?_replicate]
  by_cases hi : i < tb.length
  · rw [if_pos hi, if_pos hi, List.getElem?_eq_getElem hi]
    rfl
  · rw [if_neg hi, if_neg hi, List.getElem?_eq_none (by omega)]
/-- all of a run -/
structure RunEnd (many hues : Int) (wds : List WD) (tb : List (List Int)) (ord : List Int) (R : Res) (tk : List Int) : Prop where
  gk : GoodK tb tk
  st : Steps wds tb ord (zerosI tb.length) [] tk R.2.2
  fs : R.2.1 = stand tb tk
  en : EndsAt wds tb ord tk R.1
  told : toldT wds R.2.1 R.2.2 = firsts tb tk
  cnt : ∀ p, 0 ≤ p → p < (tb.length : Int) → atF tk p = cntP wds R.2.2 p
theorem runEnd_of {many hues : Int} {wds : List WD} {tb : List (List Int)} {ord : List Int} {R : Res} (gr : GoodR many hues wds) (nd : ∀ wd ∈ wds, wd.1.Nodup) (gt : GoodT many hues tb) (go : GoodO wds.length ord) (h : runOf wds tb ord = some R) : ∃ tk, RunEnd many hues wds tb ord R tk := by
  obtain ⟨tk, s, e, en⟩ := runOf_steps h
  have f : Fit many hues wds tb ord := ⟨gr, nd, gt.len, go⟩
  have g0 := zeros_good gt
  have gk := steps_good f s g0
  refine ⟨tk, gk, s, e, en, ?_, steps_cnt f s g0 fun p p0 _ => ?_⟩
  · rw [e]
    exact told_end gk (steps_told f s g0 takes_zero)
  · unfold atF
    rw [zeros_get]
    rfl
theorem firsts_good {many hues : Int} {tb : List (List Int)} {tk : List Int} (gt : GoodT many hues tb) (g : GoodK tb tk) : GoodT many hues (firsts tb tk) := by
  have key : ∀ ds ∈ firsts tb tk, ∃ d ∈ tb, ∃ n, ds = d.take (n + 1) := fun ds h => by
    obtain ⟨i, hi, e⟩ := List.getElem_of_mem h
    rw [firsts_len g] at hi
    have z := firsts_get g hi
    rw [List.getElem?_eq_getElem (by rw [firsts_len g]; exact hi), e] at z
    exact ⟨_, getD_mem hi, _, Option.some.inj z⟩
  refine ⟨by rw [firsts_len g]; exact gt.len, fun ds h => ?_, fun ds h => ?_, fun ds h z hz => ?_⟩
  · obtain ⟨d, hd, n, rfl⟩ := key ds h
    have := gt.one d hd
    rw [List.length_take]
    omega
  · obtain ⟨d, hd, n, rfl⟩ := key ds h
    have := gt.few d hd
    rw [List.length_take]
    omega
  · obtain ⟨d, hd, n, rfl⟩ := key ds h
    exact gt.hue d hd z (List.mem_of_mem_take hz)
theorem firsts_agree {tb : List (List Int)} {tk : List Int} (g : GoodK tb tk) : Agree tb (firsts tb tk) tk := by
  refine ⟨firsts_len g, fun p hp => ?_, fun p hp => ?_⟩
  · rw [getD_of (firsts_get g hp), List.length_take]
    have := g.at_ p hp
    omega
  · rw [getD_of (firsts_get g hp), List.take_take, Nat.min_self]
/-- the run of the draws taken alone -/
theorem run_firsts {many hues : Int} {wds : List WD} {tb : List (List Int)} {ord : List Int} {R : Res} {tk : List Int} (gr : GoodR many hues wds) (nd : ∀ wd ∈ wds, wd.1.Nodup) (gt : GoodT many hues tb) (go : GoodO wds.length ord) (e : RunEnd many hues wds tb ord R tk) : runOf wds (firsts tb tk) ord = some R := by
  have f : Fit many hues wds tb ord := ⟨gr, nd, gt.len, go⟩
  have ag := firsts_agree e.gk
  have s' := steps_agree f e.st (zeros_good gt) ag
  have es : stand (firsts tb tk) tk = stand tb tk := ag.stand e.gk fun _ _ => Int.le_refl _
  have s2 : Steps wds (firsts tb tk) ord (zerosI (firsts tb tk).length) [] tk R.2.2 := by rw [firsts_len e.gk]; exact s'
  have z := runOf_of gr nd (firsts_good gt e.gk) go (b := R.1) s2 ⟨fun b => by rw [es]; exact e.en.kept b, fun b => by
    obtain ⟨k, h1, h2⟩ := e.en.spent b
    refine ⟨k, by rw [es]; exact h1, ?_⟩
    obtain ⟨hk, hb⟩ := first_some h1
    obtain ⟨k0, k1⟩ := go.mem k hk
    obtain ⟨wd, hw, he⟩ := wd_of k0 k1
    have gw := gr.each wd (List.mem_of_getElem? hw)
    obtain ⟨p, hp⟩ := List.exists_mem_of_length_pos (show 0 < wd.1.length from gw.one)
    rw [canN, List.all_eq_false]
    refine ⟨p, by rw [he]; exact hp, ?_⟩
    have pp := gw.pl p hp
    have hl := gt.len
    have hpn : p.toNat < tb.length := by omega
    have a := e.gk.at_ _ hpn
    rw [decide_eq_true_eq, lenAt, getD_of (firsts_get e.gk hpn), List.length_take]
    unfold atF
    omega⟩
  rw [z, es, ← e.fs]
/-- the run of a table that goes on -/
theorem run_longer {many hues : Int} {wds : List WD} {tb tb' : List (List Int)} {ord : List Int} {R R' : Res} {tk : List Int} (gr : GoodR many hues wds) (nd : ∀ wd ∈ wds, wd.1.Nodup) (gt : GoodT many hues tb) (gt' : GoodT many hues tb') (go : GoodO wds.length ord) (e : RunEnd many hues wds tb ord R tk) (hR' : runOf wds tb' ord = some R')
    (pre : ∀ p : Nat, p < tb.length → ∃ more, tb'.getD p [] = tb.getD p [] ++ more) : (R.1 = true → R' = R) ∧ ∃ more, R'.2.2 = R.2.2 ++ more := by
  have f : Fit many hues wds tb ord := ⟨gr, nd, gt.len, go⟩
  have hl := gt.len
  have hl' := gt'.len
  have ag : Agree tb tb' tk := by
    refine ⟨by omega, fun p hp => ?_, fun p hp => ?_⟩
    · obtain ⟨more, hm⟩ := pre p hp
      have a := e.gk.at_ p hp
      rw [hm, List.length_append]
      omega
    · obtain ⟨more, hm⟩ := pre p hp
      have a := e.gk.at_ p hp
      rw [hm, List.take_append_of_le_length (by omega)]
  have s' := steps_agree f e.st (zeros_good gt) ag
  have es : stand tb' tk = stand tb tk := ag.stand e.gk fun _ _ => Int.le_refl _
  rw [← ag.len] at s'
  refine ⟨fun b => ?_, ?_⟩
  · have z := runOf_of gr nd gt' go (b := R.1) s' ⟨fun b => by rw [es]; exact e.en.kept b, fun z => by rw [b] at z; cases z⟩
    rw [hR', es, ← e.fs] at z
    exact Option.some.inj z
  · obtain ⟨c, hc⟩ := steps_goR s'
    have a := goR_more _ _ _ c hR'
    rw [hc] at a
    obtain ⟨tkE, s2, _⟩ := goR_steps _ _ _ a
    exact steps_pre s2
end Dt

set_option Elab.async false
set_option linter.all false
set_option maxRecDepth 100000
set_option maxHeartbeats 4000000
namespace Rd
open PySem PySem.Spec PyProof.Rows L2 Dt
/-- a statement that is never come to -/
theorem ps_never {X : Cx} {st : Stmt} : PS X st (fun _ _ _ => False) := ⟨fun _ _ _ _ _ _ h => h.elim⟩
/-! ### lists within one that are changed -/
theorem paired_mod {H : Hp} {d : Addr} {l' : List Int} : ∀ {das : List Addr} {T : List (List Int)} {p : Nat}, Paired (IsInts H) das T → das.Nodup → das[p]? = some d → Paired (IsInts (upd H d (.lst (l'.map V.int)))) das (T.set p l')
  | _, _, p, .nil, _, h => by simp at h
  | a :: r, l :: q, 0, .cons h t, nd, e => by
    have ea : a = d := Option.some.inj e
    subst ea
    have nd2 := List.nodup_cons.mp nd
    exact .cons (by show upd H a _ a = _; exact upd_same) (paired_upd t fun x hx (z : x = a) => nd2.1 (by rw [← z]; exact hx))
  | a :: r, l :: q, p + 1, .cons h t, nd, e => by
    have nd2 := List.nodup_cons.mp nd
    have hm : d ∈ r := List.mem_of_getElem? (show r[p]? = some d from e)
    exact .cons (by show upd H d _ a = _; rw [upd_ne (fun z : a = d => nd2.1 (by rw [z]; exact hm))]; exact h) (paired_mod t nd2.2 e)
theorem paired_len_upd {H : Hp} {D : Addr} {o : HO} {das : List Addr} {T : List (List Int)} (p : Paired (IsInts H) das T) (n : D ∉ das) : Paired (IsInts (upd H D o)) das T := paired_upd p fun d hd (z : d = D) => n (by rw [← z]; exact hd)
/-- a new list of new lists, no two one -/
structure NewTab (H H' : Hp) (ta : Addr) (das : List Addr) (T : List (List Int)) : Prop where
  ht : H' ta = some (.lst (das.map V.ref))
  nt : H ta = none
  nd : das.Nodup
  new : ∀ d ∈ das, H d = none ∧ d ≠ ta
  pr : Paired (IsInts H') das T
theorem NewTab.tab {H H' : Hp} {ta : Addr} {das : List Addr} {T : List (List Int)} (h : NewTab H H' ta das T) : IsTab (Old H) H' ta T := ⟨das, h.ht, fun z => z h.nt, fun d hd z => z (h.new d hd).1, h.pr⟩
theorem NewTab.app {H H' : Hp} {ta : Addr} {das : List Addr} {T : List (List Int)} {p : Nat} {d : Addr} {l : List Int} {x : Int} (h : NewTab H H' ta das T) (hd : das[p]? = some d) (hl : T[p]? = some l) : NewTab H (upd H' d (.lst ((l ++ [x]).map V.int))) ta das (app1 T p x) := by
  have hm := List.mem_of_getElem? hd
  refine ⟨by rw [upd_ne (h.new d hm).2.symm]; exact h.ht, h.nt, h.nd, h.new, ?_⟩
  unfold app1
  rw [getD_of hl]
  exact paired_mod h.pr h.nd hd
theorem NewTab.mono {H H' H2 : Hp} {ta : Addr} {das : List Addr} {T : List (List Int)} (h : NewTab H H' ta das T) (s : Seqs H' H2) : NewTab H H2 ta das T := ⟨s.2 _ _ h.ht, h.nt, h.nd, h.new, pairedMap (fun _ _ e => s.2 _ _ e) h.pr⟩
/-! ### how long told draws are -/
theorem app1_le (T : List (List Int)) (p q : Nat) (h : Int) : ((app1 T p h).getD q []).length ≤ (T.getD q []).length + 1 := by
  rw [app1_get]
  split
  · rename_i e
    rw [e.1, List.length_append]
    exact Nat.le_refl _
  · omega
theorem appA_le : ∀ (ps row : List Int) (T : List (List Int)) (q : Nat), ((appA T ps row).getD q []).length ≤ (T.getD q []).length + ps.length
  | [], _, _, _ => Nat.le_refl _
  | _ :: _, [], _, _ => Nat.le_add_right _ _
  | p :: r, h :: s, T, q => by
    have a := appA_le r s (app1 T p.toNat h) q
    have b := app1_le T p.toNat q h
    show ((appA (app1 T p.toNat h) r s).getD q []).length ≤ _
    rw [List.length_cons]
    omega
theorem appA_snoc (T : List (List Int)) : ∀ {ps row : List Int} {j : Nat} {p h : Int}, ps[j]? = some p → row[j]? = some h → appA T (ps.take (j + 1)) (row.take (j + 1)) = app1 (appA T (ps.take j) (row.take j)) p.toNat h := by
  intro ps row j p h hp hh
  unfold appA
  have e : (ps.take (j + 1)).zip (row.take (j + 1)) = (ps.take j).zip (row.take j) ++ [(p, h)] := by
    rw [take_snoc hp, take_snoc hh]
    rw [List.zip_append]
    · rfl
    · rw [List.length_take, List.length_take]
      have a := (List.getElem?_eq_some_iff.mp hp).1
      have b := (List.getElem?_eq_some_iff.mp hh).1
      omega
  rw [e, List.foldl_append]
  rfl
theorem toldL_le {wds : List WD} (h3 : ∀ wd ∈ wds, wd.1.length ≤ 3) (n q : Nat) : ∀ log : Log, ((toldL wds n log).getD q []).length ≤ 3 * log.length := by
  have pl3 : ∀ k : Int, (plc wds k).length ≤ 3 := fun k => by
    unfold plc
    rw [List.getD_eq_getElem?_getD]
    cases e : wds[k.toNat]? with
    | none => simp
    | some wd => exact h3 wd (List.mem_of_getElem? e)
  have key : ∀ (log : Log) (T : List (List Int)), ((log.foldl (fun t e => appA t (plc wds e.1) e.2) T).getD q []).length ≤ (T.getD q []).length + 3 * log.length := by
    intro log
    induction log with
    | nil => intro T; exact Nat.le_refl _
    | cons e r ih =>
      intro T
      rw [List.foldl_cons, List.length_cons]
      have a := ih (appA T (plc wds e.1) e.2)
      have b := appA_le (plc wds e.1) e.2 T q
      have c := pl3 e.1
      omega
  intro log
  have a := key log (List.replicate n [])
  have b : ((List.replicate n ([] : List Int)).getD q []).length = 0 := by
    rw [List.getD_eq_getElem?_getD, List.getElem?_replicate]
    split <;> rfl
  unfold toldL
  omega
/-! ### logs looked at -/
def entB (wds : List WD) (x : Int × List Int) : Bool := decide (0 ≤ x.1 ∧ x.1 < (wds.length : Int) ∧ x.2 ∈ (wds.getD x.1.toNat ([], [])).2)
def logB (wds : List WD) (log : Log) : Bool := log.all (entB wds)
theorem logB_ok {wds : List WD} {log : Log} (h : logB wds log = true) : LogOk wds log := fun e he => by
  obtain ⟨h0, h1, h2⟩ := of_decide_eq_true (List.all_eq_true.mp h e he)
  have hk : e.1.toNat < wds.length := by omega
  rw [getD_get hk] at h2
  exact ⟨h0, h1, _, List.getElem?_eq_getElem hk, h2⟩
theorem logB_of {wds : List WD} {log : Log} (h : LogOk wds log) : logB wds log = true := List.all_eq_true.mpr fun e he => by
  obtain ⟨h0, h1, wd, hw, hr⟩ := h e he
  exact decide_eq_true ⟨h0, h1, by rw [getD_of hw]; exact hr⟩
theorem shaped_row (r : Dt.Row) : SeqAt.shaped (rowD r) = true := by
  have a : ∀ l : List Int, PyData.canLayAll0 (l.map .int) = true := Gv.canAll_ints
  have b : ∀ l : List Int, PyData.depthAll (l.map .int) ≤ 1 := fun l => by
    induction l with
    | nil => simp [PyData.depthAll]
    | cons x q ih => simp only [List.map_cons, PyData.depthAll, PyData.depth]; omega
  show ((rowD r).canLay0 && decide ((rowD r).depth ≤ 64)) = true
  have d : (rowD r).depth ≤ 64 := by
    unfold rowD
    simp only [PyData.depth]
    have := b r
    omega
  have c : (rowD r).canLay0 = true := by
    unfold rowD
    simp only [PyData.canLay0]
    exact a r
  rw [c, decide_eq_true d]
  rfl
theorem row_hue {many hues : Int} {wds : List WD} (gr : GoodR many hues wds) {log : Log} (h : LogOk wds log) : ∀ e ∈ log, ∀ z ∈ e.2, 0 ≤ z ∧ z < hues := fun e he z hz => by
  obtain ⟨_, _, wd, hw, hr⟩ := h e he
  exact ((gr.each wd (List.mem_of_getElem? hw)).row _ hr).2 z hz
theorem app1_all {Pz : Int → Prop} {T : List (List Int)} {p : Nat} {x : Int} (h : ∀ l ∈ T, ∀ z ∈ l, Pz z) (hx : Pz x) : ∀ l ∈ app1 T p x, ∀ z ∈ l, Pz z := fun l hl z hz => by
  rcases List.mem_or_eq_of_mem_set hl with e | e
  · exact h l e z hz
  · rw [e] at hz
    rcases List.mem_append.mp hz with q | q
    · by_cases hp : p < T.length
      · exact h _ (getD_mem (d := []) hp) z q
      · rw [List.getD_eq_getElem?_getD, List.getElem?_eq_none (by omega)] at q
        cases q
    · rw [List.mem_singleton.mp q]; exact hx
theorem appA_all {Pz : Int → Prop} : ∀ (ps row : List Int) (T : List (List Int)), (∀ l ∈ T, ∀ z ∈ l, Pz z) → (∀ z ∈ row, Pz z) → ∀ l ∈ appA T ps row, ∀ z ∈ l, Pz z
  | [], _, _, h, _ => h
  | _ :: _, [], _, h, _ => h
  | p :: r, x :: s, T, h, hr => appA_all r s (app1 T p.toNat x) (app1_all h (hr x List.mem_cons_self)) fun z hz => hr z (List.mem_cons_of_mem _ hz)
theorem toldL_all {Pz : Int → Prop} (wds : List WD) (n : Nat) : ∀ log : Log, (∀ e ∈ log, ∀ z ∈ e.2, Pz z) → ∀ l ∈ toldL wds n log, ∀ z ∈ l, Pz z := by
  have key : ∀ (log : Log) (T : List (List Int)), (∀ l ∈ T, ∀ z ∈ l, Pz z) → (∀ e ∈ log, ∀ z ∈ e.2, Pz z) → ∀ l ∈ log.foldl (fun t e => appA t (plc wds e.1) e.2) T, ∀ z ∈ l, Pz z := by
    intro log
    induction log with
    | nil => intro T h _; exact h
    | cons e r ih =>
      intro T h hl
      rw [List.foldl_cons]
      exact ih _ (appA_all _ _ _ h (hl e List.mem_cons_self)) fun x hx => hl x (List.mem_cons_of_mem _ hx)
  intro log h
  refine key log _ (fun l hl z hz => ?_) h
  rw [(List.mem_replicate.mp hl).2] at hz
  cases hz
theorem told_good {many hues : Int} {wds : List WD} (gr : GoodR many hues wds) {fs : List Int} {log : Log} (gf : GoodF many hues fs) (h : LogOk wds log) (few : ∀ ds ∈ toldT wds fs log, ds.length ≤ 1000) : GoodT many hues (toldT wds fs log) := by
  have each : ∀ ds ∈ toldT wds fs log, ∃ q, q < fs.length ∧ ds = (toldL wds fs.length log).getD q [] ++ [fs.getD q 0] := fun ds hd => by
    obtain ⟨i, hi, e⟩ := List.getElem_of_mem hd
    rw [toldT_len] at hi
    refine ⟨i, hi, ?_⟩
    rw [← toldT_get wds fs log hi, getD_get (by rw [toldT_len]; exact hi), e]
  refine ⟨by rw [toldT_len]; exact gf.len, fun ds hd => ?_, few, fun ds hd z hz => ?_⟩
  · obtain ⟨q, _, e⟩ := each ds hd
    rw [e, List.length_append]
    exact Nat.le_add_left _ _
  · obtain ⟨q, hq, e⟩ := each ds hd
    rw [e] at hz
    rcases List.mem_append.mp hz with y | y
    · have hq2 : q < (toldL wds fs.length log).length := by rw [toldL_len]; exact hq
      exact toldL_all (Pz := fun z => 0 ≤ z ∧ z < hues) wds _ log (row_hue gr h) _ (getD_mem hq2) z y
    · rw [List.mem_singleton.mp y]
      exact gf.hue _ (Dt.getD_mem hq)
/-! ### equality of what is told -/
theorem eqv_ent (x y : Int × List Int) : PyData.eqv (entD x) (entD y) = decide (x = y) := by
  obtain ⟨a, r⟩ := x
  obtain ⟨b, s⟩ := y
  unfold entD
  have e := eqv_row r s
  simp only [PyData.eqv, PyData.eqvAll, e, Bool.and_true]
  by_cases h : a = b
  · subst h
    by_cases h2 : r = s
    · subst h2; simp
    · simp [h2]
  · simp [h]
theorem eqvAll_ents : ∀ a b : Log, PyData.eqvAll (a.map entD) (b.map entD) = decide (a = b)
  | [], [] => by simp [PyData.eqvAll]
  | [], _ :: _ => by simp [PyData.eqvAll]
  | _ :: _, [] => by simp [PyData.eqvAll]
  | x :: r, y :: q => by
    simp only [List.map_cons, PyData.eqvAll, eqv_ent, eqvAll_ents r q]
    by_cases h : x = y
    · subst h; simp
    · simp [h]
theorem eqv_log (a b : Log) : PyData.eqv (logD a) (logD b) = decide (a = b) := by
  unfold logD
  rw [PyData.eqv]
  exact eqvAll_ents a b
theorem eqv_endS (a b : Bool) : PyData.eqv (.str (endS a)) (.str (endS b)) = decide (a = b) := by
  cases a <;> cases b <;> decide +kernel
theorem eqv_res (R S : Res) : PyData.eqv (resD R) (resD S) = decide (R = S) := by
  obtain ⟨a, f, l⟩ := R
  obtain ⟨b, g, m⟩ := S
  unfold resD
  have e1 := eqv_endS a b
  have e2 := eqv_row f g
  have e3 := eqv_log l m
  rw [PyData.eqv]
  simp only [PyData.eqvAll, e1, e2, e3, Bool.and_true]
  by_cases h1 : a = b
  · by_cases h2 : f = g
    · by_cases h3 : l = m
      · subst h1; subst h2; subst h3; simp
      · simp [h3]
    · simp [h2]
  · simp [h1]
def isRunB (wds : List WD) (ord : List Int) (b : Bool) (fs : List Int) (log : Log) : Bool := logB wds log && decide (runOf wds (toldT wds fs log) ord = some (b, fs, log))
/-! ### frames but for the tape and some tables -/
structure FrT (tp : Addr) (Ps : List Addr) (H H' : Hp) : Prop where
  keep : ∀ b o, b ≠ tp → b ∉ Ps → H b = some o → H' b = some o
  tape : Tape H' tp
  tabs : Tabs Ps H'
theorem FrT.frs {tp : Addr} {Ps : List Addr} {H H' : Hp} (t : Tape H tp) (tt : Tabs Ps H) (f : FrS Ps H H') : FrT tp Ps H H' := ⟨fun b o _ n e => f.1 b o n e, t.seqs (f.seqs tt), f.2⟩
theorem FrT.taped {tp : Addr} {Ps : List Addr} {H H' : Hp} (t : Tape H tp) (tt : Tabs Ps H) (f : Taped tp H H') : FrT tp Ps H H' := ⟨fun b o n _ e => f.1 b o n e, f.2, f.tabs t tt⟩
theorem FrT.trans {tp : Addr} {Ps : List Addr} {H H1 H2 : Hp} (a : FrT tp Ps H H1) (b : FrT tp Ps H1 H2) : FrT tp Ps H H2 := ⟨fun x o n m e => b.keep x o n m (a.keep x o n m e), b.tape, b.tabs⟩
theorem FrT.refl {tp : Addr} {Ps : List Addr} {H : Hp} (t : Tape H tp) (tt : Tabs Ps H) : FrT tp Ps H H := ⟨fun _ _ _ _ e => e, t, tt⟩
theorem FrT.same {tp : Addr} {Ps : List Addr} {H H1 H2 : Hp} (a : FrT tp Ps H H1) (s : Same H1 H2) : FrT tp Ps H H2 := ⟨fun x o n m e => s _ _ (a.keep x o n m e), a.tape.same s, a.tabs.same s⟩
theorem FrT.put {tp : Addr} {Ps : List Addr} {H H1 : Hp} {b : Addr} {o : HO} (a : FrT tp Ps H H1) (n : H b = none) (nt : b ≠ tp) (np : b ∉ Ps) : FrT tp Ps H (upd H1 b o) := ⟨fun x u m k e => by rw [upd_ne (ne_of_none e n)]; exact a.keep x u m k e, a.tape.put nt, a.tabs.put np⟩
theorem FrT.tups {tp : Addr} {Ps : List Addr} {H H' : Hp} (t : Tape H tp) (tt : Tabs Ps H) (f : FrT tp Ps H H') : Tups H H' := ⟨fun b xs e => f.keep b _ (fun z => by
  obtain ⟨_, _, h1, _⟩ := t
  rw [z, h1] at e
  cases e) (tt.tup e) e, fun b o xs e => f.keep b _ (fun z => by
  obtain ⟨_, _, h1, _⟩ := t
  rw [z, h1] at e
  cases e) (tt.frz e) e⟩
theorem FrT.lst {tp : Addr} {Ps : List Addr} {H H' : Hp} (tt : Tabs Ps H) (f : FrT tp Ps H H') {b : Addr} {xs : List V} (n : b ≠ tp) (e : H b = some (.lst xs)) : H' b = some (.lst xs) := f.keep b _ n (tt.lst e) e
theorem FrT.free {tp : Addr} {Ps : List Addr} {H H' : Hp} {b : Addr} (f : FrT tp Ps H H') (h : H' b = none) : H b = none := by
  cases e : H b with
  | none => rfl
  | some o =>
    have h1 := f.tape.new h
    have h2 := f.tabs.new h
    rw [f.keep b o h1 h2 e] at h
    cases h
theorem LI.frt {K : PySem.W.Frag} {a : Addr} {xs : List V} {Ps : List Addr} {tp : Addr} {H H' : Hp} (h : LI K a xs Ps tp H) (f : FrT tp Ps H H') : LI K a xs Ps tp H' := by
  refine ⟨f.tape, f.tabs, ?_, h.far⟩
  by_cases e : a = tp
  · exact h.far e H'
  · rcases h.scr with (z | ⟨o, z⟩) | z
    · exact .inl (.inl (f.lst h.tabs e z))
    · exact .inl (.inr ⟨o, f.keep a _ e (fun y => by obtain ⟨ps, q, _⟩ := h.tabs a y; rw [z] at q; cases q) z⟩)
    · exact .inr z
theorem IsTab.frt {tp : Addr} {Ps : List Addr} {H H' : Hp} {ta : Addr} {tb : List (List Int)} (h : IsTab (· = tp) H ta tb) (tt : Tabs Ps H) (f : FrT tp Ps H H') : IsTab (· = tp) H' ta tb := h.mono fun b xs n e => f.lst tt n e
/-- a list of the items of two lists -/
theorem lc_zipL {K : PySem.W.Frag} {a b : Addr} {xs ys : List V} {g : TG} {tt : TT} {te : TE} {vs : List Nat} {σ : L2.St} {H1 : Hp} {D : Addr} {Qd : Hp → Prop} (hl : xs.length = ys.length) (Pv : Nat → Hp → Prop) (h0 : Pv 0 (upd H1 D (.lst []))) (hq : ∀ i H, Pv i H → SqL K H a xs ∧ SqL K H b ys)
    (hs : ∀ i x y T H, xs[i]? = some x → ys[i]? = some y → Pv i H → H T = none → g (.ref T) (wipe σ vs) (upd H T (.tup [x, y])) fun σ2 H2 => wipe σ2 vs = wipe σ vs ∧ tt σ2 H2 fun b H3 =>
      if b = true then te σ2 H3 fun y H4 => ∃ acc, H4 D = some (.lst acc) ∧ acc.length < sizeLine ∧ Pv (i + 1) (upd H4 D (.lst (acc ++ [y]))) else Pv (i + 1) H3) (hd : ∀ H, Pv xs.length H → Qd H) :
    ∃ W : Nat → Nat → Hp → Prop, (∃ m, W 0 m (upd H1 D (.lst []))) ∧ ∀ i m H, W i m H →
      ((Itz K a b).stop i H ∧ Qd H) ∨ ((Itz K a b).go i H ∧ ∃ Nx : Hp → Prop, (∀ H', Nx H' → ∃ m', m' < m ∧ W (i + 1) m' H') ∧ ∀ x H', (Itz K a b).yld i H x H' → g x (wipe σ vs) H' fun σ2 H2 => wipe σ2 vs = wipe σ vs ∧ tt σ2 H2 fun b H3 =>
        if b = true then te σ2 H3 fun y H4 => ∃ acc, H4 D = some (.lst acc) ∧ acc.length < sizeLine ∧ Nx (upd H4 D (.lst (acc ++ [y]))) else Nx H3) := by
  refine ⟨fun i m H => m = xs.length - i ∧ i ≤ xs.length ∧ Pv i H, ⟨xs.length, by simp, Nat.zero_le _, h0⟩, ?_⟩
  rintro i m H ⟨rfl, hi, p⟩
  obtain ⟨qx, qy⟩ := hq i H p
  by_cases hlt : i < xs.length
  · have hx : xs[i]? = some xs[i] := List.getElem?_eq_getElem hlt
    have hlt2 : i < ys.length := by omega
    have hy : ys[i]? = some ys[i] := List.getElem?_eq_getElem hlt2
    refine .inr ⟨⟨xs, ys, _, _, qx, qy, hx, hy⟩, Pv (i + 1), fun H' p' => ⟨xs.length - (i + 1), by omega, rfl, hlt, p'⟩, fun v H' y => ?_⟩
    obtain ⟨T, x', y', rfl, hT, rfl, f1, f2⟩ := y
    exact hs i x' y' T H (f1 xs qx) (f2 ys qy) p hT
  · have e : i = xs.length := by omega
    subst e
    exact .inl ⟨⟨xs, ys, qx, qy, Or.inl (Nat.le_refl _)⟩, hd H p⟩
theorem pairedTake {α β : Type} {F : α → β → Prop} : ∀ {l : List α} {m : List β} (n : Nat), Paired F l m → Paired F (l.take n) (m.take n)
  | _, _, 0, _ => by rw [List.take_zero, List.take_zero]; exact .nil
  | _, _, _ + 1, .nil => .nil
  | _, _, n + 1, .cons h t => .cons h (pairedTake n t)
theorem pairedDrop {α β : Type} {F : α → β → Prop} : ∀ {l : List α} {m : List β} (n : Nat), Paired F l m → Paired F (l.drop n) (m.drop n)
  | _, _, 0, h => h
  | _, _, _ + 1, .nil => .nil
  | _, _, n + 1, .cons _ t => pairedDrop n t
end Rd

set_option Elab.async false
set_option linter.all false
set_option maxRecDepth 100000
set_option maxHeartbeats 4000000
/-! draws told back from the last step on -/
namespace Dt
open PySem PySem.Spec PyProof.Rows L2
def pre1 (tb : List (List Int)) (p : Nat) (h : Int) : List (List Int) := tb.set p (h :: tb.getD p [])
def preA (tb : List (List Int)) (ps row : List Int) : List (List Int) := (ps.zip row).foldl (fun t x => pre1 t x.1.toNat x.2) tb
def preL (wds : List WD) (tb : List (List Int)) (log : Log) : List (List Int) := log.foldr (fun e t => preA t (plc wds e.1) e.2) tb
def hAt (ps row : List Int) (q : Nat) : List Int := ((ps.zip row).filter fun x => decide (x.1.toNat = q)).map (·.2)
theorem pre1_len (tb : List (List Int)) (p : Nat) (h : Int) : (pre1 tb p h).length = tb.length := by simp [pre1]
theorem pre1_get (tb : List (List Int)) (p i : Nat) (h : Int) : (pre1 tb p h).getD i [] = if i = p ∧ p < tb.length then h :: tb.getD p [] else tb.getD i [] := by
  unfold pre1
  rw [List.getD_eq_getElem?_getD, List.getElem?_set]
  by_cases e : p = i
  · subst e
    by_cases h2 : p < tb.length
    · rw [if_pos rfl, if_pos h2, if_pos ⟨rfl, h2⟩]; rfl
    · rw [if_pos rfl, if_neg h2, if_neg (fun z => h2 z.2), List.getD_eq_getElem?_getD, List.getElem?_eq_none (by omega)]
  · rw [if_neg e, if_neg (fun z => e z.1.symm), List.getD_eq_getElem?_getD]
theorem preA_len : ∀ (ps row : List Int) (tb : List (List Int)), (preA tb ps row).length = tb.length
  | [], _, _ => rfl
  | _ :: _, [], _ => rfl
  | p :: r, h :: q, tb => by
    show (preA (pre1 tb p.toNat h) r q).length = _
    rw [preA_len r q, pre1_len]
theorem hAt_cons (p h : Int) (r s : List Int) (q : Nat) : hAt (p :: r) (h :: s) q = (if p.toNat = q then [h] else []) ++ hAt r s q := by
  unfold hAt
  rw [List.zip_cons_cons, List.filter_cons]
  by_cases e : p.toNat = q
  · simp [e]
  · simp [e]
theorem appA_at : ∀ (ps row : List Int) (tb : List (List Int)) (q : Nat), q < tb.length → (appA tb ps row).getD q [] = tb.getD q [] ++ hAt ps row q
  | [], _, _, _, _ => by simp [appA, hAt]
  | _ :: _, [], _, _, _ => by simp [appA, hAt]
  | p :: r, h :: s, tb, q, hq => by
    show (appA (app1 tb p.toNat h) r s).getD q [] = _
    rw [appA_at r s _ q (by rw [app1_len]; exact hq), app1_get, hAt_cons]
    by_cases e : q = p.toNat
    · subst e
      rw [if_pos ⟨rfl, hq⟩, if_pos rfl, List.append_assoc]
    · rw [if_neg (fun z => e z.1), if_neg (fun z => e z.symm), List.nil_append]
theorem preA_at : ∀ (ps row : List Int) (tb : List (List Int)) (q : Nat), q < tb.length → (preA tb ps row).getD q [] = (hAt ps row q).reverse ++ tb.getD q []
  | [], _, _, _, _ => by simp [preA, hAt]
  | _ :: _, [], _, _, _ => by simp [preA, hAt]
  | p :: r, h :: s, tb, q, hq => by
    show (preA (pre1 tb p.toNat h) r s).getD q [] = _
    rw [preA_at r s _ q (by rw [pre1_len]; exact hq), pre1_get, hAt_cons]
    by_cases e : q = p.toNat
    · subst e
      rw [if_pos ⟨rfl, hq⟩, if_pos rfl, List.reverse_append]
      simp
    · rw [if_neg (fun z => e z.1), if_neg (fun z => e z.symm), List.nil_append]
theorem hAt_none : ∀ (ps row : List Int) (q : Nat), (∀ p ∈ ps, p.toNat ≠ q) → hAt ps row q = []
  | [], _, _, _ => by simp [hAt]
  | _ :: _, [], _, _ => by simp [hAt]
  | p :: r, h :: s, q, hp => by
    rw [hAt_cons, if_neg (hp p List.mem_cons_self), List.nil_append, hAt_none r s q fun x hx => hp x (List.mem_cons_of_mem _ hx)]
theorem hAt_rev : ∀ (ps row : List Int) (q : Nat), ps.Nodup → (∀ p ∈ ps, 0 ≤ p) → (hAt ps row q).reverse = hAt ps row q
  | [], _, _, _, _ => by simp [hAt]
  | _ :: _, [], _, _, _ => by simp [hAt]
  | p :: r, h :: s, q, nd, h0 => by
    have nd2 := List.nodup_cons.mp nd
    rw [hAt_cons]
    by_cases e : p.toNat = q
    · have z : hAt r s q = [] := hAt_none r s q fun x hx y => nd2.1 (by
        have a := h0 p List.mem_cons_self
        have b := h0 x (List.mem_cons_of_mem _ hx)
        have : x = p := by omega
        rw [← this]; exact hx)
      rw [if_pos e, z]
      rfl
    · rw [if_neg e, List.nil_append]
      exact hAt_rev r s q nd2.2 fun x hx => h0 x (List.mem_cons_of_mem _ hx)
theorem toldL_at (wds : List WD) (n q : Nat) (hq : q < n) : ∀ log : Log, (toldL wds n log).getD q [] = log.flatMap fun e => hAt (plc wds e.1) e.2 q := by
  have key : ∀ (log : Log) (tb : List (List Int)), q < tb.length → (log.foldl (fun t e => appA t (plc wds e.1) e.2) tb).getD q [] = tb.getD q [] ++ log.flatMap fun e => hAt (plc wds e.1) e.2 q := by
    intro log
    induction log with
    | nil => intro tb _; simp
    | cons e r ih =>
      intro tb ht
      rw [List.foldl_cons, ih _ (by rw [appA_len]; exact ht), appA_at _ _ _ _ ht, List.flatMap_cons, List.append_assoc]
  intro log
  have z := key log (List.replicate n []) (by rw [List.length_replicate]; exact hq)
  have e : (List.replicate n ([] : List Int)).getD q [] = [] := by
    rw [List.getD_eq_getElem?_getD, List.getElem?_replicate, if_pos hq]
    rfl
  rw [e, List.nil_append] at z
  exact z
theorem preL_len (wds : List WD) (tb : List (List Int)) : ∀ log : Log, (preL wds tb log).length = tb.length
  | [] => rfl
  | e :: r => by
    show (preA (preL wds tb r) _ _).length = _
    rw [preA_len, preL_len wds tb r]
theorem preL_at (wds : List WD) (tb : List (List Int)) (q : Nat) (hq : q < tb.length) : ∀ log : Log, (∀ e ∈ log, (plc wds e.1).Nodup ∧ ∀ p ∈ plc wds e.1, 0 ≤ p) → (preL wds tb log).getD q [] = (log.flatMap fun e => hAt (plc wds e.1) e.2 q) ++ tb.getD q []
  | [], _ => by simp [preL]
  | e :: r, h => by
    have he := h e List.mem_cons_self
    show (preA (preL wds tb r) (plc wds e.1) e.2).getD q [] = _
    rw [preA_at _ _ _ _ (by rw [preL_len]; exact hq), hAt_rev _ _ _ he.1 he.2, preL_at wds tb q hq r fun x hx => h x (List.mem_cons_of_mem _ hx), List.flatMap_cons, List.append_assoc]
theorem pre_told (wds : List WD) (fs : List Int) (log : Log) (h : ∀ e ∈ log, (plc wds e.1).Nodup ∧ ∀ p ∈ plc wds e.1, 0 ≤ p) : preL wds (fs.map fun z => [z]) log = toldT wds fs log := by
  refine List.ext_getElem? fun i => ?_
  have l1 : (preL wds (fs.map fun z => [z]) log).length = fs.length := by rw [preL_len, List.length_map]
  have l2 := toldT_len wds fs log
  by_cases hi : i < fs.length
  · have e1 := preL_at wds (fs.map fun z => [z]) i (by rw [List.length_map]; exact hi) log h
    have e2 := toldT_get wds fs log hi
    rw [toldL_at wds _ i hi] at e2
    have e3 : (fs.map fun z => [z]).getD i [] = [fs.getD i 0] := by
      rw [List.getD_eq_getElem?_getD, List.getElem?_map, List.getElem?_eq_getElem hi, getD_get hi]
      rfl
    rw [e3] at e1
    rw [getD_get (by omega)] at e1
    rw [getD_get (by omega)] at e2
    rw [List.getElem?_eq_getElem (by omega), List.getElem?_eq_getElem (by omega), e1, e2]
  · rw [List.getElem?_eq_none (by omega), List.getElem?_eq_none (by omega)]
theorem preA_snoc (T : List (List Int)) : ∀ {ps row : List Int} {j : Nat} {p h : Int}, ps[j]? = some p → row[j]? = some h → preA T (ps.take (j + 1)) (row.take (j + 1)) = pre1 (preA T (ps.take j) (row.take j)) p.toNat h := by
  intro ps row j p h hp hh
  unfold preA
  have e : (ps.take (j + 1)).zip (row.take (j + 1)) = (ps.take j).zip (row.take j) ++ [(p, h)] := by
    rw [List.take_add_one, hp, List.take_add_one, hh]
    rw [List.zip_append]
    · rfl
    · rw [List.length_take, List.length_take]
      have a := (List.getElem?_eq_some_iff.mp hp).1
      have b := (List.getElem?_eq_some_iff.mp hh).1
      omega
  rw [e, List.foldl_append]
  rfl
theorem preA_le : ∀ (ps row : List Int) (T : List (List Int)) (q : Nat), ((preA T ps row).getD q []).length ≤ (T.getD q []).length + ps.length
  | [], _, _, _ => Nat.le_refl _
  | _ :: _, [], _, _ => Nat.le_add_right _ _
  | p :: r, h :: s, T, q => by
    have a := preA_le r s (pre1 T p.toNat h) q
    have b : ((pre1 T p.toNat h).getD q []).length ≤ (T.getD q []).length + 1 := by
      rw [pre1_get]
      split
      · rename_i e
        rw [e.1, List.length_cons]
        exact Nat.le_refl _
      · omega
    show ((preA (pre1 T p.toNat h) r s).getD q []).length ≤ _
    rw [List.length_cons]
    omega
theorem preL_le {wds : List WD} (h3 : ∀ k, (plc wds k).length ≤ 3) (T : List (List Int)) (q : Nat) : ∀ log : Log, ((preL wds T log).getD q []).length ≤ (T.getD q []).length + 3 * log.length
  | [] => Nat.le_refl _
  | e :: r => by
    have a := preL_le h3 T q r
    have b := preA_le (plc wds e.1) e.2 (preL wds T r) q
    have c := h3 e.1
    show ((preA (preL wds T r) (plc wds e.1) e.2).getD q []).length ≤ _
    rw [List.length_cons]
    omega
end Dt

set_option Elab.async false
set_option linter.all false
set_option maxRecDepth 100000
set_option maxHeartbeats 4000000
/-! a tuple times an int from 1 on -/
namespace L2
open PySem PySem.Spec PyProof.Rows
theorem tuple_mul1 (l : Addr) (items : Array Value) (n : Nat) (sl : Array (Option Value)) (dd : Option Addr) (u : Tok) :
    Meets (Builtin.«tuple.__mul__» ⟨[.ref l, .int 1 u], []⟩) (fun _ R s => s.heap.get? l = some { cls := .type "tuple", dict := dd, data := .seq items n, slots := sl } ∧ R (.ok (.ret (Value.ref l))) s) :=
  .of_wp fun prog w A R s h => by
    obtain ⟨hp, g, d, tk, os⟩ := s
    obtain ⟨hl, h⟩ := h
    have f1 := AutoSeq1.idx_int
    have c1 : (items.isEmpty || (1 : Int) == 1) = true := by simp
    wp_walk using wpAny_loadPart' hl
    repeat (first
      | (refine wpAny_ite_false (decide_eq_false (by decide)) ?_; wp_walk using wpAny_loadPart' hl)
      | (refine wpAny_ite_true (decide_eq_true (by rw [c1])) ?_; wp_walk using wpAny_loadPart' hl))
    exact ⟨_, rfl, h⟩
def rRep1 (K : PySem.W.Frag) : R2 := fun x y H Q => ∃ l xs, x = .ref l ∧ y = .int 1 ∧ SqT K H l xs ∧ Q (.ref l) H
theorem op_rep1 {X : Cx} : OpR X (binaryOp .Mult) (rRep1 X.K) := by
  intro pins s σ H x y v u Q I rx ry h
  obtain ⟨l, xs, rfl, rfl, hT, q⟩ := h
  cases rx
  obtain ⟨t, rfl⟩ := ry
  obtain ⟨its, r, ⟨⟨cls, dd, data, sl⟩, ho, hc, n, hd⟩, hs⟩ := I.tuple hT
  simp only at hc hd
  subst hc hd
  refine wpAny_binaryOp_repeat_ref (T := "tuple") (U := "int") (by decide) ⟨_, ho, rfl⟩ (fun s' => typeIs_int s' 1 t) noFill_tuple_mul F.fills_int_mul F.slot_int_rmul repeat_tuple F.slot_int_index.lookup
    (call_meets F.slot_int_rmul (typeIs_int s 1 t) F.entry_int_rmul (F.args_int_rmul_2 _ _) (int_rmul_tuple 1 t l its.toArray n dd sl)
      ⟨ho, rfl, ⟨_, ho, rfl⟩, call_meets F.slot_tuple_mul ⟨_, ho, rfl⟩ F.entry_tuple_mul (F.args_tuple_mul_2 _ _) (tuple_mul1 l its.toArray n sl dd t) ⟨ho, ?_⟩⟩)
  exact ⟨.ref l, H, I, rfl, q⟩
def rRepU (K : PySem.W.Frag) : R2 := fun x y H Q => rRepT K x y H Q ∨ rRep1 K x y H Q
theorem op_repU {X : Cx} : OpR X (binaryOp .Mult) (rRepU X.K) := OpR.or op_repT op_rep1
end L2

set_option Elab.async false
set_option linter.all false
set_option maxRecDepth 100000
set_option maxHeartbeats 4000000
/-! what an expression comes to, while the tape is drawn from -/
namespace Rd
open PySem PySem.Spec PyProof.Rows L2 Dt
def Tr (tp : Addr) (te : TE) (σ : L2.St) (H : Hp) (Φ : V → Hp → Prop) : Prop := ∀ Q : VK, (∀ v H', Taped tp H H' → Φ v H' → Q v H') → te σ H Q
def TrO (tp : Addr) (t : TO) (σ : L2.St) (H : Hp) : Prop := ∀ Q : Option Int → Hp → Prop, (∀ o H', Taped tp H H' → Q o H') → t σ H Q
/-- what stays while the tape is drawn from -/
def Stays (tp : Addr) (Φ : V → Hp → Prop) : Prop := ∀ v H H', Tape H tp → Taped tp H H' → Φ v H → Φ v H'
theorem tr_var {tp : Addr} {i : Nat} {σ : L2.St} {H : Hp} {Φ : V → Hp → Prop} {v : V} (t : Tape H tp) (h : σ[i]? = some (some v)) (p : Φ v H) : Tr tp (tVar i) σ H Φ := fun Q k => ⟨v, h, k v H (Taped.refl t) p⟩
theorem tr_c {tp : Addr} {v : V} {σ : L2.St} {H : Hp} {Φ : V → Hp → Prop} (t : Tape H tp) (p : Φ v H) : Tr tp (tC v) σ H Φ := fun Q k => k v H (Taped.refl t) p
theorem tr_mono {tp : Addr} {te : TE} {σ : L2.St} {H : Hp} {Φ Ψ : V → Hp → Prop} (h : Tr tp te σ H Φ) (k : ∀ v H', Taped tp H H' → Φ v H' → Ψ v H') : Tr tp te σ H Ψ := fun Q q => h Q fun v H' d p => q v H' d (k v H' d p)
theorem seq_tr {tp : Addr} {te : TE} {i : Nat} {u : TS} {D : Ends} {σ : L2.St} {H : Hp} {Φ : V → Hp → Prop} (h : Tr tp te σ H Φ) (k : ∀ v H', Taped tp H H' → Φ v H' → u D (σ.set i (some v)) H') : tSeq (tAsg te (gName i)) u D σ H := h _ k
theorem seq_trg {tp : Addr} {te : TE} {g : TG} {u : TS} {D : Ends} {σ : L2.St} {H : Hp} {Φ : V → Hp → Prop} (h : Tr tp te σ H Φ) (k : ∀ v H', Taped tp H H' → Φ v H' → g v σ H' (u D)) : tSeq (tAsg te g) u D σ H := h _ k
theorem ret_tr {tp : Addr} {te : TE} {D : Ends} {σ : L2.St} {H : Hp} {Φ : V → Hp → Prop} (h : Tr tp te σ H Φ) (k : ∀ v H', Taped tp H H' → Φ v H' → D.rt v H') : tRet te D σ H := h _ k
/-! ### ints -/
def isI : V → Hp → Prop := fun v _ => ∃ i, v = .int i
theorem tr_add {tp : Addr} {ta tb : TE} {σ : L2.St} {H : Hp} (a : Tr tp ta σ H isI) (b : ∀ H1, Taped tp H H1 → Tr tp tb σ H1 isI) : Tr tp (tOp (rI0 fun i j => .int (i + j)) ta tb) σ H isI := fun Q k => a _ fun x H1 d1 ⟨i, e1⟩ => b H1 d1 _ fun y H2 d2 ⟨j, e2⟩ => ⟨i, j, e1, e2, k _ _ (d1.trans d2) ⟨_, rfl⟩⟩
theorem tro_none {tp : Addr} {σ : L2.St} {H : Hp} (t : Tape H tp) : TrO tp tNoPart σ H := fun Q k => k none H (Taped.refl t)
theorem tro_some {tp : Addr} {te : TE} {σ : L2.St} {H : Hp} (a : Tr tp te σ H isI) : TrO tp (tPart te) σ H := fun Q k => a _ fun x H1 d ⟨i, e⟩ => ⟨i, e, k _ _ d⟩
theorem tr_dig {tp : Addr} {ta tb : TE} {sp : Sp} {σ : L2.St} {H : Hp} {lo hi : Int} (hsp : ∀ (Hx : Hp) (Q : VK) (E : XK) (m : Int), Tape Hx tp → lo ≤ m → m ≤ hi → (∀ H' d, Taped tp Hx H' → 0 ≤ d → d < m → Q (.int d) H') → sp [.ref tp, .int m] Hx Q E)
    (a : Tr tp ta σ H fun v _ => v = .ref tp) (b : ∀ H1, Taped tp H H1 → Tr tp tb σ H1 fun v _ => ∃ m, v = .int m ∧ lo ≤ m ∧ m ≤ hi) : Tr tp (tCall sp [] E0 (tCons ta (tCons tb tNil))) σ H fun v _ => ∃ d, v = .int d ∧ 0 ≤ d ∧ d < hi := fun Q k => a _ fun x H1 d1 e1 => b H1 d1 _ fun y H2 d2 ⟨m, e2, l1, l2⟩ => by
  subst e1
  subst e2
  exact hsp H2 _ _ m d2.2 l1 l2 fun H' d d3 d0 dm => k _ _ ((d1.trans d2).trans d3) ⟨d, rfl, d0, by omega⟩
/-! ### lists of pairs -/
structure EntW (x : Int × List Int) : Prop where
  num : x.1.natAbs < 10 ^ 31
  few : x.2.length ≤ 10
  hue : ∀ z ∈ x.2, -10 < z ∧ z < 10
def WEnt (H : Hp) (e : Addr) : Prop := ∃ x, IsEnt H e x ∧ EntW x
theorem WEnt.mono {H H' : Hp} {e : Addr} (h : WEnt H e) (t : Tups H H') : WEnt H' e := let ⟨x, a, b⟩ := h; ⟨x, a.mono t, b⟩
/-- a list of pairs, not the tape -/
def EntL (tp : Addr) (n : Nat) : V → Hp → Prop := fun v H => ∃ (l : Addr) (es : List Addr), v = .ref l ∧ l ≠ tp ∧ H l = some (.lst (es.map V.ref)) ∧ es.length ≤ n ∧ ∀ e ∈ es, WEnt H e
theorem entL_stays (tp : Addr) (n : Nat) : Stays tp (EntL tp n) := fun v H H' t f ⟨l, es, h1, h2, h3, h4, h5⟩ => ⟨l, es, h1, h2, f.1 _ _ h2 h3, h4, fun e he => (h5 e he).mono (f.tups t)⟩
theorem EntL.up {tp : Addr} {n m : Nat} {v : V} {H : Hp} (h : EntL tp n v H) (k : n ≤ m) : EntL tp m v H := let ⟨l, es, h1, h2, h3, h4, h5⟩ := h; ⟨l, es, h1, h2, h3, Nat.le_trans h4 k, h5⟩
theorem cut_mem {α : Type} {f : α → V} {l : List α} {lo hi : Option Int} : ∃ l' : List α, cutV (l.map f) lo hi = l'.map f ∧ l'.length ≤ l.length ∧ ∀ x ∈ l', x ∈ l := by
  unfold cutV
  refine ⟨(l.drop (HT.sIx (l.map f).length 0 lo)).take (HT.sIx (l.map f).length (l.map f).length hi - HT.sIx (l.map f).length 0 lo), by rw [List.map_take, List.map_drop], ?_, fun x hx => List.mem_of_mem_drop (List.mem_of_mem_take hx)⟩
  rw [List.length_take, List.length_drop]
  omega
theorem tr_sl {K : PySem.W.Frag} {tp : Addr} {ta : TE} {tl th : TO} {σ : L2.St} {H : Hp} {n : Nat} (t : Tape H tp) (a : Tr tp ta σ H (EntL tp n)) (b : ∀ H1, Taped tp H H1 → TrO tp tl σ H1) (c : ∀ H1, Taped tp H H1 → TrO tp th σ H1) : Tr tp (tSl (rSlL K) ta tl th) σ H (EntL tp n) := fun Q k => a _ fun x H1 d1 p1 => b H1 d1 _ fun lo H2 d2 => c H2 (d1.trans d2) _ fun hi H3 d3 => by
  obtain ⟨l, es, rfl, h2, h3, h4, h5⟩ := entL_stays tp n x H1 H3 d1.2 (d2.trans d3) p1
  obtain ⟨es', e1, e2, e3⟩ := cut_mem (f := V.ref) (l := es) (lo := lo) (hi := hi)
  refine ⟨l, _, rfl, .inl (.inl h3), fun p np => ?_⟩
  rw [e1]
  have sp := same_upd (o := .lst (es'.map V.ref)) np
  exact k _ _ ((d1.trans (d2.trans d3)).same sp) ⟨p, es', rfl, d3.2.new np, upd_same, by omega, fun e he => (h5 e (e3 e he)).mono (tups_same sp)⟩
theorem tr_rev {K : PySem.W.Frag} {tp : Addr} {ta : TE} {σ : L2.St} {H : Hp} {n : Nat} (a : Tr tp ta σ H (EntL tp n)) : Tr tp (tRevL K ta) σ H (EntL tp n) := fun Q k => a _ fun x H1 d1 p1 => by
  obtain ⟨l, es, rfl, h2, h3, h4, h5⟩ := p1
  refine ⟨l, _, rfl, .inl (.inl h3), fun p np => ?_⟩
  rw [← List.map_reverse]
  have sp := same_upd (o := .lst (es.reverse.map V.ref)) np
  exact k _ _ (d1.same sp) ⟨p, es.reverse, rfl, d1.2.new np, upd_same, by rw [List.length_reverse]; exact h4, fun e he => (h5 e (List.mem_reverse.mp he)).mono (tups_same sp)⟩
theorem tr_cat {tp : Addr} {ta tb : TE} {σ : L2.St} {H : Hp} {n m : Nat} (hn : n + m ≤ 1000) (a : Tr tp ta σ H (EntL tp n)) (b : ∀ H1, Taped tp H H1 → Tr tp tb σ H1 (EntL tp m)) : Tr tp (tOp rCat ta tb) σ H (EntL tp (n + m)) := fun Q k => a _ fun x H1 d1 p1 => b H1 d1 _ fun y H2 d2 p2 => by
  obtain ⟨l, es, rfl, h2, h3, h4, h5⟩ := entL_stays tp n x H1 H2 d1.2 d2 p1
  obtain ⟨l', es', rfl, g2, g3, g4, g5⟩ := p2
  refine ⟨l, l', _, _, rfl, rfl, h3, g3, by rw [List.length_map, List.length_map]; exact Nat.le_of_lt (small1000 (by omega)), fun p np => ?_⟩
  rw [← List.map_append]
  have sp := same_upd (o := .lst ((es ++ es').map V.ref)) np
  refine k _ _ ((d1.trans d2).same sp) ⟨p, es ++ es', rfl, d2.2.new np, upd_same, by rw [List.length_append]; omega, fun e he => ?_⟩
  rcases List.mem_append.mp he with q | q
  · exact (h5 e q).mono (tups_same sp)
  · exact (g5 e q).mono (tups_same sp)
/-- a row that may stand in a pair -/
def RowW : V → Hp → Prop := fun v H => ∃ (r : Addr) (row : List Int), v = .ref r ∧ IsRow H r row ∧ row.length ≤ 10 ∧ ∀ z ∈ row, -10 < z ∧ z < 10
theorem rowW_stays (tp : Addr) : Stays tp RowW := fun v H H' t f ⟨r, row, h1, h2, h3⟩ => ⟨r, row, h1, f.tups t _ _ h2, h3⟩
def numW : V → Hp → Prop := fun v _ => ∃ i, v = .int i ∧ i.natAbs < 10 ^ 31
theorem tr_pair {tp : Addr} {ta tb : TE} {σ : L2.St} {H : Hp} (a : Tr tp ta σ H numW) (b : ∀ H1, Taped tp H H1 → Tr tp tb σ H1 RowW) : Tr tp (tTup (tCons ta (tCons tb tNil))) σ H fun v H' => ∃ e, v = .ref e ∧ WEnt H' e := fun Q k => a _ fun x H1 d1 ⟨i, e1, hi⟩ => b H1 d1 _ fun y H2 d2 ⟨r, row, e2, h2, h3, h4⟩ => by
  subst e1
  subst e2
  refine ⟨(by show 2 ≤ sizeLine; decide), fun t nt => ?_⟩
  have st := same_upd (o := .tup [.int i, .ref r]) nt
  exact k _ _ ((d1.trans d2).same st) ⟨t, rfl, (i, row), ⟨r, upd_same, st _ _ h2⟩, ⟨hi, h3, h4⟩⟩
theorem tr_one {tp : Addr} {ta : TE} {σ : L2.St} {H : Hp} (a : Tr tp ta σ H fun v H' => ∃ e, v = .ref e ∧ WEnt H' e) : Tr tp (tLst (tCons ta tNil)) σ H (EntL tp 1) := fun Q k => a _ fun x H1 d1 ⟨e, e1, w⟩ => by
  subst e1
  refine ⟨(by show 1 ≤ sizeLine; decide), fun l nl => ?_⟩
  have st := same_upd (o := .lst [.ref e]) nl
  refine k _ _ (d1.same st) ⟨l, [e], rfl, d1.2.new nl, upd_same, Nat.le_refl _, fun b hb => ?_⟩
  rw [List.mem_singleton.mp hb]
  exact w.mono (tups_same st)
/-! ### wide data -/
structure FineW (d : PyData) (n w : Nat) : Prop where
  lay : d.canLay0 = true
  dep : d.depth ≤ n
  wei : d.weight ≤ w
  sho : d.showable = true
  noD : d.hasDict = false
  sh : d.intsShort 40 = true
structure FineWA (ds : List PyData) (n w : Nat) : Prop where
  lay : PyData.canLayAll0 ds = true
  dep : PyData.depthAll ds ≤ n
  wei : PyData.weightAll ds ≤ w
  sho : PyData.showableAll ds = true
  noD : PyData.hasDictAll ds = false
  sh : PyData.intsShortAll 40 ds = true
theorem FineWA.nil (n : Nat) : FineWA [] n 0 := ⟨rfl, Nat.zero_le _, Nat.le_refl _, rfl, rfl, rfl⟩
theorem FineWA.cons {d : PyData} {ds : List PyData} {n w u : Nat} (h : FineW d n w) (t : FineWA ds n u) : FineWA (d :: ds) n (w + 1 + u) := by
  refine ⟨?_, ?_, ?_, ?_, ?_, ?_⟩
  · simp only [PyData.canLayAll0, h.lay, t.lay, Bool.and_self]
  · have a := h.dep
    have b := t.dep
    simp only [PyData.depthAll]
    omega
  · have a := h.wei
    have b := t.wei
    simp only [PyData.weightAll]
    omega
  · simp only [PyData.showableAll, h.sho, t.sho, Bool.and_self]
  · simp only [PyData.hasDictAll, h.noD, t.noD, Bool.or_self]
  · simp only [PyData.intsShortAll, h.sh, t.sh, Bool.and_self]
theorem FineW.tuple {ds : List PyData} {n w : Nat} (t : FineWA ds n w) : FineW (.tuple ds) (n + 1) w := by
  refine ⟨by simp only [PyData.canLay0]; exact t.lay, ?_, by simp only [PyData.weight]; exact t.wei, by simp only [PyData.showable]; exact t.sho, by simp only [PyData.hasDict]; exact t.noD, by simp only [PyData.intsShort]; exact t.sh⟩
  have a := t.dep
  simp only [PyData.depth]
  omega
theorem FineW.list {ds : List PyData} {n w : Nat} (t : FineWA ds n w) : FineW (.list ds) (n + 1) w := by
  refine ⟨by simp only [PyData.canLay0]; exact t.lay, ?_, by simp only [PyData.weight]; exact t.wei, by simp only [PyData.showable]; exact t.sho, by simp only [PyData.hasDict]; exact t.noD, by simp only [PyData.intsShort]; exact t.sh⟩
  have a := t.dep
  simp only [PyData.depth]
  omega
theorem FineW.mono {d : PyData} {n w n' w' : Nat} (h : FineW d n w) (a : n ≤ n') (b : w ≤ w') : FineW d n' w' := ⟨h.lay, Nat.le_trans h.dep a, Nat.le_trans h.wei b, h.sho, h.noD, h.sh⟩
theorem fineWA_map {α : Type} {f : α → PyData} {n w : Nat} : ∀ (l : List α), (∀ x ∈ l, FineW (f x) n w) → FineWA (l.map f) n (l.length * (w + 1))
  | [], _ => by
    have z := FineWA.nil n
    exact ⟨z.lay, z.dep, Nat.le_trans z.wei (Nat.zero_le _), z.sho, z.noD, z.sh⟩
  | x :: r, h => by
    have t := fineWA_map r fun y hy => h y (List.mem_cons_of_mem _ hy)
    have z := FineWA.cons (h x List.mem_cons_self) t
    refine ⟨z.lay, z.dep, ?_, z.sho, z.noD, z.sh⟩
    have := z.wei
    rw [List.length_cons, Nat.succ_mul]
    show PyData.weightAll (f x :: r.map f) ≤ _
    omega
theorem fineW_int {i : Int} (h : i.natAbs < 10 ^ 31) : FineW (.int i) 1 110 := by
  have hl : i.natAbs.log2 ≤ 102 := by
    by_cases e : i.natAbs = 0
    · rw [e]; decide
    · have := (Nat.log2_lt e).mpr (show i.natAbs < 2 ^ 103 from Nat.lt_trans h (by decide))
      omega
  refine ⟨rfl, by simp [PyData.depth], ?_, ?_, rfl, ?_⟩
  · simp only [PyData.weight]
    split <;> omega
  · simp only [PyData.showable]
    exact decide_eq_true (by omega)
  · have e := PySem.int_text_length_le10 (k := 31) (by decide) h
    show decide ((Str.ofString (toString i)).length ≤ 40) = true
    rw [PySem.ofString_length]
    exact decide_eq_true (by omega)
theorem fineW_small {i : Int} (h0 : -100 < i) (h1 : i < 100) : FineW (.int i) 1 110 := fineW_int (Nat.lt_trans (show i.natAbs < 100 by omega) (by decide))
theorem fineW_row {r : List Int} (h : ∀ z ∈ r, -100 < z ∧ z < 100) : FineW (rowD r) 2 (r.length * 111) := FineW.tuple (fineWA_map r fun z hz => fineW_small (h z hz).1 (h z hz).2)
theorem fineW_ent {x : Int × List Int} (h : EntW x) : FineW (entD x) 3 1400 := by
  have a := fineW_int h.num
  have b : FineW (rowD x.2) 2 1110 := (fineW_row fun z hz => by have := h.hue z hz; omega).mono (Nat.le_refl _) (by have := h.few; omega)
  exact (FineW.tuple (FineWA.cons (a.mono (by omega) (Nat.le_refl _)) (FineWA.cons b (FineWA.nil _)))).mono (Nat.le_refl _) (by omega)
theorem fineW_log {log : Log} (h : ∀ e ∈ log, EntW e) (hl : log.length ≤ 200) : FineW (logD log) 4 290000 :=
  (FineW.list (fineWA_map log fun x hx => fineW_ent (h x hx))).mono (Nat.le_refl _) (by omega)
theorem FineW.shows {d : PyData} {n w : Nat} (h : FineW d n w) (hw : w ≤ 380000) : d.shown.length ≤ sizeLine := by
  have a := PyData.shown_le 40 (by decide) d (PyData.leavesShort_of_canLay0 40 d h.lay h.sh)
  have b := h.wei
  have c : (40 + 2) * d.weight + 40 ≤ 16000000 := by omega
  exact Nat.le_trans a (Nat.le_trans c (by decide))
theorem FineW.shaped {d : PyData} {n w : Nat} (h : FineW d n w) (hn : n ≤ 64) : SeqAt.shaped d = true := by
  show (d.canLay0 && decide (d.depth ≤ 64)) = true
  rw [h.lay, decide_eq_true (Nat.le_trans h.dep hn)]
  rfl
/-- the log that a list of pairs is -/
theorem entL_log {H : Hp} : ∀ {es : List Addr}, (∀ e ∈ es, WEnt H e) → ∃ log : Log, Paired (IsEnt H) es log ∧ ∀ x ∈ log, EntW x
  | [], _ => ⟨[], .nil, fun _ h => nomatch h⟩
  | e :: r, h => by
    obtain ⟨x, a, b⟩ := h e List.mem_cons_self
    obtain ⟨log, c, d⟩ := entL_log (es := r) fun y hy => h y (List.mem_cons_of_mem _ hy)
    refine ⟨x :: log, .cons a c, fun y hy => ?_⟩
    rcases List.mem_cons.mp hy with z | z
    · rw [z]; exact b
    · exact d y z
end Rd
namespace Rd
open PySem PySem.Spec PyProof.Rows L2 Dt
def rNotInT (K : PySem.W.Frag) : R2 := fun x y H Q => ∃ d ds, Dp K H x d ∧ Dp K H y (.tuple ds) ∧ SeqAt.shaped d = true ∧ SeqAt.shaped (.tuple ds) = true ∧ Q (.bl (!ds.any fun z => PyData.eqv z d)) H
theorem op_notInT {X : Cx} (hu : X.A.units + 65 < cLine) : OpR X (compareOp .NotIn) (rNotInT X.K) := by
  intro pins s σ H x y v u Q I rx ry h
  obtain ⟨d, ds, hd, he, sd, se, q⟩ := h
  obtain ⟨as, r1⟩ := Dp.reads I d x v hd rx
  obtain ⟨bs, r2⟩ := Dp.reads I (.tuple ds) y u he ry
  exact SeqAt.notIn_tuple_reads r2 r1 (SeqAt.canLay_of_shaped se) (SeqAt.canLay_of_shaped sd) (room_in_shaped sd hu) ⟨.bl _, H, I, rfl, q⟩
end Rd
namespace Rd
open PySem PySem.Spec PyProof.Rows L2 Dt
theorem one_tr {tp : Addr} {te : TE} {σ : L2.St} {H : Hp} {Φ : V → Hp → Prop} {Q : List V → Hp → Prop} (h : Tr tp te σ H Φ) (k : ∀ v H', Taped tp H H' → Φ v H' → Q [v] H') : tCons te tNil σ H Q := h _ k
/-- a new list of pairs -/
def EntN (tp : Addr) (n : Nat) (H0 : Hp) : V → Hp → Prop := fun v H => EntL tp n v H ∧ ∃ l, v = .ref l ∧ H0 l = none
theorem tr_catN {tp : Addr} {ta tb : TE} {σ : L2.St} {H : Hp} {n m : Nat} (hn : n + m ≤ 1000) (a : Tr tp ta σ H (EntL tp n)) (b : ∀ H1, Taped tp H H1 → Tr tp tb σ H1 (EntL tp m)) : Tr tp (tOp rCat ta tb) σ H (EntN tp (n + m) H) := fun Q k => a _ fun x H1 d1 p1 => b H1 d1 _ fun y H2 d2 p2 => by
  obtain ⟨l, es, rfl, h2, h3, h4, h5⟩ := entL_stays tp n x H1 H2 d1.2 d2 p1
  obtain ⟨l', es', rfl, g2, g3, g4, g5⟩ := p2
  refine ⟨l, l', _, _, rfl, rfl, h3, g3, by rw [List.length_map, List.length_map]; exact Nat.le_of_lt (small1000 (by omega)), fun p np => ?_⟩
  rw [← List.map_append]
  have sp := same_upd (o := .lst ((es ++ es').map V.ref)) np
  refine k _ _ ((d1.trans d2).same sp) ⟨⟨p, es ++ es', rfl, d2.2.new np, upd_same, by rw [List.length_append]; omega, fun e he => ?_⟩, p, rfl, (d1.trans d2).free np⟩
  rcases List.mem_append.mp he with q | q
  · exact (h5 e q).mono (tups_same sp)
  · exact (g5 e q).mono (tups_same sp)
theorem EntN.l {tp : Addr} {n : Nat} {H0 H : Hp} {v : V} (h : EntN tp n H0 v H) : EntL tp n v H := h.1
/-- lists of pairs in a list that is no other one of them -/
structure EntLs (tp : Addr) (n : Nat) (H : Hp) (l : Addr) (vs : List V) : Prop where
  nt : l ≠ tp
  hl : H l = some (.lst vs)
  each : ∀ x ∈ vs, EntL tp n x H ∧ x ≠ .ref l
theorem EntLs.stays {tp : Addr} {n : Nat} {H H' : Hp} {l : Addr} {vs : List V} (h : EntLs tp n H l vs) (t : Tape H tp) (f : Taped tp H H') : EntLs tp n H' l vs := ⟨h.nt, f.1 _ _ h.nt h.hl, fun x hx => ⟨entL_stays tp n x H H' t f (h.each x hx).1, (h.each x hx).2⟩⟩
theorem EntL.put {tp : Addr} {n : Nat} {H : Hp} {l : Addr} {vs : List V} {o : HO} {x : V} (h : EntL tp n x H) (hl : H l = some (.lst vs)) (ne : x ≠ .ref l) : EntL tp n x (upd H l o) := by
  obtain ⟨l', es, rfl, h2, h3, h4, h5⟩ := h
  have n' : l' ≠ l := fun z => ne (by rw [z])
  exact ⟨l', es, rfl, h2, by rw [upd_ne n']; exact h3, h4, fun e he => (h5 e he).mono (tups_lst hl)⟩
theorem EntLs.snoc {tp : Addr} {n : Nat} {H : Hp} {l : Addr} {vs : List V} {v : V} (h : EntLs tp n H l vs) (hv : EntL tp n v H) (ne : v ≠ .ref l) : EntLs tp n (upd H l (.lst (vs ++ [v]))) l (vs ++ [v]) := by
  refine ⟨h.nt, upd_same, fun x hx => ?_⟩
  rcases List.mem_append.mp hx with z | z
  · exact ⟨(h.each x z).1.put h.hl (h.each x z).2, (h.each x z).2⟩
  · rw [List.mem_singleton.mp z]
    exact ⟨hv.put h.hl ne, ne⟩
theorem tr_rowcat {K : PySem.W.Frag} {tp : Addr} {ta tb : TE} {σ : L2.St} {H : Hp} {n m : Nat} (hn : n + m ≤ 10) (a : Tr tp ta σ H fun v H' => ∃ (r : Addr) (row : List Int), v = .ref r ∧ IsRow H' r row ∧ row.length ≤ n ∧ ∀ z ∈ row, -10 < z ∧ z < 10) (b : ∀ H1, Taped tp H H1 → Tr tp tb σ H1 fun v H' => ∃ (r : Addr) (row : List Int), v = .ref r ∧ IsRow H' r row ∧ row.length ≤ m ∧ ∀ z ∈ row, -10 < z ∧ z < 10) : Tr tp (tOp (rCatA K) ta tb) σ H RowW := fun Q k => a _ fun x H1 d1 ⟨r, row, e1, h1, h2, h3⟩ => b H1 d1 _ fun y H2 d2 ⟨r', row', e2, g1, g2, g3⟩ => by
  subst e1
  subst e2
  have h1' : IsRow H2 r row := d2.tups d1.2 _ _ h1
  have d12 := d1.trans d2
  have hb : ∀ z ∈ row ++ row', -10 < z ∧ z < 10 := fun z hz => by
    rcases List.mem_append.mp hz with q | q
    · exact h3 z q
    · exact g3 z q
  refine ⟨r, r', _, _, rfl, rfl, .inl (.inl h1'), .inl (.inl g1), by rw [List.length_map, List.length_map]; exact Nat.le_of_lt (small1000 (by omega)), fun z => ?_, fun _ z => ?_, fun _ _ p np => ?_⟩
  · exact k _ _ d12 ⟨r', row', rfl, g1, by omega, g3⟩
  · exact k _ _ d12 ⟨r, row, rfl, h1', by omega, h3⟩
  · have sp := same_upd (o := .tup (row.map V.int ++ row'.map V.int)) np
    exact k _ _ (d12.same sp) ⟨p, row ++ row', rfl, by show upd _ p _ p = _; rw [upd_same, List.map_append], by rw [List.length_append]; omega, hb⟩
end Rd
namespace Rd
open PySem PySem.Spec PyProof.Rows L2 Dt
/-- pairs, one after the other -/
def EntA (tp : Addr) (m : Nat) (ta : TA) (σ : L2.St) (H : Hp) : Prop := ∀ Q : List V → Hp → Prop, (∀ (es : List Addr) H', Taped tp H H' → es.length = m → (∀ e ∈ es, WEnt H' e) → Q (es.map V.ref) H') → ta σ H Q
theorem enta_nil {tp : Addr} {σ : L2.St} {H : Hp} (t : Tape H tp) : EntA tp 0 tNil σ H := fun Q k => k [] H (Taped.refl t) rfl fun _ h => nomatch h
theorem enta_cons {tp : Addr} {m : Nat} {te : TE} {ta : TA} {σ : L2.St} {H : Hp} (a : Tr tp te σ H fun v H' => ∃ e, v = .ref e ∧ WEnt H' e) (b : ∀ H1, Taped tp H H1 → EntA tp m ta σ H1) : EntA tp (m + 1) (tCons te ta) σ H := fun Q k => a _ fun v H1 d1 ⟨e, ev, w⟩ => b H1 d1 _ fun es H2 d2 hl hw => by
  subst ev
  refine k (e :: es) H2 (d1.trans d2) (by rw [List.length_cons, hl]) fun x hx => ?_
  rcases List.mem_cons.mp hx with z | z
  · rw [z]; exact w.mono (d2.tups d1.2)
  · exact hw x z
theorem tr_ents {tp : Addr} {m : Nat} {ta : TA} {σ : L2.St} {H : Hp} (hm : m ≤ 1000) (a : EntA tp m ta σ H) : Tr tp (tLst ta) σ H (EntN tp m H) := fun Q k => a _ fun es H1 d1 hl hw => by
  refine ⟨by rw [List.length_map, hl]; exact Nat.le_of_lt (small1000 hm), fun l nl => ?_⟩
  have sl := same_upd (o := .lst (es.map V.ref)) nl
  exact k _ _ (d1.same sl) ⟨⟨l, es, rfl, d1.2.new nl, upd_same, by omega, fun e he => (hw e he).mono (tups_same sl)⟩, l, rfl, d1.free nl⟩
/-- a row of at most so many -/
def RowN (n : Nat) : V → Hp → Prop := fun v H => ∃ (r : Addr) (row : List Int), v = .ref r ∧ IsRow H r row ∧ row.length ≤ n ∧ ∀ z ∈ row, -10 < z ∧ z < 10
theorem rowN_stays (tp : Addr) (n : Nat) : Stays tp (RowN n) := fun v H H' t f ⟨r, row, h1, h2, h3⟩ => ⟨r, row, h1, f.tups t _ _ h2, h3⟩
theorem RowN.w {n : Nat} {v : V} {H : Hp} (h : RowN n v H) (hn : n ≤ 10) : RowW v H := let ⟨r, row, h1, h2, h3, h4⟩ := h; ⟨r, row, h1, h2, by omega, h4⟩
theorem tr_slrow {K : PySem.W.Frag} {tp : Addr} {ta : TE} {tl th : TO} {σ : L2.St} {H : Hp} {n : Nat} (a : Tr tp ta σ H (RowN n)) (b : ∀ H1, Taped tp H H1 → TrO tp tl σ H1) (c : ∀ H1, Taped tp H H1 → TrO tp th σ H1) : Tr tp (tSl (rSlA K) ta tl th) σ H (RowN n) := fun Q k => a _ fun x H1 d1 p1 => b H1 d1 _ fun lo H2 d2 => c H2 (d1.trans d2) _ fun hi H3 d3 => by
  obtain ⟨r, row, rfl, h2, h3, h4⟩ := rowN_stays tp n x H1 H3 d1.2 (d2.trans d3) p1
  obtain ⟨row', e1, e2, e3⟩ := cut_mem (f := V.int) (l := row) (lo := lo) (hi := hi)
  have d := d1.trans (d2.trans d3)
  refine ⟨r, _, rfl, .inl (.inl h2), fun _ => k _ _ d ⟨r, row, rfl, h2, h3, h4⟩, fun _ p np => ?_⟩
  rw [e1]
  exact k _ _ (d.same (same_upd np)) ⟨p, row', rfl, upd_same, by omega, fun z hz => h4 z (e3 z hz)⟩
theorem tr_rowcatN {K : PySem.W.Frag} {tp : Addr} {ta tb : TE} {σ : L2.St} {H : Hp} {n m : Nat} (hn : n + m ≤ 10) (a : Tr tp ta σ H (RowN n)) (b : ∀ H1, Taped tp H H1 → Tr tp tb σ H1 (RowN m)) : Tr tp (tOp (rCatA K) ta tb) σ H RowW := tr_rowcat hn a b
theorem tr_tup1 {tp : Addr} {ta : TE} {σ : L2.St} {H : Hp} (a : Tr tp ta σ H fun v _ => ∃ i, v = .int i ∧ -10 < i ∧ i < 10) : Tr tp (tTup (tCons ta tNil)) σ H (RowN 1) := fun Q k => a _ fun v H1 d1 ⟨i, e, i0, i1⟩ => by
  subst e
  refine ⟨(by show 1 ≤ sizeLine; decide), fun t nt => ?_⟩
  exact k _ _ (d1.same (same_upd nt)) ⟨t, [i], rfl, upd_same, Nat.le_refl _, fun z hz => by rw [List.mem_singleton.mp hz]; exact ⟨i0, i1⟩⟩
theorem tr_tup0 {tp : Addr} {σ : L2.St} {H : Hp} (t : Tape H tp) : Tr tp (tTup tNil) σ H (RowN 0) := fun Q k => by
  refine ⟨(by show 0 ≤ sizeLine; decide), fun p np => ?_⟩
  exact k _ _ ((Taped.refl t).same (same_upd np)) ⟨p, [], rfl, upd_same, Nat.le_refl _, fun _ h => nomatch h⟩
theorem tr_neg {tp : Addr} {c : Int} {σ : L2.St} {H : Hp} {Φ : V → Hp → Prop} (t : Tape H tp) (p : Φ (.int (-c)) H) : Tr tp (tUn (rU fun i => .int (-i)) (tC (.int c))) σ H Φ := fun Q k => ⟨c, rfl, k _ _ (Taped.refl t) p⟩
end Rd
namespace Rd
open PySem PySem.Spec PyProof.Rows L2 Dt
/-- a list of pairs, one at least, new since H -/
def SomeAt (H : Hp) (c : Nat) : V → Hp → Prop := fun v Hc => ∃ (l : Addr) (es : List Addr), v = .ref l ∧ H l = none ∧ Hc l = some (.lst (es.map V.ref)) ∧ 1 ≤ es.length ∧ es.length ≤ c ∧ ∀ e ∈ es, WEnt Hc e
theorem some_stays {tp : Addr} {H Hc Hd : Hp} {c : Nat} {v : V} (t : Tape H tp) (tc : Tape Hc tp) (d : Taped tp Hc Hd) (h : SomeAt H c v Hc) : SomeAt H c v Hd := by
  obtain ⟨l, es, h1, h2, h3, h4, h5, h6⟩ := h
  exact ⟨l, es, h1, h2, d.1 _ _ (t.new h2) h3, h4, h5, fun e he => (h6 e he).mono (d.tups tc)⟩
theorem SomeAt.up {H Hc : Hp} {c c' : Nat} {v : V} (h : SomeAt H c v Hc) (k : c ≤ c') : SomeAt H c' v Hc := let ⟨l, es, h1, h2, h3, h4, h5, h6⟩ := h; ⟨l, es, h1, h2, h3, h4, Nat.le_trans h5 k, h6⟩
theorem tr_some {tp : Addr} {m : Nat} {ta : TA} {σ : L2.St} {H Hc : Hp} (hm : m + 1 ≤ 1000) (dc : Taped tp H Hc) (a : EntA tp (m + 1) ta σ Hc) : Tr tp (tLst ta) σ Hc (SomeAt H (m + 1)) := fun Q k => a _ fun es H1 d1 hl hw => by
  refine ⟨by rw [List.length_map, hl]; exact Nat.le_of_lt (small1000 hm), fun l nl => ?_⟩
  have sl := same_upd (o := .lst (es.map V.ref)) nl
  exact k _ _ (d1.same sl) ⟨l, es, rfl, dc.free (d1.free nl), upd_same, by omega, by omega, fun e he => (hw e he).mono (tups_same sl)⟩
theorem some_cat {tp : Addr} {tb : TE} {i : Nat} {σ : L2.St} {H Hc : Hp} {c m : Nat} {v : V} (t : Tape H tp) (dc : Taped tp H Hc) (hσ : σ[i]? = some (some v)) (hs : SomeAt H c v Hc) (hn : c + m ≤ 1000) (b : ∀ H1, Taped tp Hc H1 → Tr tp tb σ H1 (EntL tp m)) : Tr tp (tOp rCat (tVar i) tb) σ Hc (SomeAt H (c + m)) := fun Q k => ⟨v, hσ, b Hc (Taped.refl dc.2) _ fun y H2 d2 p2 => by
  obtain ⟨l, es, rfl, h2, h3, h4, h5, h6⟩ := some_stays t dc.2 d2 hs
  obtain ⟨l', es', rfl, g2, g3, g4, g5⟩ := p2
  refine ⟨l, l', _, _, rfl, rfl, h3, g3, by rw [List.length_map, List.length_map]; exact Nat.le_of_lt (small1000 (by omega)), fun p np => ?_⟩
  rw [← List.map_append]
  have sp := same_upd (o := .lst ((es ++ es').map V.ref)) np
  refine k _ _ (d2.same sp) ⟨p, es ++ es', rfl, dc.free (d2.free np), upd_same, by rw [List.length_append]; omega, by rw [List.length_append]; omega, fun e he => ?_⟩
  rcases List.mem_append.mp he with q | q
  · exact (h6 e q).mono (tups_same sp)
  · exact (g5 e q).mono (tups_same sp)⟩
end Rd

set_option Elab.async false
set_option linter.all false
set_option maxRecDepth 100000
set_option maxHeartbeats 4000000
/-! pairs that are no mending of a riddle -/
namespace Rd
open PySem PySem.Spec PyProof.Rows L2 Dt
def BEnt (wds : List WD) (H : Hp) (e : Addr) : Prop := ∃ x, IsEnt H e x ∧ EntW x ∧ entB wds x = false
variable {wds : List WD}
theorem BEnt.mono {H H' : Hp} {e : Addr} (h : BEnt wds H e) (t : Tups H H') : BEnt wds H' e := let ⟨x, a, b⟩ := h; ⟨x, a.mono t, b⟩
theorem BEnt.w {H : Hp} {e : Addr} (h : BEnt wds H e) : WEnt H e := let ⟨x, a, b, _⟩ := h; ⟨x, a, b⟩
def EntLB (wds : List WD) (tp : Addr) (n : Nat) : V → Hp → Prop := fun v H => ∃ (l : Addr) (es : List Addr), v = .ref l ∧ l ≠ tp ∧ H l = some (.lst (es.map V.ref)) ∧ es.length ≤ n ∧ ∀ e ∈ es, BEnt wds H e
theorem entLB_stays (tp : Addr) (n : Nat) : Stays tp (EntLB wds tp n) := fun v H H' t f ⟨l, es, h1, h2, h3, h4, h5⟩ => ⟨l, es, h1, h2, f.1 _ _ h2 h3, h4, fun e he => (h5 e he).mono (f.tups t)⟩
theorem EntLB.up {tp : Addr} {n m : Nat} {v : V} {H : Hp} (h : EntLB wds tp n v H) (k : n ≤ m) : EntLB wds tp m v H := let ⟨l, es, h1, h2, h3, h4, h5⟩ := h; ⟨l, es, h1, h2, h3, Nat.le_trans h4 k, h5⟩
theorem trB_one {tp : Addr} {ta : TE} {σ : L2.St} {H : Hp} (a : Tr tp ta σ H fun v H' => ∃ e, v = .ref e ∧ BEnt wds H' e) : Tr tp (tLst (tCons ta tNil)) σ H (EntLB wds tp 1) := fun Q k => a _ fun x H1 d1 ⟨e, e1, w⟩ => by
  subst e1
  refine ⟨(by show 1 ≤ sizeLine; decide), fun l nl => ?_⟩
  have st := same_upd (o := .lst [.ref e]) nl
  refine k _ _ (d1.same st) ⟨l, [e], rfl, d1.2.new nl, upd_same, Nat.le_refl _, fun b hb => ?_⟩
  rw [List.mem_singleton.mp hb]
  exact w.mono (tups_same st)
def EntNB (wds : List WD) (tp : Addr) (n : Nat) (H0 : Hp) : V → Hp → Prop := fun v H => EntLB wds tp n v H ∧ ∃ l, v = .ref l ∧ H0 l = none
theorem EntNB.l {tp : Addr} {n : Nat} {H0 H : Hp} {v : V} (h : EntNB wds tp n H0 v H) : EntLB wds tp n v H := h.1
def EntAB (wds : List WD) (tp : Addr) (m : Nat) (ta : TA) (σ : L2.St) (H : Hp) : Prop := ∀ Q : List V → Hp → Prop, (∀ (es : List Addr) H', Taped tp H H' → es.length = m → (∀ e ∈ es, BEnt wds H' e) → Q (es.map V.ref) H') → ta σ H Q
theorem entab_nil {tp : Addr} {σ : L2.St} {H : Hp} (t : Tape H tp) : EntAB wds tp 0 tNil σ H := fun Q k => k [] H (Taped.refl t) rfl fun _ h => nomatch h
theorem entab_cons {tp : Addr} {m : Nat} {te : TE} {ta : TA} {σ : L2.St} {H : Hp} (a : Tr tp te σ H fun v H' => ∃ e, v = .ref e ∧ BEnt wds H' e) (b : ∀ H1, Taped tp H H1 → EntAB wds tp m ta σ H1) : EntAB wds tp (m + 1) (tCons te ta) σ H := fun Q k => a _ fun v H1 d1 ⟨e, ev, w⟩ => b H1 d1 _ fun es H2 d2 hl hw => by
  subst ev
  refine k (e :: es) H2 (d1.trans d2) (by rw [List.length_cons, hl]) fun x hx => ?_
  rcases List.mem_cons.mp hx with z | z
  · rw [z]; exact w.mono (d2.tups d1.2)
  · exact hw x z
theorem trB_ents {tp : Addr} {m : Nat} {ta : TA} {σ : L2.St} {H : Hp} (hm : m ≤ 1000) (a : EntAB wds tp m ta σ H) : Tr tp (tLst ta) σ H (EntNB wds tp m H) := fun Q k => a _ fun es H1 d1 hl hw => by
  refine ⟨by rw [List.length_map, hl]; exact Nat.le_of_lt (small1000 hm), fun l nl => ?_⟩
  have sl := same_upd (o := .lst (es.map V.ref)) nl
  exact k _ _ (d1.same sl) ⟨⟨l, es, rfl, d1.2.new nl, upd_same, by omega, fun e he => (hw e he).mono (tups_same sl)⟩, l, rfl, d1.free nl⟩
def SomeB (wds : List WD) (H : Hp) (c : Nat) : V → Hp → Prop := fun v Hc => ∃ (l : Addr) (es : List Addr), v = .ref l ∧ H l = none ∧ Hc l = some (.lst (es.map V.ref)) ∧ 1 ≤ es.length ∧ es.length ≤ c ∧ ∀ e ∈ es, BEnt wds Hc e
theorem someB_stays {tp : Addr} {H Hc Hd : Hp} {c : Nat} {v : V} (t : Tape H tp) (tc : Tape Hc tp) (d : Taped tp Hc Hd) (h : SomeB wds H c v Hc) : SomeB wds H c v Hd := by
  obtain ⟨l, es, h1, h2, h3, h4, h5, h6⟩ := h
  exact ⟨l, es, h1, h2, d.1 _ _ (t.new h2) h3, h4, h5, fun e he => (h6 e he).mono (d.tups tc)⟩
theorem SomeB.up {H Hc : Hp} {c c' : Nat} {v : V} (h : SomeB wds H c v Hc) (k : c ≤ c') : SomeB wds H c' v Hc := let ⟨l, es, h1, h2, h3, h4, h5, h6⟩ := h; ⟨l, es, h1, h2, h3, h4, Nat.le_trans h5 k, h6⟩
theorem trB_some {tp : Addr} {m : Nat} {ta : TA} {σ : L2.St} {H Hc : Hp} (hm : m + 1 ≤ 1000) (dc : Taped tp H Hc) (a : EntAB wds tp (m + 1) ta σ Hc) : Tr tp (tLst ta) σ Hc (SomeB wds H (m + 1)) := fun Q k => a _ fun es H1 d1 hl hw => by
  refine ⟨by rw [List.length_map, hl]; exact Nat.le_of_lt (small1000 hm), fun l nl => ?_⟩
  have sl := same_upd (o := .lst (es.map V.ref)) nl
  exact k _ _ (d1.same sl) ⟨l, es, rfl, dc.free (d1.free nl), upd_same, by omega, by omega, fun e he => (hw e he).mono (tups_same sl)⟩
theorem someB_cat {tp : Addr} {tb : TE} {i : Nat} {σ : L2.St} {H Hc : Hp} {c m : Nat} {v : V} (t : Tape H tp) (dc : Taped tp H Hc) (hσ : σ[i]? = some (some v)) (hs : SomeB wds H c v Hc) (hn : c + m ≤ 1000) (b : ∀ H1, Taped tp Hc H1 → Tr tp tb σ H1 (EntLB wds tp m)) : Tr tp (tOp rCat (tVar i) tb) σ Hc (SomeB wds H (c + m)) := fun Q k => ⟨v, hσ, b Hc (Taped.refl dc.2) _ fun y H2 d2 p2 => by
  obtain ⟨l, es, rfl, h2, h3, h4, h5, h6⟩ := someB_stays t dc.2 d2 hs
  obtain ⟨l', es', rfl, g2, g3, g4, g5⟩ := p2
  refine ⟨l, l', _, _, rfl, rfl, h3, g3, by rw [List.length_map, List.length_map]; exact Nat.le_of_lt (small1000 (by omega)), fun p np => ?_⟩
  rw [← List.map_append]
  have sp := same_upd (o := .lst ((es ++ es').map V.ref)) np
  refine k _ _ (d2.same sp) ⟨p, es ++ es', rfl, dc.free (d2.free np), upd_same, by rw [List.length_append]; omega, by rw [List.length_append]; omega, fun e he => ?_⟩
  rcases List.mem_append.mp he with q | q
  · exact (h6 e q).mono (tups_same sp)
  · exact (g5 e q).mono (tups_same sp)⟩
theorem trB_cat {tp : Addr} {ta tb : TE} {σ : L2.St} {H : Hp} {n m : Nat} (hn : n + m ≤ 1000) (a : Tr tp ta σ H (EntLB wds tp n)) (b : ∀ H1, Taped tp H H1 → Tr tp tb σ H1 (EntLB wds tp m)) : Tr tp (tOp rCat ta tb) σ H (EntLB wds tp (n + m)) := fun Q k => a _ fun x H1 d1 p1 => b H1 d1 _ fun y H2 d2 p2 => by
  obtain ⟨l, es, rfl, h2, h3, h4, h5⟩ := entLB_stays tp n x H1 H2 d1.2 d2 p1
  obtain ⟨l', es', rfl, g2, g3, g4, g5⟩ := p2
  refine ⟨l, l', _, _, rfl, rfl, h3, g3, by rw [List.length_map, List.length_map]; exact Nat.le_of_lt (small1000 (by omega)), fun p np => ?_⟩
  rw [← List.map_append]
  have sp := same_upd (o := .lst ((es ++ es').map V.ref)) np
  refine k _ _ ((d1.trans d2).same sp) ⟨p, es ++ es', rfl, d2.2.new np, upd_same, by rw [List.length_append]; omega, fun e he => ?_⟩
  rcases List.mem_append.mp he with q | q
  · exact (h5 e q).mono (tups_same sp)
  · exact (g5 e q).mono (tups_same sp)
/-- a number that is none of a wish -/
def numOut (wds : List WD) : V → Hp → Prop := fun v _ => ∃ n : Int, v = .int n ∧ n.natAbs < 10 ^ 31 ∧ ¬ (0 ≤ n ∧ n < (wds.length : Int))
/-- the very row -/
def RowE (row : List Int) : V → Hp → Prop := fun v H => ∃ r, v = .ref r ∧ IsRow H r row
def RowBad (wd : WD) : V → Hp → Prop := fun v H => ∃ (r : Addr) (row : List Int), v = .ref r ∧ IsRow H r row ∧ row.length ≤ 10 ∧ (∀ z ∈ row, -10 < z ∧ z < 10) ∧ row ∉ wd.2
theorem RowE.bad {wd : WD} {row : List Int} {v : V} {H : Hp} (h : RowE row v H) (h1 : row.length ≤ 10) (h2 : ∀ z ∈ row, -10 < z ∧ z < 10) (h3 : row ∉ wd.2) : RowBad wd v H := let ⟨r, e, i⟩ := h; ⟨r, row, e, i, h1, h2, h3⟩
theorem rowE_stays (tp : Addr) (row : List Int) : Stays tp (RowE row) := fun v H H' t f ⟨r, e, i⟩ => ⟨r, e, f.tups t _ _ i⟩
theorem rowBad_stays (tp : Addr) (wd : WD) : Stays tp (RowBad wd) := fun v H H' t f ⟨r, row, e, i, a⟩ => ⟨r, row, e, f.tups t _ _ i, a⟩
theorem trB_out {tp : Addr} {ta tb : TE} {σ : L2.St} {H : Hp} (a : Tr tp ta σ H (numOut wds)) (b : ∀ H1, Taped tp H H1 → Tr tp tb σ H1 RowW) : Tr tp (tTup (tCons ta (tCons tb tNil))) σ H fun v H' => ∃ e, v = .ref e ∧ BEnt wds H' e := fun Q k => a _ fun x H1 d1 ⟨n, e1, h1, h2⟩ => b H1 d1 _ fun y H2 d2 ⟨r, row, e2, g1, g2, g3⟩ => by
  subst e1
  subst e2
  refine ⟨(by show 2 ≤ sizeLine; decide), fun e ne => ?_⟩
  have st := same_upd (o := .tup [.int n, .ref r]) ne
  exact k _ _ ((d1.trans d2).same st) ⟨e, rfl, (n, row), ⟨r, upd_same, st _ _ g1⟩, ⟨h1, g2, g3⟩, decide_eq_false fun z => h2 ⟨z.1, z.2.1⟩⟩
theorem trB_row {tp : Addr} {ta tb : TE} {σ : L2.St} {H : Hp} {n : Int} {wd : WD} (hn : n.natAbs < 10 ^ 31) (hw : wds.getD n.toNat ([], []) = wd) (a : Tr tp ta σ H fun v _ => v = .int n) (b : ∀ H1, Taped tp H H1 → Tr tp tb σ H1 (RowBad wd)) : Tr tp (tTup (tCons ta (tCons tb tNil))) σ H fun v H' => ∃ e, v = .ref e ∧ BEnt wds H' e := fun Q k => a _ fun x H1 d1 e1 => b H1 d1 _ fun y H2 d2 ⟨r, row, e2, g1, g2, g3, g4⟩ => by
  subst e1
  subst e2
  refine ⟨(by show 2 ≤ sizeLine; decide), fun e ne => ?_⟩
  have st := same_upd (o := .tup [.int n, .ref r]) ne
  exact k _ _ ((d1.trans d2).same st) ⟨e, rfl, (n, row), ⟨r, upd_same, st _ _ g1⟩, ⟨hn, g2, g3⟩, decide_eq_false fun z => g4 (by have := z.2.2; rw [hw] at this; exact this)⟩
theorem trE_cat {K : PySem.W.Frag} {tp : Addr} {ta tb : TE} {σ : L2.St} {H : Hp} {a b : List Int} (hn : a.length + b.length ≤ 999) (ha : Tr tp ta σ H (RowE a)) (hb : ∀ H1, Taped tp H H1 → Tr tp tb σ H1 (RowE b)) : Tr tp (tOp (rCatA K) ta tb) σ H (RowE (a ++ b)) := fun Q k => ha _ fun x H1 d1 ⟨r, e1, h1⟩ => hb H1 d1 _ fun y H2 d2 ⟨r', e2, h2⟩ => by
  subst e1
  subst e2
  have h1' : H2 r = some (.tup (a.map V.int)) := d2.tups d1.2 _ _ h1
  have d12 := d1.trans d2
  refine ⟨r, r', _, _, rfl, rfl, .inl (.inl h1'), .inl (.inl h2), by rw [List.length_map, List.length_map]; exact Nat.le_of_lt (small1000 (by omega)), fun z => ?_, fun _ z => ?_, fun _ _ p np => ?_⟩
  · rw [List.map_eq_nil_iff] at z
    subst z
    exact k _ _ d12 ⟨r', rfl, h2⟩
  · rw [List.map_eq_nil_iff] at z
    subst z
    exact k _ _ d12 ⟨r, rfl, by rw [List.append_nil]; exact h1'⟩
  · exact k _ _ (d12.same (same_upd np)) ⟨p, rfl, by show upd _ p _ p = _; rw [upd_same, List.map_append]⟩
theorem trE_sl {K : PySem.W.Frag} {tp : Addr} {ta : TE} {tl th : TO} {σ : L2.St} {H : Hp} {a b : List Int} {lo hi : Option Int} (hl : ∀ H1 (Q : Option Int → Hp → Prop), Q lo H1 → tl σ H1 Q) (hh : ∀ H1 (Q : Option Int → Hp → Prop), Q hi H1 → th σ H1 Q) (e : cutV (a.map V.int) lo hi = b.map V.int) (ha : Tr tp ta σ H (RowE a)) : Tr tp (tSl (rSlA K) ta tl th) σ H (RowE b) := fun Q k => ha _ fun x H1 d1 ⟨r, e1, h1⟩ => hl _ _ (hh _ _ (by
  subst e1
  refine ⟨r, _, rfl, .inl (.inl h1), fun ⟨z1, z2⟩ => k _ _ d1 ⟨r, rfl, ?_⟩, fun _ p np => ?_⟩
  · unfold cutV at e
    rw [z1, z2, List.drop_zero, Nat.sub_zero, List.take_length] at e
    show H1 r = _
    rw [← e]
    exact h1
  · rw [e]
    exact k _ _ (d1.same (same_upd np)) ⟨p, rfl, upd_same⟩))
end Rd

set_option Elab.async false
set_option linter.all false
set_option maxRecDepth 100000
set_option maxHeartbeats 4000000
/-! an exception that is caught and kept: try / except x as n, the exception's object tracked from then on -/
namespace Rd
open PySem PySem.Spec PyProof.Rows L2 Dt
/-- the object of an exception, of which the class and the dict are known -/
def ExD (cls : Value) (d : Option Addr) (a : Addr) : HO := .ext fun h => ∃ (oe : Obj) (vs : Array Value), h.get? a = some oe ∧ Zc cls d oe ∧ oe.data = .fields vs
theorem exD_ok {P : Program} {w : World} {H : Hp} {h : Heap} {a : Addr} {cls : Value} {d : Option Addr} {oe : Obj} {vs : Array Value} (e : h.get? a = some oe) (z : Zc cls d oe) (y : oe.data = .fields vs) : ObjOk P w H h a (ExD cls d a) :=
  ⟨⟨oe, vs, e, z, y⟩, ⟨oe, e⟩, fun h1 h2 ⟨o', vs', e', z', y'⟩ k => ⟨o', vs', k _ e', z', y'⟩⟩
section
variable {X : Cx} {pins : List (Addr × Obj)} {σ : L2.St} {H : Hp} {s : Shared}
theorem track_ok (I : Inv X pins σ H s) {a : Addr} {o : HO} (na : H a = none) (n0 : X.s_0.heap.get? a = none) (nL : a ≠ X.env.locals) (nC : ∀ x c, X.env.cells.lookup x = some c → c ≠ a) (nP : ∀ p ∈ X.pn ++ pins, p.1 ≠ a) (new : ObjOk X.prog X.w (upd H a o) s.heap a o) : Inv X pins σ (upd H a o) s :=
  ⟨I.ok, I.os, I.bare, ⟨I.base.keep, I.base.slot, fun b u e n hx => by
      rw [upd_ne (fun z => by rw [z, n0] at e; cases e)]
      exact I.base.free b u e n hx, I.base.there, fun b xs e => by
      have q := I.base.tups b xs e
      rw [upd_ne (ne_of_none q na)]
      exact q, fun b u xs e => by
      have q := I.base.frzs b u xs e
      rw [upd_ne (ne_of_none q na)]
      exact q, fun b ps e => by
      obtain ⟨more, q⟩ := I.base.tbls b ps e
      exact ⟨more, by rw [upd_ne (ne_of_none q na)]; exact q⟩⟩, I.loc, I.cell, by
    rw [upd_ne (Ne.symm nL)]
    exact I.free, fun x c e => by
    rw [upd_ne (nC x c e)]
    exact I.freeC x c e, fun p hp => by
    obtain ⟨p1, p2, p3⟩ := I.pin p hp
    exact ⟨p1, by rw [upd_ne (nP p hp)]; exact p2, p3⟩, I.hok.laidN (fun _ _ e => e) na new, I.len⟩
end
/-- the clause 'except x as n', the exception tracked in its suite and behind it -/
def wKeep (K : PySem.W.Frag) (c : Value) (i : Nat) (ts : Addr → TS) (Wout : WX) (D : Ends) : WX := fun cls d σ H =>
  ∃ b, PySem.W.exmOne K cls c = some b ∧ (b = true → ∀ a, H a = none → ts a { nx := fun σ' H' => D.nx (σ'.set i none) H', rt := D.rt, bk := fun σ' H' => D.bk (σ'.set i none) H', ct := fun σ' H' => D.ct (σ'.set i none) H' } (σ.set i (some (.ref a))) (upd H a (ExD cls d a))) ∧ (b = false → Wout cls d σ H)
section
variable {X : Cx} {x n : Str} {c : Value} {i : Nat} {body suite : List Stmt} {b₀ : Stmt} {np pos pos' : Pos} {tb : WX → TS} {ts : Addr → TS} {Wout : WX}
theorem ps_try_keep (hex : X.ex = []) (hs : X.stack = X.env :: X.outer) (hf : X.env.frame = some X.env.locals) (hN : X.N.Nodup) (hi : X.N[i]? = some n) (hln : X.env.kindOf n = some .local) (hc : Names X x c) (tk : Takes X Wout)
    (hb : ∀ (W : WX) (pn : List (Addr × Obj)) (xe : Value → Shared → Prop), Takes (X.tr pn xe) W → PassesOwn (model X.prog X.w) X.A X.env xe → PSs (X.tr pn xe) body (tb W)) (hsu : ∀ (a : Addr) (pn : List (Addr × Obj)), PSs (X.suite a pn) (b₀ :: suite) (ts a)) :
    PS X (.Try body [.ExceptHandler (some (.Name x np)) (some n) (b₀ :: suite) pos'] [] [] pos) (fun D σ H => tb (wKeep X.K c i ts Wout D) D σ H) := ⟨fun pins s σ H D I h => by
  have ok := I.ok; have hfr : X.A.frames = some (X.env :: X.outer) := (by rw [ok.frames, hs])
  have hloc : Loc X.env.scope n := .inl hln; refine wpAny_Try_except ?_
  refine wpAny_mono ((hb (wKeep X.K c i ts Wout D) (X.pn ++ pins) (fun e s₁ => wpAny (model X.prog X.w) X.A (noteFrame e X.env) (fun _ s₂ => wpAny (model X.prog X.w) X.A (setFlight e none) (fun _ s₃ => wpAny (model X.prog X.w) X.A (handleBy e X.env [.ExceptHandler (some (.Name x np)) (some n) (b₀ :: suite) pos']) (SP X pins D) X.xe s₃) X.xe s₂) X.xe s₁) (fun u s' xx => ?_) PassesOwn.looking).run [] s σ H D (I.toTry _) h) (fun f s1 hsp => ?_) (fun e s1 he => he)
  · obtain ⟨a, B, sI, pins', σ', H', cls, d, rfl, J', nb, up, sky, na, os, ag, b, hb1, hyes, hno⟩ := xx; have J : Inv X pins σ' H' sI := J'.ofTry ok
    have sky' : Sky B (X.env :: X.outer) a (Zc cls d) X.env.locals s'.heap := (by rw [← hs]; exact sky)
    show wpAny (model X.prog X.w) X.A (noteFrame (.ref a) X.env) _ _ _; refine Sky.land Zc.steady hfr hf sky' fun h3 fl3 up3 => ?_
    have J3 : Inv X pins σ' H' { s' with heap := h3 } := J.landed nb fl3.1 (up.trans up3) os ag; obtain ⟨oe3, vs3, he3, hz3, hd3⟩ := fl3.there
    have nfr : a ∉ frs (X.env :: X.outer) := fun hm => by
      obtain ⟨_, o', e', hnf⟩ := fl3.2.2.1.mem hm; rw [he3] at e'; cases e'; exact hnf _ hd3
    have nL : a ≠ X.env.locals := fun z => nfr (List.mem_filterMap.mpr ⟨X.env, List.mem_cons_self, by rw [hf, z]⟩); have nF : a ∉ X.fs := fun hm => (by
      obtain ⟨e, he, q⟩ := List.mem_filterMap.mp hm
      exact nfr (List.mem_filterMap.mpr ⟨e, List.mem_cons_of_mem _ he, q⟩))
    have nI : sI.heap.get? a = none := by
      cases q : sI.heap.get? a with
      | none => rfl
      | some o =>
        have z := nb a o q (by rw [hs]; exact nfr)
        rw [fl3.2.1] at z
        cases z
    have n0 : X.s_0.heap.get? a = none := by
      cases q : X.s_0.heap.get? a with
      | none => rfl
      | some o =>
        obtain ⟨o', z⟩ := J.base.there a o q (by rw [hex]; exact List.not_mem_nil)
        rw [nI] at z
        cases z
    have nC : ∀ y z, X.env.cells.lookup y = some z → z ≠ a := fun y z e q => by
      obtain ⟨v, o, eo, _⟩ := J.cell y z e
      rw [q, nI] at eo
      cases eo
    have nP : ∀ p ∈ X.pn ++ pins, p.1 ≠ a := fun p hp q => by
      have e := (J.pin p hp).1
      rw [q, nI] at e
      cases e
    have S3 := J3.suite he3 hd3 na nL nF; refine wpAny_handleBy_cons (codeAny_handlers_test ?_) (by intro q; cases q)
    have LT : PySem.W.Looks (model X.prog X.w) h3 (typeOf (.ref a)) cls := fun A Q E s k q => wpAny_typeOf_ref (k _ _ he3) (by rw [hz3.1]; exact q); have LM := PySem.W.exm_one (M := model X.prog X.w) (J3.kIn) LT hb1
    have test : ∀ {Q : Value → Shared → Prop} {E : Value → Shared → Prop}, Q c { s' with heap := h3 } → wpAny (model X.prog X.w) (X.A.mark (some (.ref a))) (eval (.Name x np) X.env) Q E { s' with heap := h3 } := fun {Q E} q => (by
      obtain ⟨hg, hdbg, hm | ⟨hm, hv, hnn⟩⟩ := hc
      · exact ld_glob (X := X.suite a ((a, oe3) :: (X.pn ++ pins))) S3 hg hm q hdbg
      · exact ld_blt (X := X.suite a ((a, oe3) :: (X.pn ++ pins))) S3 hg hm hv q hnn hdbg)
    refine test (LM.here ?_); cases b with
    | true =>
      refine codeAny_handlers_suite_as (HandSPX.lands_againZ fl3 fun h4 fl4 up4 => ?_)
      have J4 : Inv X pins σ' H' { s' with heap := h4 } := J.landed nb fl4.1 ((up.trans up3).trans up4) os ag; obtain ⟨oe4, vs4, he4, hz4, hd4⟩ := fl4.there
      have T4 : Inv X pins σ' (upd H' a (ExD cls d a)) { s' with heap := h4 } := track_ok J4 na n0 nL nC nP (exD_ok he4 hz4 hd4)
      have S4 : Inv (X.suite a (X.pn ++ pins)) [] σ' (upd H' a (ExD cls d a)) { s' with heap := h4 } := ⟨ok.suite _ _, T4.os, T4.bare, T4.base, T4.loc, T4.cell, T4.free, T4.freeC, fun p hp => T4.pin p (by rw [List.append_nil] at hp; exact hp), T4.hok, T4.len⟩
      refine store_ok (X := X.suite a (X.pn ++ pins)) (v := .ref a) S4 hN hi hloc rfl (fun s5 S5 => ?_) (.inr hln)
      refine wpAny_mono ((hsu a (X.pn ++ pins)).run [] s5 _ _ _ S5 (hyes rfl a na)) (fun f s6 hsp => ?_) (fun _ _ z => False.elim z)
      have back : ∀ {σ6 : L2.St} {H6 : Hp} {Q : Shared → Prop}, Inv (X.suite a (X.pn ++ pins)) [] σ6 H6 s6 → (∀ s7, Inv X pins (σ6.set i none) H6 s7 → Q s7) → wpAny (model X.prog X.w) X.A (do bindName X.env n .none; unbindBehindTheSuite X.env n pos') (fun _ s7 => Q s7) X.xe s6 := fun {σ6 H6 Q} S6 hq =>
        gone_ok (X := X) (pins := pins) ⟨ok, S6.os, S6.bare, S6.base, S6.loc, S6.cell, S6.free, S6.freeC, fun p hp => S6.pin p (List.mem_append_left _ hp), S6.hok, S6.len⟩ hN hi hln hq
      cases f with
      | ret u => obtain ⟨v6, σ6, H6, S6, r6, q6⟩ := hsp; exact back S6 fun s7 J7 => ⟨_, _, _, J7, r6, q6⟩
      | next => obtain ⟨σ6, H6, S6, q6⟩ := hsp; exact back S6 fun s7 J7 => ⟨_, _, J7, q6⟩
      | brk => obtain ⟨σ6, H6, S6, q6⟩ := hsp; exact back S6 fun s7 J7 => ⟨_, _, J7, q6⟩
      | cont => obtain ⟨σ6, H6, S6, q6⟩ := hsp; exact back S6 fun s7 J7 => ⟨_, _, J7, q6⟩
    | false =>
      show wpAny _ X.A (handleBy (.ref a) X.env []) _ _ _; refine wpAny_handleBy_nil ?_; obtain ⟨k1, k2, k3, oe, vs, T, oT, ts', he, hz, hd, h1, hr⟩ := id fl3
      unfold PySem.passOn; refine wpAny_bind (wpAny_field he hd h1 ?_); rw [if_neg (show ¬ ((Value.ref T == Value.none) = true) from by simp)]
      have fin : wpAny (model X.prog X.w) X.A (setFlight (.ref a) X.env.frame) (fun _ s4 => wpAny (model X.prog X.w) X.A (throw (.ref a) : Sem Flow) (SP X pins D) X.xe s4) X.xe { s' with heap := h3 } := (by
        rw [hf]; refine HandSPX.setFlight_upZ fl3 fun h4 hh4 up4 => wpAny_throw (tk _ _ ?_)
        exact ⟨a, B, sI, pins, σ', H', cls, d, rfl, J, nb, (up.trans up3).trans up4, .inr (.inr (by rw [hs]; exact hh4)), na, os, ag, hno rfl⟩)
      first | exact wpAny_bind (wpAny_pure (wpAny_bind fin)) | exact wpAny_bind fin
  · cases f with
    | ret u => obtain ⟨v, σ', H', J', r, q⟩ := hsp; exact ⟨v, σ', H', J'.ofTry ok, r, q⟩
    | next => obtain ⟨σ', H', J', q⟩ := hsp; exact wpAny_execs_nil ⟨σ', H', J'.ofTry ok, q⟩
    | brk => obtain ⟨σ', H', J', q⟩ := hsp; exact ⟨σ', H', J'.ofTry ok, q⟩
    | cont => obtain ⟨σ', H', J', q⟩ := hsp; exact ⟨σ', H', J'.ofTry ok, q⟩⟩
end
end Rd

set_option Elab.async false
set_option linter.all false
set_option maxRecDepth 100000
set_option maxHeartbeats 4000000
/-! the refusals' classes; isinstance of one that was caught; calls that may let one out -/
namespace Rd
open PySem PySem.Spec PyProof.Rows L2 Dt
theorem pe_gref {X : Cx} {x : Str} {a : Addr} {pos : Pos} (hg : Gl X x) (hm : X.mg x = some (.ref a)) (hd : (x == ("__debug__" : Str)) = false := by decide) : PE X (.Name x pos) (tC (.ref a)) := pe_glob hg hm rfl hd
def rIsD (K : PySem.W.Frag) : List V → Hp → VK → Prop := fun xs H Q => ∃ (a D : Addr) (c : V) (cv : Value) (b : Bool), xs = [.ref a, c] ∧ H a = some (ExD (.ref D) none a) ∧ ExcC K D ∧ ClsV c cv ∧ PySem.W.kitOne K (.ref D) cv = some b ∧ Q (.bl b) H
theorem call_isD {X : Cx} : CallR X (.builtin "isinstance") (rIsD X.K) := by
  intro pins s σ H xs us Q I r h
  obtain ⟨a, D, c, cv, b, rfl, ha, C, k, e, q⟩ := h
  obtain ⟨u1, u2, rfl, r1, r2⟩ := vals2 r
  have e2 := k.eq r2
  subst e2
  cases (show u1 = Value.ref a from r1)
  obtain ⟨⟨oe, vs, hget, hz, hd⟩, _, _⟩ := I.hok a _ ha
  have J : PySem.W.InstAt s.heap a oe D none := by
    obtain ⟨oc, od, oda, osl⟩ := oe
    obtain ⟨h1, h2⟩ := hz
    dsimp only at h1 h2 hd
    subst h1 h2 hd
    exact ⟨hget, rfl, rfl, trivial⟩
  exact PySem.W.kia_one (PySem.W.handS_kitx_exc C.hg C.hk C.hs C.hd C.ha C.hn C.ht C.hm) I.kIn J e (fun z => nomatch z) fun tk => ⟨.bl b, H, I.tok tk, rfl, q⟩
/-- the classes: the eleven refusals as _law_kinds names them, then the one above -/
structure ClsX (K : PySem.W.Frag) (mg : Str → Option Value) (C : Nat → Addr) : Prop where
  g_NoEnd : mg "NoEnd" = some (.ref (C 0))
  g_NoLog : mg "NoLog" = some (.ref (C 1))
  g_NoName : mg "NoName" = some (.ref (C 2))
  g_NoRow : mg "NoRow" = some (.ref (C 3))
  g_NoStep : mg "NoStep" = some (.ref (C 4))
  g_NoTable : mg "NoTable" = some (.ref (C 5))
  g_NoText : mg "NoText" = some (.ref (C 6))
  g_NoWish : mg "NoWish" = some (.ref (C 7))
  g_Spent : mg "Spent" = some (.ref (C 8))
  g_Told : mg "Told" = some (.ref (C 9))
  g_TooMany : mg "TooMany" = some (.ref (C 10))
  g_DrawError : mg "DrawError" = some (.ref (C 11))
  m_isinstance : mg "isinstance" = none
  m_ValueError : mg "ValueError" = none
  x : ∀ i, i < 12 → PySem.W.excIn K (C i) [.type "ValueError", .type "Exception", .type "BaseException", .type "object"] "ValueError.__new__" = true
  k : ∀ i, i < 12 → PySem.W.keepIn K (.ref (C i)) = true
  e : ∀ i, i < 12 → ExcC K (C i)
  kit : ∀ i, i < 12 → ∀ j, j < 11 → PySem.W.kitOne K (.ref (C i)) (.ref (C j)) = some (decide (i = j))
  kitV : ∀ i, i < 12 → PySem.W.kitOne K (.ref (C i)) (.type "ValueError") = some true
  ty : ∀ i, i < 12 → PySem.W.typeIn K (.ref (C i)) = some (.type "type")
  exm : ∀ i, i < 12 → PySem.W.exmOne K (.ref (C i)) (.ref (C 11)) = some true
theorem ClsX.raises {K : PySem.W.Frag} {mg : Str → Option Value} {C : Nat → Addr} (T : ClsX K mg C) {X : Cx} (hK : X.K = K) {i : Nat} (hi : i < 12) : Raises X (.ref (C i)) := raises_own (by rw [hK]; exact (T.e i hi).hs) (by rw [hK]; exact T.ty i hi)
/-- a def that may raise -/
def CalX (P : Program) (w : World) (K : PySem.W.Frag) (mg : Str → Option Value) (base : Heap) (k : Nat) (x : Str) (ps : List Str) (sp : Sp) : Prop :=
  ∃ (f : Addr) (fd : FuncData), FnOk P w K mg base (L2.CX P w) k f fd ps sp ∧ mg x = some (.ref f) ∧ PySem.W.keepIn K (.ref f) = true ∧ Binds K fd ps []
theorem pe_calX {X : Cx} {W : WX} {k : Nat} {x : Str} {ps : List Str} {sp : Sp} {p pos : Pos} {e : Expr} {es : List Expr} {t : TA} (C : CalX X.prog X.w X.K X.mg X.base k x ps sp) (hr : Room k X.A) (tk : Takes X W) (hg : Gl X x)
    (ha : PA X (e :: es) t) (hdb : (x == ("__debug__" : Str)) = false := by decide) (he : starEach (e :: es) X.env = (false, eval e X.env) :: starEach es X.env := by rfl) (hpl : (backTo pos (starEach es X.env)).any (·.1) = false := by rfl) : PE X (.Call (.Name x p) (e :: es) [] pos) (tCallS sp (WE W) t) := by
  obtain ⟨f, fd, F, hm, hk, hb⟩ := C
  exact pe_callS F hr hg hm hk hb (passAt tk) ha hdb he hpl
/-- of what _law_kinds tells -/
def kindsB (i : Nat) : List Bool := ((List.range 11).map fun j => decide (i = j)) ++ [true]
def spKnd (C : Nat → Addr) : Sp := fun vs H Q _ => ∃ (a : Addr) (i : Nat), vs = [.ref a] ∧ i < 12 ∧ H a = some (ExD (.ref (C i)) none a) ∧
  ∀ H' p, Same H H' → H p = none → H' p = some (.lst ((kindsB i).map V.bl)) → Q (.ref p) H'
end Rd

set_option Elab.async false
set_option linter.all false
set_option maxRecDepth 100000
set_option maxHeartbeats 4000000
/-! the refusals' classes, from one reckoning of the frozen part -/
namespace Rd
open PySem PySem.Spec PyProof.Rows L2 Dt
def okCX (K : PySem.W.Frag) (D T : Addr) : Bool :=
  PySem.W.excIn K D [.type "ValueError", .type "Exception", .type "BaseException", .type "object"] "ValueError.__new__" && PySem.W.keepIn K (.ref D) &&
  (PySem.W.findIn K (.ref D) "__getattribute__" == some (some (.builtin "BaseException.__getattribute__"))) && (PySem.W.findIn K (.ref D) "__getattr__" == some none) &&
  (PySem.W.subIn K (.ref D) (.type "BaseException") == some true) && PySem.W.hasDictIn K D && (PySem.W.findIn K (.ref D) "__class__" == some (some (.builtin "object.__class__"))) &&
  (PySem.W.mroIn K D (.type "object") == some true) && (PySem.W.typeIn K (.ref D) == some (.type "type")) && (PySem.W.exmOne K (.ref D) (.ref T) == some true)
def allOkX (K : PySem.W.Frag) (cs : List Addr) : Bool :=
  (List.range 12).all (fun i => okCX K (cs.getD i 0) (cs.getD 11 0)) && (PySem.W.specialIn K (.builtin "object.__class__") "__get__" == some (some (.builtin "getset_descriptor.__get__"))) && (PySem.W.takesIn K (.builtin "object.__class__") == some true) &&
  (List.range 12).all (fun i => (List.range 11).all fun j => PySem.W.kitOne K (.ref (cs.getD i 0)) (.ref (cs.getD j 0)) == some (decide (i = j))) &&
  (List.range 12).all (fun i => PySem.W.kitOne K (.ref (cs.getD i 0)) (.type "ValueError") == some true)
theorem clsX_of {K : PySem.W.Frag} {h : Heap} {mg : Str → Option Value} {q0 q1 q2 q3 q4 q5 q6 q7 q8 q9 q10 q11 : Addr} (X : K.In h) (G : h.Ns mainGlobals mg)
    (cl0 : PySem.W.nsIn K mainGlobals "NoEnd" = some (some (.ref q0)))
    (cl1 : PySem.W.nsIn K mainGlobals "NoLog" = some (some (.ref q1)))
    (cl2 : PySem.W.nsIn K mainGlobals "NoName" = some (some (.ref q2)))
    (cl3 : PySem.W.nsIn K mainGlobals "NoRow" = some (some (.ref q3)))
    (cl4 : PySem.W.nsIn K mainGlobals "NoStep" = some (some (.ref q4)))
    (cl5 : PySem.W.nsIn K mainGlobals "NoTable" = some (some (.ref q5)))
    (cl6 : PySem.W.nsIn K mainGlobals "NoText" = some (some (.ref q6)))
    (cl7 : PySem.W.nsIn K mainGlobals "NoWish" = some (some (.ref q7)))
    (cl8 : PySem.W.nsIn K mainGlobals "Spent" = some (some (.ref q8)))
    (cl9 : PySem.W.nsIn K mainGlobals "Told" = some (some (.ref q9)))
    (cl10 : PySem.W.nsIn K mainGlobals "TooMany" = some (some (.ref q10)))
    (cl11 : PySem.W.nsIn K mainGlobals "DrawError" = some (some (.ref q11)))
    (zi : mg "isinstance" = none) (zv : mg "ValueError" = none) (hA : allOkX K [q0, q1, q2, q3, q4, q5, q6, q7, q8, q9, q10, q11] = true) : ClsX K mg (fun i => [q0, q1, q2, q3, q4, q5, q6, q7, q8, q9, q10, q11].getD i 0) := by
  unfold allOkX at hA
  simp only [Bool.and_eq_true, List.all_eq_true, List.mem_range, beq_iff_eq] at hA
  obtain ⟨⟨⟨⟨h1, h2⟩, h3⟩, h4⟩, h5⟩ := hA
  have ho : ∀ i, i < 12 → _ := fun i hi => by
    have z := h1 i hi
    unfold okCX at z
    simp only [Bool.and_eq_true, beq_iff_eq] at z
    exact z
  exact { g_NoEnd := PySem.W.mg_of X G cl0, g_NoLog := PySem.W.mg_of X G cl1, g_NoName := PySem.W.mg_of X G cl2, g_NoRow := PySem.W.mg_of X G cl3, g_NoStep := PySem.W.mg_of X G cl4, g_NoTable := PySem.W.mg_of X G cl5, g_NoText := PySem.W.mg_of X G cl6, g_NoWish := PySem.W.mg_of X G cl7, g_Spent := PySem.W.mg_of X G cl8, g_Told := PySem.W.mg_of X G cl9, g_TooMany := PySem.W.mg_of X G cl10, g_DrawError := PySem.W.mg_of X G cl11, m_isinstance := zi, m_ValueError := zv, x := fun i hi => (ho i hi).1.1.1.1.1.1.1.1.1, k := fun i hi => (ho i hi).1.1.1.1.1.1.1.1.2, e := fun i hi => ⟨(ho i hi).1.1.1.1.1.1.1.2, (ho i hi).1.1.1.1.1.1.2, (ho i hi).1.1.1.1.1.2, (ho i hi).1.1.1.1.2, (ho i hi).1.1.1.2, h2, h3, (ho i hi).1.1.2⟩, kit := fun i hi j hj => h4 i hi j hj, kitV := fun i hi => h5 i hi, ty := fun i hi => (ho i hi).1.2, exm := fun i hi => (ho i hi).2 }
end Rd

set_option Elab.async false
set_option linter.all false
set_option maxRecDepth 100000
set_option maxHeartbeats 4000000
namespace Rd
open PySem PySem.Spec PyProof.Rows L2 Dt
def topS (i : Nat) : Stmt := PySem.Challenge.pw_redraw_k15_draws_told_back.main.body.getD i (.Pass ⟨0, 0, 0, 0⟩)
abbrev sTap : Stmt := topS 18
abbrev nTap : List Str := ["script", "start", "cell"]
theorem scTap : FnScope nTap ["script", "start"] (defScope sTap) := ⟨rfl, rfl, rfl, by decide +kernel, rfl, by decide +kernel, by decide +kernel⟩
abbrev sDig : Stmt := topS 19
abbrev nDig : List Str := ["tape", "many", "found", "more"]
theorem scDig : FnScope nDig ["tape", "many"] (defScope sDig) := ⟨rfl, rfl, rfl, by decide +kernel, rfl, by decide +kernel, by decide +kernel⟩
def spTap (K : PySem.W.Frag) : Sp := fun vs H Q _ => ∃ (a : Addr) (ns : List Int) (st : Int), vs = [.ref a, .int st] ∧ SqL K H a (ns.map V.int) ∧ ns.length ≤ 63 ∧ 0 ≤ st ∧ st ≤ 100 ∧
  ∀ H' tp, Same H H' → H tp = none → Tape H' tp → Q (.ref tp) H'
def spDig : Sp := fun vs H Q _ => ∃ (tp : Addr) (m : Int), vs = [.ref tp, .int m] ∧ Tape H tp ∧ 1 ≤ m ∧ m.natAbs.log2 < 9000 ∧
  ∀ H' d, Taped tp H H' → 0 ≤ d → d < m → Q (.int d) H'
structure TxtT (mg : Str → Option Value) : Prop where
  m_len : mg "len" = none
  m_abs : mg "abs" = none
theorem abs_nn (z : Int) : 0 ≤ (if z < 0 then -z else z) := by split <;> omega
section
variable {P : Program} {w : World} {K : PySem.W.Frag} {mg : Str → Option Value} {base : Heap}
theorem ok_tap {f : Addr} {fd : FuncData} {k : Nat} (F : Fun K "_law_tape" "_law_tape" sTap f fd) (T : TxtT mg) : FnOk P w K mg base CX0 (k + 1) f fd ["script", "start"] (spTap K) := by
  refine F.ok scTap (fun vs H Q E h => ?_) (fun cdv A outer s H vs Q E hr h => ?_)
  · obtain ⟨a, ns, st, rfl, _⟩ := h
    rfl
  · obtain ⟨a, ns, st, rfl, hS, hl, s0, s1, q⟩ := h
    refine ⟨_, (pss_cons (ps_set (i := 2) scTap.nd rfl (Or.inl rfl) pe_int)
  (C8.pss_cut (ps_if (pt_cmpR op_lt (pv 1) (pe_callB call_len_seq (by rfl) T.m_len (by decide +kernel) (pa_cons (pv 0) pa_nil)) (nomark _))
  (pss_one (ps_set (i := 2) scTap.nd rfl (Or.inl rfl) (pe_callB call_abs (by rfl) T.m_abs (by decide +kernel) (pa_cons (pe_ix ix_list (pv 0) (pv 1) (fun _ _ => rfl)) pa_nil)))) (pss_one (ps_if (pt_cmpR op_gt (pe_callB call_len_seq (by rfl) T.m_len (by decide +kernel) (pa_cons (pv 0) pa_nil)) pe_int (nomark _))
  (pss_one (ps_set (i := 2) scTap.nd rfl (Or.inl rfl) (pe_op op_add (pe_op op_mod (pe_callB call_abs (by rfl) T.m_abs (by decide +kernel) (pa_cons (pe_ix ix_list (pv 0) (pe_op op_mod (pv 1) (pe_callB call_len_seq (by rfl) T.m_len (by decide +kernel) (pa_cons (pv 0) pa_nil))) (fun _ _ => rfl)) pa_nil)) (pe_op op_pow pe_int pe_int)) (pe_op op_mul (pv 1) pe_int)))) pss_nil)))
  (pss_one (ps_ret (pe_lst (pa_cons (pv 2) (pa_cons (pe_op op_add (pe_op op_mod (pe_op op_add (pe_op op_mul (pv 1) pe_int) (pv 2)) pe_int) pe_int) pa_nil))))))), ?_⟩
    refine ⟨fun σ H' => H' = H ∧ ∃ c : Int, 0 ≤ c ∧ σ = [some (.ref a), some (.int st), some (.int c)], ?_, ?_⟩
    · refine ⟨.int st, rfl, .ref a, rfl, a, _, rfl, .inl hS, _, _, rfl, rfl, _, rfl, ite2 (fun e => ?_) (fun e => ?_)⟩
      · rw [List.length_map] at e
        have e1 : st < (ns.length : Int) := of_decide_eq_true e
        have hi : st.toNat < ns.length := by omega
        refine ⟨.ref a, rfl, .int st, rfl, a, _, st, _, rfl, rfl, hS, atI_of s0 (List.getElem?_eq_getElem hi), _, rfl, rfl, _, abs_nn _, rfl⟩
      · refine ⟨.ref a, rfl, a, _, rfl, .inl hS, _, _, rfl, rfl, _, rfl, ite2 (fun e2 => ?_) (fun e2 => ?_)⟩
        · rw [List.length_map] at e2
          have e3 : 0 < (ns.length : Int) := of_decide_eq_true e2
          have n0 := Int.emod_nonneg st (show (ns.length : Int) ≠ 0 by omega)
          have n1 := Int.emod_lt_of_pos st e3
          have hi : (st % (ns.length : Int)).toNat < ns.length := by omega
          refine ⟨.ref a, rfl, .int st, rfl, .ref a, rfl, a, _, rfl, .inl hS, _, _, rfl, rfl, (by rw [List.length_map]; exact e3), ?_⟩
          rw [List.length_map]
          refine ⟨a, _, _, _, rfl, rfl, hS, atI_of n0 (List.getElem?_eq_getElem hi), _, rfl, 10, 9, rfl, rfl, ⟨by decide, by decide, by decide⟩, _, _, rfl, rfl, (by show (0 : Int) < 10 ^ 9; decide), .int st, rfl, st, 1000003, rfl, rfl, .inl ⟨by omega, by omega⟩, _, _, rfl, rfl, rfl, _, ?_, rfl⟩
          have := Int.emod_nonneg (if ns[(st % (ns.length : Int)).toNat] < 0 then -ns[(st % (ns.length : Int)).toNat] else ns[(st % (ns.length : Int)).toNat]) (show (10 ^ (9 : Int).toNat : Int) ≠ 0 by decide)
          omega
        · exact ⟨rfl, 0, by decide, rfl⟩
    · rintro σ H1 ⟨rfl, c, c0, rfl⟩
      refine ⟨.int c, rfl, .int st, rfl, st, 7919, rfl, rfl, .inl ⟨by omega, by omega⟩, .int c, rfl, _, _, rfl, rfl, _, _, rfl, rfl, (by show (0 : Int) < 998244353; decide), _, _, rfl, rfl, (by show 2 ≤ sizeLine; decide), fun tp nt => ?_⟩
      have g1 := Int.emod_nonneg (st * 7919 + c) (by decide : (998244353 : Int) ≠ 0)
      have g2 := Int.emod_lt_of_pos (st * 7919 + c) (by decide : (0 : Int) < 998244353)
      exact q _ tp (same_upd nt) nt ⟨c, _, upd_same, c0, by omega, by omega⟩
theorem ok_dig {f : Addr} {fd : FuncData} {k : Nat} (F : Fun K "_law_digit" "_law_digit" sDig f fd) : FnOk P w K mg base CX0 (k + 1) f fd ["tape", "many"] spDig := by
  refine F.ok scDig (fun vs H Q E h => ?_) (fun cdv A outer s H vs Q E hr h => ?_)
  · obtain ⟨tp, m, rfl, _⟩ := h
    rfl
  · obtain ⟨tp, m, rfl, hT, m1, hlog, q⟩ := h
    obtain ⟨b, c, h1, b0, c0, c1⟩ := id hT
    refine ⟨_, (pss_cons (ps_if (pt_cmpR op_gt (pe_ix ix_list (pv 0) pe_int (fun _ _ => rfl)) pe_int (nomark _))
  (pss_cons (ps_set (i := 2) scDig.nd rfl (Or.inl rfl) (pe_op op_mod (pe_ix ix_list (pv 0) pe_int (fun _ _ => rfl)) (pv 1)))
  (pss_cons (ps_asg (pe_op op_fdivW (pe_ix ix_list (pv 0) pe_int (fun _ _ => rfl)) (pv 1)) (pg_sub (pv 0) pe_int set_list))
  (pss_one (ps_ret (pv 2))))) pss_nil)
  (pss_cons (ps_asg (pe_op op_mod (pe_op op_add (pe_op op_mul (pe_ix ix_list (pv 0) pe_int (fun _ _ => rfl)) pe_int) pe_int) pe_int) (pg_sub (pv 0) pe_int set_list))
  (pss_cons (ps_set (i := 3) scDig.nd rfl (Or.inl rfl) (pe_op op_mod (pe_op op_mul (pe_ix ix_list (pv 0) pe_int (fun _ _ => rfl)) pe_int) pe_int))
  (pss_one (ps_ret (pe_op op_mod (pe_op op_add (pe_op op_mul (pe_op op_mod (pe_op op_mul (pe_ix ix_list (pv 0) pe_int (fun _ _ => rfl)) (pe_ix ix_list (pv 0) pe_int (fun _ _ => rfl))) pe_int) pe_int) (pv 3)) (pv 1))))))), ?_⟩
    have q2 : ∀ (b' c' d : Int), 0 ≤ b' → 0 ≤ c' → c' ≤ 2147483647 → 0 ≤ d → d < m → Q (.int d) (upd H tp (.lst [.int b', .int c'])) := fun b' c' d x1 x2 x3 x4 x5 =>
      q _ _ ⟨fun a o n e => by rw [upd_ne n]; exact e, b', c', upd_same, x1, x2, x3⟩ x4 x5
    refine ⟨.ref tp, rfl, tp, _, 0, _, rfl, rfl, .inl (.inl h1), rfl, b, 0, rfl, rfl, _, rfl, ite2 (fun e => ?_) (fun e => ?_)⟩
    · refine ⟨.ref tp, rfl, tp, _, 0, _, rfl, rfl, .inl (.inl h1), rfl, .int m, rfl, b, m, rfl, rfl, (by show 0 < m; omega), ?_⟩
      refine ⟨.ref tp, rfl, tp, _, 0, _, rfl, rfl, .inl (.inl h1), rfl, .int m, rfl, b, m, rfl, rfl, ⟨by omega, hlog⟩, .ref tp, rfl, tp, _, 0, 0, rfl, rfl, h1, rfl, ?_⟩
      exact ⟨.int (b % m), rfl, q2 (b / m) c _ (Int.ediv_nonneg b0 (by omega)) c0 c1 (Int.emod_nonneg _ (by omega)) (Int.emod_lt_of_pos _ (by omega))⟩
    · refine ⟨.ref tp, rfl, tp, _, 1, _, rfl, rfl, .inl (.inl h1), rfl, c, 48271, rfl, rfl, .inl ⟨by omega, by omega⟩, _, _, rfl, rfl, _, _, rfl, rfl, (by show (0 : Int) < 2147483647; decide), .ref tp, rfl, tp, _, 1, 1, rfl, rfl, h1, rfl, ?_⟩
      have n1 := Int.emod_nonneg (c * 48271 + 11) (by decide : (2147483647 : Int) ≠ 0)
      have n2 := Int.emod_lt_of_pos (c * 48271 + 11) (by decide : (0 : Int) < 2147483647)
      generalize ec : (c * 48271 + 11) % 2147483647 = c' at n1 n2
      refine ⟨.ref tp, rfl, tp, _, 1, _, rfl, rfl, .inl (.inl upd_same), rfl, c', 40692, by rw [← ec], rfl, .inl ⟨by omega, by omega⟩, _, _, rfl, rfl, (by show (0 : Int) < 2147483399; decide), ?_⟩
      have k1 := Int.emod_nonneg (c' * c') (by decide : (2147483629 : Int) ≠ 0)
      have k2 := Int.emod_lt_of_pos (c' * c') (by decide : (0 : Int) < 2147483629)
      refine ⟨.ref tp, rfl, tp, _, 1, _, rfl, rfl, .inl (.inl upd_same), rfl, .ref tp, rfl, tp, _, 1, _, rfl, rfl, .inl (.inl upd_same), rfl, c', c', by rw [← ec], by rw [← ec], .inl ⟨by omega, by omega⟩, _, _, rfl, rfl, (by show (0 : Int) < 2147483629; decide), _, 2147483399, rfl, rfl, .inl ⟨by omega, by omega⟩, _, rfl, _, _, rfl, rfl, .int m, rfl, _, m, rfl, rfl, (by show 0 < m; omega), ?_⟩
      have z := q2 b c' ((c' * c' % 2147483629 * 2147483399 + c' * 40692 % 2147483399) % m) b0 n1 (by omega) (Int.emod_nonneg _ (by omega)) (Int.emod_lt_of_pos _ (by omega))
      rw [← ec] at z ⊢
      exact z
end
end Rd

set_option Elab.async false
set_option linter.all false
set_option maxRecDepth 100000
set_option maxHeartbeats 4000000
namespace Rd
open PySem PySem.Spec PyProof.Rows L2 Dt
abbrev sWis : Stmt := topS 20
abbrev nWis : List Str := ["tape", "many", "hues", "most", "size", "left", "places", "every", "place", "longer", "row", "count", "rows", "k", "hue"]
theorem scWis : FnScope nWis ["tape", "many", "hues", "most"] (defScope sWis) := ⟨rfl, rfl, rfl, by decide +kernel, rfl, by decide +kernel, by decide +kernel⟩
def spWis : Sp := fun vs H Q _ => ∃ (tp : Addr) (many hues most : Int), vs = [.ref tp, .int many, .int hues, .int most] ∧ Tape H tp ∧ 1 ≤ many ∧ many ≤ 6 ∧ 2 ≤ hues ∧ hues ≤ 4 ∧ 1 ≤ most ∧ most ≤ 100 ∧
  ∀ H' wa wd, Taped tp H H' → IsWish H' wa wd → Good many hues wd → Neat wd → Q (.ref wa) H'
structure TxtW (P : Program) (w : World) (K : PySem.W.Frag) (mg : Str → Option Value) (base : Heap) : Prop where
  m_range : mg "range" = none
  m_list : mg "list" = none
  m_min : mg "min" = none
  m_len : mg "len" = none
  m_sorted : mg "sorted" = none
  m_tuple : mg "tuple" = none
  c__law_digit : Cal P w K mg base 1 "_law_digit" ["tape", "many"] spDig
theorem pow64 {h s : Nat} (h4 : h ≤ 4) (s3 : s ≤ 3) : h ^ s ≤ 64 := Nat.le_trans (Nat.pow_le_pow_left h4 s) (Nat.le_trans (Nat.pow_le_pow_right (by decide) s3) (by decide))
section
variable {P : Program} {w : World} {K : PySem.W.Frag} {mg : Str → Option Value} {base : Heap}
set_option maxHeartbeats 16000000 in
theorem ok_wis {f : Addr} {fd : FuncData} {k : Nat} (F : Fun K "_law_wish" "_law_wish" sWis f fd) (T : TxtW P w K mg base) : FnOk P w K mg base CX0 (k + 2) f fd ["tape", "many", "hues", "most"] spWis := by
  refine F.ok scWis (fun vs H Q E h => ?_) (fun cdv A outer s H vs Q E hr h => ?_)
  · obtain ⟨tp, many, hues, most, rfl, _⟩ := h
    rfl
  · obtain ⟨tp, many, hues, most, rfl, hT, m1, m6, h2, h4, o1, o100, q⟩ := h
    refine ⟨_, (pss_cons (ps_set (i := 4) scWis.nd rfl (Or.inl rfl) (pe_callB (call_min2 rfl) (by rfl) T.m_min (by decide +kernel) (pa_cons (pv 1) (pa_cons (pe_op op_add pe_int (pe_cal T.c__law_digit (hr.mono (by omega)) (by rfl) (pa_cons (pv 0) (pa_cons pe_int pa_nil)))) pa_nil))))
  (pss_cons (ps_set (i := 5) scWis.nd rfl (Or.inr rfl) (pe_listRg rfl (by rfl) T.m_list (prg_1 (by rfl) T.m_range (pv 1))))
  (pss_cons (ps_set (i := 6) scWis.nd rfl (Or.inl rfl) (pe_callB cr_sorted (by rfl) T.m_sorted (by decide +kernel) (pa_cons (pe_lc (te := tBM K "list" rPopAt (tVar 5) (tCons (tCall spDig [] E0 (tCons (tVar 0) (tCons (tCB (rLen K) (tCons (tVar 5) tNil)) tNil))) tNil)) (own := [("k", 13)]) rfl scWis.nd  (pi_range1 (by rfl) T.m_range (pa_cons (pv 4) pa_nil)) (blkOk_by (own := [("k", 13)]) (N := nWis) (sc := defScope sWis) (by decide +kernel))
   (fun _ _ _ _ _ => (pg_name (i := 13) scWis.nd rfl (Or.inl rfl))) (fun _ _ _ _ _ => pts_nil) (fun _ _ _ _ _ => (pe_bm PySem.F.plainAttrs_list PySem.F.slot_list_pop PySem.F.type_list_pop mt_popAt (pv 5) (pa_cons (pe_cal T.c__law_digit (hr.mono (by omega)) (by rfl) (pa_cons (pv 0) (pa_cons (pe_callB call_len_seq (by rfl) T.m_len (by decide +kernel) (pa_cons (pv 5) pa_nil)) pa_nil))) pa_nil)))) pa_nil)))
  (pss_cons (ps_set (i := 7) scWis.nd rfl (Or.inr rfl) (pe_lst (pa_cons (pe_tup pa_nil) pa_nil)))
  (pss_cons (ps_for PassesOwn.never rfl (pi_list (pv 6)) (pg_name (i := 8) scWis.nd rfl (Or.inl rfl))
  (pss_cons (ps_set (i := 9) scWis.nd rfl (Or.inl rfl) (pe_lst pa_nil))
  (pss_cons (ps_for PassesOwn.never rfl (pi_list (pv 7)) (pg_name (i := 10) scWis.nd rfl (Or.inr rfl))
  (pss_one (ps_expr (pe_bm PySem.F.plainAttrs_list PySem.F.slot_list_extend PySem.F.type_list_extend mt_extend (pv 9) (pa_cons (pe_lc (te := tOp (rCatA K) (tVar 10) (tTup (tCons (tVar 14) tNil))) (own := [("hue", 14)]) rfl scWis.nd  (pi_range1 (by rfl) T.m_range (pa_cons (pv 2) pa_nil)) (blkOk_by (own := [("hue", 14)]) (N := nWis) (sc := defScope sWis) (by decide +kernel))
   (fun _ _ _ _ _ => (pg_name (i := 14) scWis.nd rfl (Or.inl rfl))) (fun _ _ _ _ _ => pts_nil) (fun _ _ _ _ _ => (pe_op op_catA (pv 10) (pe_tup (pa_cons (pv 14) pa_nil))))) pa_nil)))))
  (pss_one (ps_set (i := 7) scWis.nd rfl (Or.inr rfl) (pv 9))))))
  (pss_cons (ps_set (i := 11) scWis.nd rfl (Or.inl rfl) (pe_callB (call_min2 rfl) (by rfl) T.m_min (by decide +kernel) (pa_cons (pe_callB call_len_seq (by rfl) T.m_len (by decide +kernel) (pa_cons (pv 7) pa_nil)) (pa_cons (pe_op op_add pe_int (pe_cal T.c__law_digit (hr.mono (by omega)) (by rfl) (pa_cons (pv 0) (pa_cons (pv 3) pa_nil)))) pa_nil))))
  (C8.pss_cut (ps_if (pt_cmpR op_eq (pe_cal T.c__law_digit (hr.mono (by omega)) (by rfl) (pa_cons (pv 0) (pa_cons pe_int pa_nil))) pe_int (nomark _))
  (pss_one (ps_set (i := 11) scWis.nd rfl (Or.inl rfl) (pe_op op_add pe_int (pe_cal T.c__law_digit (hr.mono (by omega)) (by rfl) (pa_cons (pv 0) (pa_cons (pe_callB call_len_seq (by rfl) T.m_len (by decide +kernel) (pa_cons (pv 7) pa_nil)) pa_nil)))))) pss_nil)
  (pss_cons (ps_setLc (i := 12) (te := tBM K "list" rPopAt (tVar 7) (tCons (tCall spDig [] E0 (tCons (tVar 0) (tCons (tCB (rLen K) (tCons (tVar 7) tNil)) tNil))) tNil)) (own := [("k", 13)]) rfl scWis.nd rfl rfl (sw_true rfl rfl rfl (by decide +kernel)) (pi_range1 (by rfl) T.m_range (pa_cons (pv 11) pa_nil)) (blkOk_by (own := [("k", 13)]) (N := nWis) (sc := defScope sWis) (by decide +kernel))
   (fun _ _ _ _ _ => (pg_name (i := 13) scWis.nd rfl (Or.inl rfl))) (fun _ _ _ _ _ => pts_nil) (fun _ _ _ _ _ => (pe_bm PySem.F.plainAttrs_list PySem.F.slot_list_pop PySem.F.type_list_pop mt_popAt (pv 7) (pa_cons (pe_cal T.c__law_digit (hr.mono (by omega)) (by rfl) (pa_cons (pv 0) (pa_cons (pe_callB call_len_seq (by rfl) T.m_len (by decide +kernel) (pa_cons (pv 7) pa_nil)) pa_nil))) pa_nil))))
  (pss_one (ps_ret (pe_tup (pa_cons (pe_callTy call_tupF (by rfl) T.m_tuple (by decide +kernel) (pa_cons (pv 6) pa_nil)) (pa_cons (pe_callTy call_tuple_of (by rfl) T.m_tuple (by decide +kernel) (pa_cons (pe_callB Tt.cr_sortedT (by rfl) T.m_sorted (by decide +kernel) (pa_cons (pv 12) pa_nil)) pa_nil)) pa_nil))))))))))))), ?_⟩
    -- size
    refine ⟨.int many, rfl, .ref tp, rfl, tp, 3, rfl, hT, by decide, by decide, fun H1 sz D1 z0 z1 => ⟨1, sz, rfl, rfl, many, 1 + sz, rfl, ?_⟩⟩
    obtain ⟨u1, u3, um⟩ : 1 ≤ (if 1 + sz < many then 1 + sz else many) ∧ (if 1 + sz < many then 1 + sz else many) ≤ 3 ∧ (if 1 + sz < many then 1 + sz else many) ≤ many := by split <;> omega
    generalize (if 1 + sz < many then 1 + sz else many) = size at u1 u3 um
    -- left
    refine ⟨.int many, rfl, many, rfl, ⟨by omega, by omega, by omega, by omega, by omega⟩, fun l nl => ?_⟩
    have nlt := D1.2.new nl
    have nl0 : H l = none := D1.free nl
    have E3 := D1.put (o := .lst (rgV 0 many)) nl0 nlt
    have hl3 : upd H1 l (.lst (rgV 0 many)) l = some (.lst (rgV 0 many)) := upd_same
    generalize upd H1 l (.lst (rgV 0 many)) = H3 at E3 hl3
    -- places
    refine ⟨.int size, rfl, size, rfl, by omega, by omega, fun D nD => ?_⟩
    have nDt := E3.2.new nD
    have nD0 : H D = none := E3.free nD
    have nlD : l ≠ D := ne_of_none hl3 nD
    refine lc_range (lo := 0) (n := size.toNat) (fun i H5 => ∃ acc ls, Pops V.int tp H l D (rngI many) i H5 acc ls) ⟨[], rngI many, E3.put nD0 nDt, ?_, upd_same, rfl, by simp, List.Perm.refl _⟩ (fun i H5 hi p => ?_) (fun H5 p => ?_)
    · rw [upd_ne nlD, hl3, rgV_eq]
    · obtain ⟨acc, ls, p⟩ := p
      have ll := p.ll
      have rl := rngI_len many
      refine ⟨rfl, yes_if ?_⟩
      refine ⟨.ref l, rfl, .inl ⟨rfl, _, .inl (.inl p.hL)⟩, .ref tp, rfl, .ref l, rfl, l, _, rfl, .inl (.inl (.inl p.hL)), tp, _, rfl, p.fr.2, by rw [List.length_map]; omega, by rw [List.length_map]; exact log_small (by omega) (by omega), fun H6 d D6 d0 d1 => ?_⟩
      rw [List.length_map] at d1
      obtain ⟨y, y1, y2, y3, acc', y4, y5, acc2, ls2, y6⟩ := pop_step nl0 nlt nD0 nDt nlD (by omega) p D6 d0 d1
      exact ⟨l, ls.map V.int, d, d.toNat, y, rfl, rfl, y2, by omega, by omega, y3, y1, acc', y4, y5, acc2, ls2, y6⟩
    · obtain ⟨acc, ls, ⟨E5, hL, hD, la, ll, pm⟩⟩ := p
      refine ⟨D, acc, rfl, .inl (.inl hD), by omega, fun ps lp perm rising nlp => ?_⟩
      have anod : acc.Nodup := (List.nodup_append.mp (pm.nodup_iff.mpr (rngI_nodup many))).1
      have psn : ps.Nodup := perm.nodup_iff.mpr anod
      have accb : ∀ z ∈ acc, 0 ≤ z ∧ z < many := fun z hz => rngI_mem (pm.mem_iff.mp (List.mem_append_left _ hz))
      have psb : ∀ z ∈ ps, 0 ≤ z ∧ z < many := fun z hz => accb z (perm.mem_iff.mp hz)
      have psl : ps.length = size.toNat := by rw [perm.length_eq, la]
      have prise := rise_of rising psn
      have nlpt := E5.2.new nlp
      have nlp0 : H lp = none := E5.free nlp
      have E6 := E5.put (o := .lst (ps.map V.int)) nlp0 nlpt
      have hp6 : upd H5 lp (.lst (ps.map V.int)) lp = some (.lst (ps.map V.int)) := upd_same
      generalize upd H5 lp (.lst (ps.map V.int)) = H6 at E6 hp6
      clear hL hD la ll pm accb perm nD nDt nD0 nlD hl3
      -- every
      refine ⟨(by show 0 ≤ sizeLine; decide), fun t nt => ⟨(by show 1 ≤ sizeLine; decide), fun l1 nl1 => ?_⟩⟩
      have st := same_upd (o := .tup []) nt
      have sl := same_upd (o := .lst [.ref t]) nl1
      have hn6 : ∀ b, H6 b = none → H b = none := fun b e => E6.free e
      refine ⟨.ref lp, rfl, lp, rfl, ⟨_, .inl (.inl ((st.trans sl) _ _ hp6))⟩, for_list (K := K) (a := lp) (xs := ps.map V.int) (fun i σ H3 => Same H6 H3 ∧ ∃ l0, H6 l0 = none ∧ IsFills H3 l0 (fillL hues.toNat i) ∧ ∃ y8 y9 y10, σ = [some (.ref tp), some (.int many), some (.int hues), some (.int most), some (.int size), some (.ref l), some (.ref lp), some (.ref l0), y8, y9, y10, none, none, none, none]) ⟨st.trans sl, l1, st.free nl1, ⟨[t], upd_same, .cons (sl _ _ upd_same) .nil⟩, none, none, none, rfl⟩ (fun i σ H3 _ p => .inl (.inl (p.1 _ _ hp6))) (fun i x σ H3 hx p => ?_) (fun σ H3 p => ?_)⟩
      · obtain ⟨sm, l0, nl0', ⟨as, hl, pr⟩, y8, y9, y10, rfl⟩ := p
        have hi : i < ps.length := by
          have := (List.getElem?_eq_some_iff.mp hx).1
          rw [List.length_map] at this
          exact this
        have flen := fill_len hues.toNat i
        have p4 : hues.toNat ^ i ≤ 4096 := pow_le_4096 (by omega) (by omega)
        have alen := pairedLen pr
        refine ⟨(by show 0 ≤ sizeLine; decide), fun L nL => ?_⟩
        have nLH : H6 L = none := sm.free nL
        refine ⟨.ref l0, rfl, l0, rfl, ⟨_, .inl (.inl (same_upd nL _ _ hl))⟩, for_list (K := K) (a := l0) (xs := as.map V.ref) (fun i2 σ H5 => Same H3 H5 ∧ IsFills H5 L (((fillL hues.toNat i).take i2).flatMap (longer hues.toNat)) ∧ ∃ y8 y10, σ = [some (.ref tp), some (.int many), some (.int hues), some (.int most), some (.int size), some (.ref l), some (.ref lp), some (.ref l0), y8, some (.ref L), y10, none, none, none, none]) ⟨same_upd nL, ⟨[], upd_same, .nil⟩, _, _, rfl⟩ (fun i2 σ H5 _ pp => .inl (.inl (pp.1 _ _ hl))) (fun i2 x σ H5 hx pp => ?_) (fun σ H5 pp => ?_)⟩
        · obtain ⟨a, ea, rfl⟩ := map_get hx
          obtain ⟨fl, hfl, isr⟩ := pairedGetL pr ea
          obtain ⟨s5, ⟨bs, hL, pb⟩, z2, z4, rfl⟩ := pp
          have blen := pairedLen pb
          refine ⟨.ref L, rfl, .inl ⟨rfl, _, .inl (.inl hL)⟩, .int hues, rfl, hues, rfl, by omega, by omega, fun D nD => lc_range (lo := 0) (n := hues.toNat) (fun j H6 => Same H5 H6 ∧ IsFills H6 D ((longer hues.toNat fl).take j)) ⟨same_upd nD, [], upd_same, .nil⟩ (fun j H6 hj pp => ?_) (fun H6 pp => ?_)⟩
          · obtain ⟨s6, cs, hb, pc⟩ := pp
            have clen := pairedLen pc
            have fin : ∀ (H7 : Hp) (r : Addr), Same H6 H7 → H7 r = some (.tup ((fl ++ [(j : Int)]).map V.int)) → ∃ acc, H7 D = some (.lst acc) ∧ acc.length < sizeLine ∧ (Same H5 (upd H7 D (.lst (acc ++ [.ref r]))) ∧ IsFills (upd H7 D (.lst (acc ++ [.ref r]))) D ((longer hues.toNat fl).take (j + 1))) := fun H7 r s7 hr7 => by
              have hD7 := s7 _ _ hb
              have tu : Tups H7 (upd H7 D (.lst (cs.map V.ref ++ [.ref r]))) := tups_lst hD7
              refine ⟨_, hD7, ?_, fun b o e => ?_, cs ++ [r], ?_, ?_⟩
              · rw [List.length_map, clen, List.length_take, longer_len]
                exact small1000 (by omega)
              · rw [upd_ne (ne_of_none e nD)]
                exact s7 _ _ (s6 b o e)
              · rw [upd_same, List.map_append]
                rfl
              · rw [take_snoc (longer_at fl hj)]
                exact pairedSnoc (pairedMap (fun _ _ e => tu _ _ (s7 _ _ e)) pc) (tu _ _ hr7)
            refine ⟨rfl, yes_if ?_⟩
            refine ⟨.ref a, rfl, .int (0 + (j : Int)), rfl, (by show 1 ≤ sizeLine; decide), fun t nt => ?_⟩
            have sT := same_upd (o := .tup [.int (0 + (j : Int))]) nt
            have ha : upd H6 t (.tup [.int (0 + (j : Int))]) a = some (.tup (fl.map V.int)) := sT _ _ (s6 _ _ (s5 _ _ isr))
            have e0 : (0 : Int) + (j : Int) = j := Int.zero_add _
            have flen2 := (fill_good (List.mem_of_getElem? hfl)).1
            refine ⟨a, t, _, _, rfl, rfl, .inl (.inl ha), .inl (.inl upd_same), ?_, fun z => ?_, (fun _ z => nomatch z), fun z _ p np => ?_⟩
            · rw [List.length_map, flen2]
              exact Nat.le_of_lt (small1000 (by show i + 1 ≤ 1000; omega))
            · have z2 : fl = [] := List.map_eq_nil_iff.mp z
              refine fin _ t sT ?_
              rw [upd_same, z2, e0]
              rfl
            · have sp := same_upd (o := .tup (fl.map V.int ++ [.int (0 + (j : Int))])) np
              refine fin _ p (sT.trans sp) ?_
              rw [upd_same, e0, List.map_append]
              rfl
          · obtain ⟨s6, cs, hb, pc⟩ := pp
            rw [List.take_of_length_le (by rw [longer_len]; exact Nat.le_refl _)] at pc
            have hL6 := s6 _ _ hL
            have clen := pairedLen pc
            have tu : Tups H6 (upd H6 L (.lst (bs.map V.ref ++ cs.map V.ref))) := tups_lst hL6
            refine ⟨L, D, _, _, rfl, rfl, hL6, hb, ?_, fun b o e => ?_, ⟨bs ++ cs, ?_, ?_⟩, _, _, rfl⟩
            · rw [List.length_map, List.length_map, blen, clen, flat_len, List.length_take, longer_len, flen]
              have : min i2 (hues.toNat ^ i) * hues.toNat ≤ 4096 * 4 := Nat.mul_le_mul (by omega) (by omega)
              exact Nat.le_trans (show _ ≤ 20000 by omega) (by decide)
            · rw [upd_ne (ne_of_none e nL)]
              exact s6 _ _ (s5 b o e)
            · rw [upd_same, List.map_append]
            · rw [take_snoc hfl, List.flatMap_append]
              refine pairedApp (pairedMap (fun _ _ e => tu _ _ (s6 _ _ e)) pb) ?_
              have e : [fl].flatMap (longer hues.toNat) = longer hues.toNat fl := by simp
              rw [e]
              exact pairedMap (fun _ _ e => tu _ _ e) pc
        · obtain ⟨s5, fs5, z2, z4, rfl⟩ := pp
          refine ⟨.ref L, rfl, sm.trans s5, L, nLH, ?_, _, _, _, rfl⟩
          rw [List.length_map, alen, List.take_length] at fs5
          exact fs5
      · obtain ⟨sm, le, nle6, ⟨as, hle, pr⟩, y8, y9, y10, rfl⟩ := p
        rw [List.length_map, psl] at pr
        have E7 := E6.same sm
        have hp7 := sm _ _ hp6
        have nle0 := hn6 _ nle6
        have nlet : le ≠ tp := E6.2.new nle6
        have nlpe : lp ≠ le := ne_of_none hp6 nle6
        obtain ⟨zs0, ez1, ez2, hzs⟩ := pairedZip pr
        have zlen : zs0.length = hues.toNat ^ size.toNat := by
          have := congrArg List.length ez2
          rw [List.length_map, fill_len] at this
          exact this
        have z64 : zs0.length ≤ 64 := by rw [zlen]; exact pow64 (by omega) (by omega)
        have z1p : 1 ≤ zs0.length := by rw [zlen]; exact Nat.pow_pos (by omega)
        have asl : as.length = zs0.length := by rw [← ez1, List.length_map]
        -- count
        refine ⟨.ref le, rfl, le, _, rfl, .inl (.inl (.inl hle)), .ref tp, rfl, .int most, rfl, tp, most, rfl, E7.2, o1, log_small (by omega) (by omega), fun H8 ct D8 c0 c1 => ⟨1, ct, rfl, rfl, _, 1 + ct, rfl, ?_⟩⟩
        rw [List.length_map, asl]
        obtain ⟨v1, v2⟩ : 1 ≤ (if 1 + ct < (zs0.length : Int) then 1 + ct else (zs0.length : Int)) ∧ (if 1 + ct < (zs0.length : Int) then 1 + ct else (zs0.length : Int)) ≤ zs0.length := by split <;> omega
        generalize (if 1 + ct < (zs0.length : Int) then 1 + ct else (zs0.length : Int)) = cnt0 at v1 v2
        have E8 := E7.trans D8
        have hle8 := D8.1 le _ nlet hle
        have hp8 := D8.1 lp _ nlpt hp7
        have tu8 : Tups H3 H8 := D8.tups E7.2
        refine ⟨fun σ Hc => Taped tp H Hc ∧ Hc le = some (.lst (as.map V.ref)) ∧ Hc lp = some (.lst (ps.map V.int)) ∧ Tups H3 Hc ∧ ∃ cnt, 1 ≤ cnt ∧ cnt ≤ (zs0.length : Int) ∧ ∃ y8 y9 y10, σ = [some (.ref tp), some (.int many), some (.int hues), some (.int most), some (.int size), some (.ref l), some (.ref lp), some (.ref le), y8, y9, y10, some (.int cnt), none, none, none], ?_, ?_⟩
        · refine ⟨.ref tp, rfl, tp, 12, rfl, E8.2, by decide, by decide, fun H9 d D9 d0 d1 => ⟨rfl, _, rfl, ite2 (fun _ => ?_) (fun _ => ?_)⟩⟩
          · have E9 := E8.trans D9
            have hle9 := D9.1 le _ nlet hle8
            refine ⟨.ref tp, rfl, .ref le, rfl, le, _, rfl, .inl (.inl (.inl hle9)), tp, _, rfl, E9.2, by rw [List.length_map]; omega, by rw [List.length_map]; exact log_small (by omega) (by omega), fun H10 d2 D10 e0 e1 => ⟨1, d2, rfl, rfl, ?_⟩⟩
            rw [List.length_map] at e1
            exact ⟨E9.trans D10, D10.1 le _ nlet hle9, D10.1 lp _ nlpt (D9.1 lp _ nlpt hp8), tu8.trans ((D9.tups E8.2).trans (D10.tups E9.2)), 1 + d2, by omega, by omega, _, _, _, rfl⟩
          · exact ⟨E8.trans D9, D9.1 le _ nlet hle8, D9.1 lp _ nlpt hp8, tu8.trans (D9.tups E8.2), cnt0, v1, v2, _, _, _, rfl⟩
        · rintro σ Hc ⟨Ec, hlec, hpc, tuc, cnt, n1, n2, w8, w9, w10, rfl⟩
          -- rows
          refine ⟨.int cnt, rfl, cnt, rfl, by omega, by omega, fun D nD => ?_⟩
          have nDt := Ec.2.new nD
          have nD0 : H D = none := Ec.free nD
          have nlD : le ≠ D := ne_of_none hlec nD
          refine lc_range (lo := 0) (n := cnt.toNat) (fun i H5 => (∃ acc ls, Pops (fun z : Addr × List Int => V.ref z.1) tp H le D zs0 i H5 acc ls) ∧ Tups H3 H5 ∧ H5 lp = some (.lst (ps.map V.int))) ⟨⟨[], zs0, Ec.put nD0 nDt, ?_, upd_same, rfl, by simp, List.Perm.refl _⟩, tuc.trans (tups_same (same_upd nD)), same_upd nD _ _ hpc⟩ (fun i H5 hi p => ?_) (fun H5 p => ?_)
          · rw [upd_ne nlD, hlec, ← ez1, List.map_map]
            rfl
          · obtain ⟨⟨acc, ls, p⟩, tu5, hp5⟩ := p
            have ll := p.ll
            refine ⟨rfl, yes_if ?_⟩
            refine ⟨.ref le, rfl, .inl ⟨rfl, _, .inl (.inl p.hL)⟩, .ref tp, rfl, .ref le, rfl, le, _, rfl, .inl (.inl (.inl p.hL)), tp, _, rfl, p.fr.2, by rw [List.length_map]; omega, by rw [List.length_map]; exact log_small (by omega) (by omega), fun H6' d D6 d0 d1 => ?_⟩
            rw [List.length_map] at d1
            obtain ⟨y, y1, y2, y3, acc', y4, y5, acc2, ls2, y6⟩ := pop_step nle0 nlet nD0 nDt nlD (by omega) p D6 d0 d1
            have nlpD : lp ≠ D := ne_of_none hpc nD
            have hD6 := y4
            refine ⟨le, ls.map _, d, d.toNat, y, rfl, rfl, y2, by omega, by omega, y3, y1, acc', y4, y5, ⟨acc2, ls2, y6⟩, ?_, ?_⟩
            · refine tu5.trans ((D6.tups p.fr.2).trans ((tups_lst y2).trans (tups_lst y4)))
            · rw [upd_ne nlpD, upd_ne nlpe]
              exact D6.1 lp _ nlpt hp5
          · obtain ⟨⟨acc, ls, p⟩, tu5, hp5⟩ := p
            have rowsAt : ∀ z ∈ acc, IsRow H5 z.1 z.2 := fun z hz => tu5 _ _ (hzs z (p.pm.mem_iff.mp (List.mem_append_left _ hz)))
            have accIn : ∀ z ∈ acc, z.2 ∈ fillL hues.toNat size.toNat := fun z hz => by
              rw [← ez2]
              exact List.mem_map.mpr ⟨z, p.pm.mem_iff.mp (List.mem_append_left _ hz), rfl⟩
            have accNd : (acc.map (·.2)).Nodup := by
              have a1 : ((acc ++ ls).map (·.2)).Perm (zs0.map (·.2)) := p.pm.map _
              rw [ez2, List.map_append] at a1
              exact (List.nodup_append.mp (a1.nodup_iff.mpr (fill_nodup _ _))).1
            -- the wish
            refine ⟨.ref lp, rfl, lp, _, rfl, .inl (.inl hp5), fun t1 ob1 nt1 oc1 od1 => ?_⟩
            have q1 := same_upd (o := .frz ob1 (.tup (ps.map V.int))) nt1
            generalize hH6 : upd H5 t1 (.frz ob1 (.tup (ps.map V.int))) = H7 at q1
            have ht1 : IsPl H7 t1 ps := ⟨ob1, by rw [← hH6]; exact upd_same, oc1, od1⟩
            have hD7 := q1 _ _ p.hD
            have rows7 : ∀ z ∈ acc, IsRow H7 z.1 z.2 := fun z hz => q1 _ _ (rowsAt z hz)
            have eqr : acc.map (fun z => rowAt H7 z.1) = acc.map (·.2) := List.map_congr_left fun z hz => rowAt_of (rows7 z hz)
            refine ⟨.ref D, rfl, D, acc.map (·.1), rowAt H7, ps.length, hues, rfl, .inl (.inl (by rw [hD7, List.map_map]; rfl)), by omega, fun t ht => ?_, fun ts' so pm pw nso => ?_⟩
            · obtain ⟨z, hz, rfl⟩ := List.mem_map.mp ht
              have fg := fill_good (accIn z hz)
              rw [rowAt_of (rows7 z hz)]
              exact ⟨rows7 z hz, by omega, fun h hh => by have := fg.2 h hh; omega⟩
            have q2 := same_upd (o := .lst (ts'.map V.ref)) nso
            refine ⟨so, _, rfl, .inl ⟨.inl (.inl upd_same), fun t2 nt2 => ?_⟩⟩
            have q3 := q2.trans (same_upd (o := .tup (ts'.map V.ref)) nt2)
            refine ⟨(by show 2 ≤ sizeLine; decide), fun wa nwa => ?_⟩
            have q4 := same_upd (o := .tup [.ref t1, .ref t2]) nwa
            have q5 := q3.trans q4
            have permR : (ts'.map (rowAt H7)).Perm (acc.map (·.2)) := by
              have := pm.map (rowAt H7)
              rw [List.map_map] at this
              rw [← eqr]
              exact this
            have hts : ∀ t ∈ ts', IsRow H7 t (rowAt H7 t) := fun t ht => by
              obtain ⟨z, hz, rfl⟩ := List.mem_map.mp (pm.mem_iff.mp ht)
              rw [rowAt_of (rows7 z hz)]
              exact rows7 z hz
            have la := p.la
            have lr : (ts'.map (rowAt H7)).length = cnt.toNat := by rw [permR.length_eq, List.length_map, la]
            refine q _ wa (ps, ts'.map (rowAt H7)) ((p.fr.same q1).same q5) ⟨t1, t2, ts', upd_same, ht1.mono (tups_same q5), q4 _ _ upd_same, pairedMap (fun _ _ e => q5 _ _ e) (pairedOf hts)⟩ ⟨?_, ?_, psb, ?_, ?_, fun r hr => ?_⟩ ⟨prise, permR.nodup_iff.mpr accNd⟩
            · show 1 ≤ ps.length
              omega
            · show ps.length ≤ 3
              omega
            · show 1 ≤ (ts'.map (rowAt H7)).length
              omega
            · show (ts'.map (rowAt H7)).length ≤ 64
              omega
            · obtain ⟨z, hz, rfl⟩ := List.mem_map.mp (permR.mem_iff.mp hr)
              have fg := fill_good (accIn z hz)
              refine ⟨?_, fun h hh => ?_⟩
              · show z.2.length = ps.length
                omega
              · have := fg.2 h hh
                omega
end
end Rd

set_option Elab.async false
set_option linter.all false
set_option maxRecDepth 100000
set_option maxHeartbeats 4000000
namespace Rd
open PySem PySem.Spec PyProof.Rows L2 Dt
abbrev sSzs : Stmt := topS 21
abbrev nSzs : List Str := ["tape", "small", "some"]
theorem scSzs : FnScope nSzs ["tape", "small"] (defScope sSzs) := ⟨rfl, rfl, rfl, by decide +kernel, rfl, by decide +kernel, by decide +kernel⟩
abbrev sRid : Stmt := topS 22
abbrev nRid : List Str := ["tape", "small", "many", "hues", "wishes", "k"]
theorem scRid : FnScope nRid ["tape", "small"] (defScope sRid) := ⟨rfl, rfl, rfl, by decide +kernel, rfl, by decide +kernel, by decide +kernel⟩
abbrev sTab : Stmt := topS 23
abbrev nTab : List Str := ["tape", "riddle", "most", "found", "place", "k"]
theorem scTab : FnScope nTab ["tape", "riddle", "most"] (defScope sTab) := ⟨rfl, rfl, rfl, by decide +kernel, rfl, by decide +kernel, by decide +kernel⟩
abbrev sOrd : Stmt := topS 24
abbrev nOrd : List Str := ["tape", "many", "left", "k"]
theorem scOrd : FnScope nOrd ["tape", "many"] (defScope sOrd) := ⟨rfl, rfl, rfl, by decide +kernel, rfl, by decide +kernel, by decide +kernel⟩
def szOk (p : Int × Int) : Prop := 1 ≤ p.1 ∧ p.1 ≤ 6 ∧ 2 ≤ p.2 ∧ p.2 ≤ 4 ∧ p.2.toNat ^ p.1.toNat ≤ 256
def szA : List (Int × Int) := [(3, 2), (2, 3), (4, 2), (3, 3), (5, 2), (2, 2), (2, 4), (1, 3), (1, 2), (1, 4), (2, 3), (3, 2)]
def szB : List (Int × Int) := [(6, 2), (4, 3), (3, 4), (5, 3), (4, 4), (5, 2), (3, 3), (4, 2), (2, 4), (6, 2), (1, 2), (5, 2)]
theorem szA_ok : ∀ p ∈ szA, szOk p := by unfold szOk szA; decide
theorem szB_ok : ∀ p ∈ szB, szOk p := by unfold szOk szB; decide
def spSzs : Sp := fun vs H Q _ => ∃ (tp : Addr) (sm : Bool), vs = [.ref tp, .bl sm] ∧ Tape H tp ∧ ∀ H' t many hues, Taped tp H H' → H' t = some (.tup [.int many, .int hues]) → szOk (many, hues) → Q (.ref t) H'
def spRid : Sp := fun vs H Q _ => ∃ (tp : Addr) (sm : Bool), vs = [.ref tp, .bl sm] ∧ Tape H tp ∧
  ∀ H' ri many hues wds, Taped tp H H' → IsRid H' ri many hues wds → GoodR many hues wds → (∀ wd ∈ wds, Neat wd) → szOk (many, hues) → Q (.ref ri) H'
def spTab : Sp := fun vs H Q _ => ∃ (tp ri : Addr) (many hues most : Int) (z : V), vs = [.ref tp, .ref ri, .int most] ∧ Tape H tp ∧ H ri = some (.tup [.int many, .int hues, z]) ∧ 1 ≤ many ∧ many ≤ 6 ∧ 2 ≤ hues ∧ hues ≤ 4 ∧ 1 ≤ most ∧ most ≤ 900 ∧
  ∀ H' ta tb, Taped tp H H' → IsTab (Old H) H' ta tb → GoodT many hues tb → (∀ ds ∈ tb, (ds.length : Int) ≤ most) → Q (.ref ta) H'
def spOrd : Sp := fun vs H Q _ => ∃ (tp : Addr) (n : Int), vs = [.ref tp, .int n] ∧ Tape H tp ∧ 0 ≤ n ∧ n ≤ 20 ∧
  ∀ H' oa ord, Taped tp H H' → H' oa = some (.tup (ord.map V.int)) → GoodO n.toNat ord → ord.Perm (rngI n) → Q (.ref oa) H'
structure TxtR (P : Program) (w : World) (K : PySem.W.Frag) (mg : Str → Option Value) (base : Heap) : Prop extends TxtW P w K mg base where
  c__law_wish : Cal P w K mg base 2 "_law_wish" ["tape", "many", "hues", "most"] spWis
  c__law_sizes : Cal P w K mg base 2 "_law_sizes" ["tape", "small"] spSzs
theorem goodO_of {n : Int} {ord : List Int} (h0 : 0 ≤ n) (p : ord.Perm (rngI n)) : GoodO n.toNat ord := by
  refine ⟨fun z hz => ?_, fun k hk => ?_, ?_⟩
  · have := rngI_mem (p.mem_iff.mp hz)
    omega
  · exact p.mem_iff.mpr (rngI_all (by omega))
  · rw [p.length_eq, rngI_len]
    exact Nat.le_refl _
section
variable {P : Program} {w : World} {K : PySem.W.Frag} {mg : Str → Option Value} {base : Heap}
theorem ok_szs {f : Addr} {fd : FuncData} {k : Nat} (F : Fun K "_law_sizes" "_law_sizes" sSzs f fd) (T : TxtW P w K mg base) : FnOk P w K mg base CX0 (k + 2) f fd ["tape", "small"] spSzs := by
  refine F.ok scSzs (fun vs H Q E h => ?_) (fun cdv A outer s H vs Q E hr h => ?_)
  · obtain ⟨tp, sm, rfl, _⟩ := h
    rfl
  · obtain ⟨tp, sm, rfl, hT, q⟩ := h
    refine ⟨_, (pss_cons (ps_set (i := 2) scSzs.nd rfl (Or.inl rfl) (show PE _ _ (tLst (pairsT szA)) from (pe_lst (pa_cons (pe_tup (pa_cons pe_int (pa_cons pe_int pa_nil))) (pa_cons (pe_tup (pa_cons pe_int (pa_cons pe_int pa_nil))) (pa_cons (pe_tup (pa_cons pe_int (pa_cons pe_int pa_nil))) (pa_cons (pe_tup (pa_cons pe_int (pa_cons pe_int pa_nil))) (pa_cons (pe_tup (pa_cons pe_int (pa_cons pe_int pa_nil))) (pa_cons (pe_tup (pa_cons pe_int (pa_cons pe_int pa_nil))) (pa_cons (pe_tup (pa_cons pe_int (pa_cons pe_int pa_nil))) (pa_cons (pe_tup (pa_cons pe_int (pa_cons pe_int pa_nil))) (pa_cons (pe_tup (pa_cons pe_int (pa_cons pe_int pa_nil))) (pa_cons (pe_tup (pa_cons pe_int (pa_cons pe_int pa_nil))) (pa_cons (pe_tup (pa_cons pe_int (pa_cons pe_int pa_nil))) (pa_cons (pe_tup (pa_cons pe_int (pa_cons pe_int pa_nil))) pa_nil)))))))))))))))
  (C8.pss_cut (ps_if (pt_not (pt_val (pv 1)))
  (pss_one (ps_set (i := 2) scSzs.nd rfl (Or.inl rfl) (show PE _ _ (tLst (pairsT szB)) from (pe_lst (pa_cons (pe_tup (pa_cons pe_int (pa_cons pe_int pa_nil))) (pa_cons (pe_tup (pa_cons pe_int (pa_cons pe_int pa_nil))) (pa_cons (pe_tup (pa_cons pe_int (pa_cons pe_int pa_nil))) (pa_cons (pe_tup (pa_cons pe_int (pa_cons pe_int pa_nil))) (pa_cons (pe_tup (pa_cons pe_int (pa_cons pe_int pa_nil))) (pa_cons (pe_tup (pa_cons pe_int (pa_cons pe_int pa_nil))) (pa_cons (pe_tup (pa_cons pe_int (pa_cons pe_int pa_nil))) (pa_cons (pe_tup (pa_cons pe_int (pa_cons pe_int pa_nil))) (pa_cons (pe_tup (pa_cons pe_int (pa_cons pe_int pa_nil))) (pa_cons (pe_tup (pa_cons pe_int (pa_cons pe_int pa_nil))) (pa_cons (pe_tup (pa_cons pe_int (pa_cons pe_int pa_nil))) (pa_cons (pe_tup (pa_cons pe_int (pa_cons pe_int pa_nil))) pa_nil)))))))))))))))) pss_nil)
  (pss_one (ps_ret (pe_ix ix_list (pv 2) (pe_cal T.c__law_digit (hr.mono (by omega)) (by rfl) (pa_cons (pv 0) (pa_cons pe_int pa_nil))) (fun _ _ => rfl)))))), ?_⟩
    refine pairs_set (prs := szA) (by decide) fun l ts H1 s1 nl hl pr => ?_
    refine ⟨fun σ H' => Same H H' ∧ ∃ l ts prs, H l = none ∧ H' l = some (.lst (ts.map V.ref)) ∧ Paired (IsPr H') ts prs ∧ prs.length = 12 ∧ (∀ p ∈ prs, szOk p) ∧ σ = [some (.ref tp), some (.bl sm), some (.ref l)], ?_, ?_⟩
    · refine ⟨.bl sm, rfl, sm, rfl, ite2 (fun e => ?_) (fun e => ?_)⟩
      · refine pairs_asg (prs := szB) (by decide) fun l2 ts2 H2 s2 nl2 hl2 pr2 => ?_
        exact ⟨s1.trans s2, l2, ts2, szB, s1.free nl2, hl2, pr2, rfl, szB_ok, rfl⟩
      · exact ⟨s1, l, ts, szA, nl, hl, pr, rfl, szA_ok, rfl⟩
    · rintro σ H2 ⟨s2, l2, ts2, prs, nl2, hl2, pr2, lp, okp, rfl⟩
      have hT2 := hT.same s2
      have nlt : l2 ≠ tp := hT.new nl2
      refine ⟨.ref l2, rfl, .ref tp, rfl, tp, 12, rfl, hT2, by decide, by decide, fun H3 d D3 d0 d1 => ?_⟩
      have hd : d.toNat < ts2.length := by rw [pairedLen pr2]; omega
      obtain ⟨p, hp, isp⟩ := pairedGetL pr2 (List.getElem?_eq_getElem hd)
      refine ⟨l2, _, d, _, rfl, rfl, .inl (.inl (D3.1 _ _ nlt hl2)), atI_of d0 (List.getElem?_eq_getElem hd), ?_⟩
      exact q H3 _ p.1 p.2 ((Taped.refl hT).same s2 |>.trans D3) (D3.tups hT2 _ _ isp) (okp p (List.mem_of_getElem? hp))
theorem ok_rid {f : Addr} {fd : FuncData} {k : Nat} (F : Fun K "_law_riddle" "_law_riddle" sRid f fd) (T : TxtR P w K mg base) : FnOk P w K mg base CX0 (k + 3) f fd ["tape", "small"] spRid := by
  refine F.ok scRid (fun vs H Q E h => ?_) (fun cdv A outer s H vs Q E hr h => ?_)
  · obtain ⟨tp, sm, rfl, _⟩ := h
    rfl
  · obtain ⟨tp, sm, rfl, hT, q⟩ := h
    refine ⟨_, (pss_cons (ps_asg (pe_cal T.c__law_sizes (hr.mono (by omega)) (by rfl) (pa_cons (pv 0) (pa_cons (pv 1) pa_nil))) (pg_tup rfl (pgs_cons (pg_name (i := 2) scRid.nd rfl (Or.inr rfl)) (pgs_cons (pg_name (i := 3) scRid.nd rfl (Or.inr rfl)) pgs_nil))))
  (pss_cons (ps_setLc (i := 4) (te := tCall spWis [] E0 (tCons (tVar 0) (tCons (tVar 2) (tCons (tVar 3) (tCons (tC (.int 2)) tNil))))) (own := [("k", 5)]) rfl scRid.nd rfl rfl (sw_true rfl rfl rfl (by decide +kernel)) (pi_range1 (by rfl) T.m_range (pa_cons (pe_cal T.c__law_digit (hr.mono (by omega)) (by rfl) (pa_cons (pv 0) (pa_cons pe_int pa_nil))) pa_nil)) (blkOk_by (own := [("k", 5)]) (N := nRid) (sc := defScope sRid) (by decide +kernel))
   (fun _ _ _ _ _ => (pg_name (i := 5) scRid.nd rfl (Or.inl rfl))) (fun _ _ _ _ _ => pts_nil) (fun _ _ _ _ _ => (pe_cal T.c__law_wish (hr.mono (by omega)) (by rfl) (pa_cons (pv 0) (pa_cons (pv 2) (pa_cons (pv 3) (pa_cons pe_int pa_nil)))))))
  (pss_one (ps_ret (pe_tup (pa_cons (pv 2) (pa_cons (pv 3) (pa_cons (pe_callTy call_tuple_of (by rfl) T.m_tuple (by decide +kernel) (pa_cons (pv 4) pa_nil)) pa_nil)))))))), ?_⟩
    refine ⟨.ref tp, rfl, .bl sm, rfl, tp, sm, rfl, hT, fun H1 t many hues D1 ht ok => ?_⟩
    obtain ⟨k1, k6, hh2, hh4, kp⟩ := id ok
    dsimp only at k1 k6 hh2 hh4
    refine ⟨t, _, rfl, .inl (.inl ht), rfl, .int many, [.int hues], rfl, .int hues, [], rfl, rfl, ?_⟩
    refine ⟨.ref tp, rfl, tp, 9, rfl, D1.2, by decide, by decide, fun H2 nn D2 n0 n1 => ⟨nn, rfl, by omega, by omega, fun lw nlw => ?_⟩⟩
    have E2 := D1.trans D2
    have nw := E2.2.new nlw
    have nw0 : H lw = none := E2.free nlw
    refine lc_range (lo := 0) (n := nn.toNat) (fun i H3 => Taped tp H H3 ∧ ∃ (was : List Addr) (wds : List WD), H3 lw = some (.lst (was.map V.ref)) ∧ was.length = i ∧ Paired (IsWish H3) was wds ∧ (∀ wd ∈ wds, Good many hues wd) ∧ ∀ wd ∈ wds, Neat wd) ⟨E2.put nw0 nw, [], [], upd_same, rfl, .nil, (fun _ h => nomatch h), (fun _ h => nomatch h)⟩ (fun i H3 hi p => ?_) (fun H3 p => ?_)
    · obtain ⟨E3, was, wds, hw, lw3, pw, gd, ne⟩ := p
      refine ⟨rfl, yes_if ?_⟩
      refine ⟨.ref tp, rfl, .int many, rfl, .int hues, rfl, tp, many, hues, 2, rfl, E3.2, k1, k6, hh2, hh4, by decide, by decide, fun H4 wa wd D4 isw gw nw2 => ?_⟩
      have hw4 := D4.1 lw _ nw hw
      have tu : Tups H4 (upd H4 lw (.lst (was.map V.ref ++ [.ref wa]))) := tups_lst hw4
      refine ⟨_, hw4, ?_, (E3.trans D4).put nw0 nw, was ++ [wa], wds ++ [wd], ?_, ?_, pairedSnoc (pairedMap (fun _ _ e => IsWish.mono ((D4.tups E3.2).trans tu) e) pw) (isw.mono tu), ?_, ?_⟩
      · rw [List.length_map, lw3]
        exact small1000 (by omega)
      · rw [upd_same, List.map_append]
        rfl
      · rw [List.length_append, lw3]
        rfl
      · intro wd' h'
        rcases List.mem_append.mp h' with h' | h'
        · exact gd wd' h'
        · rw [List.mem_singleton.mp h']
          exact gw
      · intro wd' h'
        rcases List.mem_append.mp h' with h' | h'
        · exact ne wd' h'
        · rw [List.mem_singleton.mp h']
          exact nw2
    · obtain ⟨E3, was, wds, hw, lw3, pw, gd, ne⟩ := p
      refine ⟨.int many, rfl, .int hues, rfl, .ref lw, rfl, lw, _, rfl, .inl ⟨.inl (.inl hw), fun wt nwt => ?_⟩⟩
      have st := same_upd (o := .tup (was.map V.ref)) nwt
      refine ⟨(by show 3 ≤ sizeLine; decide), fun ri nri => ?_⟩
      have sr := same_upd (o := .tup [.int many, .int hues, .ref wt]) nri
      refine q _ ri many hues wds ((E3.same st).same sr) ⟨wt, was, upd_same, sr _ _ upd_same, pairedMap (fun _ _ e => IsWish.mono (tups_same (st.trans sr)) e) pw⟩ ⟨k1, k6, hh2, hh4, ?_, gd⟩ ne ok
      rw [← pairedLen pw]
      omega
theorem ok_tab {f : Addr} {fd : FuncData} {k : Nat} (F : Fun K "_law_table" "_law_table" sTab f fd) (T : TxtW P w K mg base) : FnOk P w K mg base CX0 (k + 2) f fd ["tape", "riddle", "most"] spTab := by
  refine F.ok scTab (fun vs H Q E h => ?_) (fun cdv A outer s H vs Q E hr h => ?_)
  · obtain ⟨tp, ri, many, hues, most, z, rfl, _⟩ := h
    rfl
  · obtain ⟨tp, ri, many, hues, most, z, rfl, hT, hri, k1, k6, hh2, hh4, o1, o2, q⟩ := h
    refine ⟨_, (pss_cons (ps_set (i := 3) scTab.nd rfl (Or.inl rfl) (pe_lst pa_nil))
  (pss_cons (ps_for PassesOwn.never rfl (pi_range1 (by rfl) T.m_range (pa_cons (pe_ix ix_tup (pv 1) pe_int (fun _ _ => rfl)) pa_nil)) (pg_name (i := 4) scTab.nd rfl (Or.inl rfl))
  (pss_one (ps_expr (pe_bm PySem.F.plainAttrs_list PySem.F.slot_list_append PySem.F.type_list_append mt_append (pv 3) (pa_cons (pe_lc (te := tCall spDig [] E0 (tCons (tVar 0) (tCons (tOp (rIxT K) (tVar 1) (tC (.int 1))) tNil))) (own := [("k", 5)]) rfl scTab.nd  (pi_range1 (by rfl) T.m_range (pa_cons (pe_op op_add pe_int (pe_cal T.c__law_digit (hr.mono (by omega)) (by rfl) (pa_cons (pv 0) (pa_cons (pv 2) pa_nil)))) pa_nil)) (blkOk_by (own := [("k", 5)]) (N := nTab) (sc := defScope sTab) (by decide +kernel))
   (fun _ _ _ _ _ => (pg_name (i := 5) scTab.nd rfl (Or.inl rfl))) (fun _ _ _ _ _ => pts_nil) (fun _ _ _ _ _ => (pe_cal T.c__law_digit (hr.mono (by omega)) (by rfl) (pa_cons (pv 0) (pa_cons (pe_ix ix_tup (pv 1) pe_int (fun _ _ => rfl)) pa_nil))))) pa_nil)))))
  (pss_one (ps_ret (pv 3))))), ?_⟩
    refine ⟨(by show 0 ≤ sizeLine; decide), fun ta nta => ?_⟩
    have sta := same_upd (o := .lst []) nta
    have nt := hT.new nta
    refine ⟨.ref ri, rfl, ri, _, 0, _, rfl, rfl, .inl (.inl (sta _ _ hri)), atI_nat (j := 0) rfl, many, rfl, by omega, by omega, for_range (lo := 0) (n := many.toNat) (fun i σ H3 => Taped tp H H3 ∧ (∃ (das : List Addr) (tb : List (List Int)), H3 ta = some (.lst (das.map V.ref)) ∧ das.length = i ∧ (∀ d ∈ das, H d = none ∧ d ≠ ta) ∧ Paired (IsInts H3) das tb ∧ ∀ ds ∈ tb, 1 ≤ ds.length ∧ (ds.length : Int) ≤ most ∧ ∀ h ∈ ds, 0 ≤ h ∧ h < hues) ∧ ∃ y4, σ = [some (.ref tp), some (.ref ri), some (.int most), some (.ref ta), y4, none]) ⟨(Taped.refl hT).same sta, ⟨[], [], upd_same, rfl, (fun _ h => nomatch h), .nil, (fun _ h => nomatch h)⟩, none, rfl⟩ (fun i σ H3 hi p => ?_) (fun σ H3 p => ?_)⟩
    · obtain ⟨E3, ⟨das, tb, hta, dl, fr, pr, gd⟩, y4, rfl⟩ := p
      have hri3 := E3.tups hT _ _ hri
      refine ⟨.ref ta, rfl, .inl ⟨rfl, _, .inl (.inl hta)⟩, .ref tp, rfl, .int most, rfl, tp, most, rfl, E3.2, o1, log_small (by omega) (by omega), fun H4 ct D4 c0 c1 => ⟨1, ct, rfl, rfl, 1 + ct, rfl, by omega, by omega, fun D nD => ?_⟩⟩
      have E4 := E3.trans D4
      have nDt := E4.2.new nD
      have nD0 : H D = none := E4.free nD
      have hta4 := D4.1 ta _ nt hta
      have nDa : D ≠ ta := (ne_of_none hta4 nD).symm
      have nDd : ∀ d ∈ das, d ≠ D := fun d hd e => by
        obtain ⟨j, hj⟩ := List.getElem?_of_mem hd
        obtain ⟨row, _, e2⟩ := pairedGetL pr hj
        have e3 := D4.1 d _ (hT.new (fr d hd).1) e2
        rw [e, nD] at e3
        cases e3
      refine lc_range (lo := 0) (n := (1 + ct).toNat) (fun j H5 => Taped tp H H5 ∧ Taped tp H4 H5 ∧ ∃ ds : List Int, H5 D = some (.lst (ds.map V.int)) ∧ ds.length = j ∧ ∀ h ∈ ds, 0 ≤ h ∧ h < hues) ⟨E4.put nD0 nDt, (Taped.refl E4.2).same (same_upd nD), [], upd_same, rfl, (fun _ h => nomatch h)⟩ (fun j H5 hj pp => ?_) (fun H5 pp => ?_)
      · obtain ⟨E5, D5, ds, hD, ld, gh⟩ := pp
        refine ⟨rfl, yes_if ?_⟩
        refine ⟨.ref tp, rfl, .ref ri, rfl, ri, _, 1, _, rfl, rfl, .inl (.inl (E5.tups hT _ _ hri)), atI_nat (j := 1) rfl, tp, hues, rfl, E5.2, by omega, log_small (by omega) (by omega), fun H6 d D6 d0 d1 => ?_⟩
        refine ⟨_, D6.1 D _ nDt hD, ?_, (E5.trans D6).put nD0 nDt, (D5.trans D6).put nD nDt, ds ++ [d], ?_, ?_, ?_⟩
        · rw [List.length_map, ld]
          exact small1000 (by omega)
        · rw [upd_same, List.map_append]
          rfl
        · rw [List.length_append, ld]
          rfl
        · intro h hh
          rcases List.mem_append.mp hh with hh | hh
          · exact gh h hh
          · rw [List.mem_singleton.mp hh]
            exact ⟨d0, d1⟩
      · obtain ⟨E5, D5, ds, hD, ld, gh⟩ := pp
        have hta5 := D5.1 ta _ nt hta4
        refine ⟨ta, _, .ref D, rfl, rfl, hta5, ?_, E5.put nta nt, ⟨das ++ [D], tb ++ [ds], ?_, ?_, ?_, ?_, ?_⟩, _, rfl⟩
        · rw [List.length_map, dl]
          exact small1000 (by omega)
        · rw [upd_same, List.map_append]
          rfl
        · rw [List.length_append, dl]
          rfl
        · intro d hd
          rcases List.mem_append.mp hd with hd | hd
          · exact fr d hd
          · rw [List.mem_singleton.mp hd]
            exact ⟨nD0, nDa⟩
        · refine pairedSnoc ?_ (by show upd _ ta _ D = _; rw [upd_ne nDa]; exact hD)
          have q1 : ∀ {l m}, (∀ d ∈ l, H d = none ∧ d ≠ ta) → Paired (IsInts H3) l m → Paired (IsInts (upd H5 ta (.lst (das.map V.ref ++ [.ref D])))) l m := by
            intro l m fl pp
            induction pp with
            | nil => exact .nil
            | @cons a b l m e t ih => exact .cons (by
                show upd H5 ta _ a = _
                rw [upd_ne (fl a List.mem_cons_self).2]
                exact D5.1 a _ (hT.new (fl a List.mem_cons_self).1) (D4.1 a _ (hT.new (fl a List.mem_cons_self).1) e)) (ih fun d hd => fl d (List.mem_cons_of_mem _ hd))
          exact q1 fr pr
        · intro x hx
          rcases List.mem_append.mp hx with hx | hx
          · exact gd x hx
          · rw [List.mem_singleton.mp hx]
            exact ⟨by omega, by omega, gh⟩
    · obtain ⟨E3, ⟨das, tb, hta, dl, fr, pr, gd⟩, y4, rfl⟩ := p
      have tl := pairedLen pr
      refine ⟨.ref ta, rfl, q H3 ta tb E3 ⟨das, hta, fun z => z nta, fun d hd z => z (fr d hd).1, pr⟩ ⟨by omega, fun ds h => (gd ds h).1, fun ds h => ?_, fun ds h => (gd ds h).2.2⟩ fun ds h => (gd ds h).2.1⟩
      have := (gd ds h).2.1
      omega
theorem ok_ord {f : Addr} {fd : FuncData} {k : Nat} (F : Fun K "_law_order" "_law_order" sOrd f fd) (T : TxtW P w K mg base) : FnOk P w K mg base CX0 (k + 2) f fd ["tape", "many"] spOrd := by
  refine F.ok scOrd (fun vs H Q E h => ?_) (fun cdv A outer s H vs Q E hr h => ?_)
  · obtain ⟨tp, n, rfl, _⟩ := h
    rfl
  · obtain ⟨tp, n, rfl, hT, n0, n20, q⟩ := h
    refine ⟨_, (pss_cons (ps_set (i := 2) scOrd.nd rfl (Or.inr rfl) (pe_listRg rfl (by rfl) T.m_list (prg_1 (by rfl) T.m_range (pv 1))))
  (pss_one (ps_ret (pe_callTy call_tuple_of (by rfl) T.m_tuple (by decide +kernel) (pa_cons (pe_lc (te := tBM K "list" rPopAt (tVar 2) (tCons (tCall spDig [] E0 (tCons (tVar 0) (tCons (tCB (rLen K) (tCons (tVar 2) tNil)) tNil))) tNil)) (own := [("k", 3)]) rfl scOrd.nd  (pi_range1 (by rfl) T.m_range (pa_cons (pv 1) pa_nil)) (blkOk_by (own := [("k", 3)]) (N := nOrd) (sc := defScope sOrd) (by decide +kernel))
   (fun _ _ _ _ _ => (pg_name (i := 3) scOrd.nd rfl (Or.inl rfl))) (fun _ _ _ _ _ => pts_nil) (fun _ _ _ _ _ => (pe_bm PySem.F.plainAttrs_list PySem.F.slot_list_pop PySem.F.type_list_pop mt_popAt (pv 2) (pa_cons (pe_cal T.c__law_digit (hr.mono (by omega)) (by rfl) (pa_cons (pv 0) (pa_cons (pe_callB call_len_seq (by rfl) T.m_len (by decide +kernel) (pa_cons (pv 2) pa_nil)) pa_nil))) pa_nil)))) pa_nil))))), ?_⟩
    refine ⟨.int n, rfl, n, rfl, ⟨by omega, by omega, by omega, by omega, by omega⟩, fun l nl => ?_⟩
    have sl := same_upd (o := .lst (rgV 0 n)) nl
    have nlt := hT.new nl
    have E3 := (Taped.refl hT).same sl
    have hl3 : upd H l (.lst (rgV 0 n)) l = some (.lst (rgV 0 n)) := upd_same
    generalize upd H l (.lst (rgV 0 n)) = H3 at E3 hl3
    refine ⟨.int n, rfl, n, rfl, by omega, by omega, fun D nD => ?_⟩
    have nDt := E3.2.new nD
    have nD0 : H D = none := E3.free nD
    have nlD : l ≠ D := ne_of_none hl3 nD
    have rl := rngI_len n
    refine lc_range (lo := 0) (n := n.toNat) (fun i H5 => ∃ acc ls, Pops V.int tp H l D (rngI n) i H5 acc ls) ⟨[], rngI n, E3.put nD0 nDt, ?_, upd_same, rfl, by simp, List.Perm.refl _⟩ (fun i H5 hi p => ?_) (fun H5 p => ?_)
    · rw [upd_ne nlD, hl3, rgV_eq]
    · obtain ⟨acc, ls, p⟩ := p
      have ll := p.ll
      refine ⟨rfl, yes_if ?_⟩
      refine ⟨.ref l, rfl, .inl ⟨rfl, _, .inl (.inl p.hL)⟩, .ref tp, rfl, .ref l, rfl, l, _, rfl, .inl (.inl (.inl p.hL)), tp, _, rfl, p.fr.2, by rw [List.length_map]; omega, by rw [List.length_map]; exact log_small (by omega) (by omega), fun H6 d D6 d0 d1 => ?_⟩
      rw [List.length_map] at d1
      obtain ⟨y, y1, y2, y3, acc', y4, y5, acc2, ls2, y6⟩ := pop_step nl nlt nD0 nDt nlD (by omega) p D6 d0 d1
      exact ⟨l, ls.map V.int, d, d.toNat, y, rfl, rfl, y2, by omega, by omega, y3, y1, acc', y4, y5, acc2, ls2, y6⟩
    · obtain ⟨acc, ls, p⟩ := p
      have ll := p.ll
      have e : ls = [] := List.length_eq_zero_iff.mp (by omega)
      have pm := p.pm
      rw [e, List.append_nil] at pm
      refine ⟨D, _, rfl, .inl ⟨.inl (.inl p.hD), fun oa noa => ?_⟩⟩
      exact q _ oa acc (p.fr.same (same_upd noa)) upd_same (goodO_of n0 pm) pm
end
end Rd

set_option Elab.async false
set_option linter.all false
set_option maxRecDepth 100000
set_option maxHeartbeats 4000000
namespace Rd
open PySem PySem.Spec PyProof.Rows L2 Dt

def spHues (Ps : List Addr) : Sp := fun vs H Q _ => ∃ (fa pa : Addr) (fs ps : List Int) (many hues : Int), vs = [.ref fa, .ref pa] ∧ H fa = some (.tup (fs.map V.int)) ∧ IsPl H pa ps ∧ GoodF many hues fs ∧ (∀ p ∈ ps, 0 ≤ p ∧ p < many) ∧ ps.length ≤ 1000 ∧ Tabs Ps H ∧
  ∀ H' t, FrS Ps H H' → H t = none → H' t = some (.tup ((huesA fs ps).map V.int)) → Q (.ref t) H'
def spIsB (Ps : List Addr) : Sp := fun vs H Q _ => ∃ (wa fa : Addr) (fs : List Int) (wd : WD) (many hues : Int), vs = [.ref wa, .ref fa] ∧ IsWish H wa wd ∧ H fa = some (.tup (fs.map V.int)) ∧ GoodF many hues fs ∧ Good many hues wd ∧ many ≤ 6 ∧ hues ≤ 4 ∧ Tabs Ps H ∧
  ∀ H', FrS Ps H H' → Q (.bl (brk fs wd)) H'
def spSta (Ps : List Addr) : Sp := fun vs H Q _ => ∃ (ta ka : Addr) (tb : List (List Int)) (tk : List Int), vs = [.ref ta, .ref ka] ∧ IsTab (fun _ => False) H ta tb ∧ H ka = some (.lst (tk.map V.int)) ∧ GoodK tb tk ∧ tb.length ≤ 1000 ∧ Tabs Ps H ∧
  ∀ H' t, FrS Ps H H' → H t = none → H' t = some (.tup ((stand tb tk).map V.int)) → Q (.ref t) H'
def vOpt : Option Int → V
  | some k => .int k
  | none => .non
def spFib (Ps : List Addr) : Sp := fun vs H Q _ => ∃ (wt oa fa : Addr) (was : List Addr) (wds : List WD) (ord fs : List Int) (many hues : Int), vs = [.ref wt, .ref oa, .ref fa] ∧ H wt = some (.tup (was.map V.ref)) ∧ Paired (IsWish H) was wds ∧ GoodR many hues wds ∧ H oa = some (.tup (ord.map V.int)) ∧ (∀ z ∈ ord, 0 ≤ z ∧ z < (wds.length : Int)) ∧ H fa = some (.tup (fs.map V.int)) ∧ GoodF many hues fs ∧ Tabs Ps H ∧
  ∀ H', FrS Ps H H' → Q (vOpt (firstB fs wds ord)) H'
def spHnx (Ps : List Addr) : Sp := fun vs H Q _ => ∃ (ta ka pa : Addr) (tb : List (List Int)) (tk ps : List Int), vs = [.ref ta, .ref ka, .ref pa] ∧ IsTab (fun _ => False) H ta tb ∧ H ka = some (.lst (tk.map V.int)) ∧ tk.length = tb.length ∧ H pa = some (.tup (ps.map V.int)) ∧ (∀ p ∈ ps, 0 ≤ p ∧ p < (tb.length : Int)) ∧ Tabs Ps H ∧
  ∀ H', FrS Ps H H' → Q (.bl (canN tb tk ps)) H'
structure TxtN (mg : Str → Option Value) : Prop where
  m_tuple : mg "tuple" = none
  m_zip : mg "zip" = none
  m_all : mg "all" = none
  m_len : mg "len" = none
structure TxtB (P : Program) (w : World) (K : PySem.W.Frag) (mg : Str → Option Value) (base : Heap) (Ps : List Addr) : Prop where
  c_hues_at : Cal P w K mg base 3 "hues_at" ["filling", "places"] (spHues Ps)
structure TxtC (P : Program) (w : World) (K : PySem.W.Frag) (mg : Str → Option Value) (base : Heap) (Ps : List Addr) : Prop extends TxtB P w K mg base Ps where
  c_is_broken : Cal P w K mg base 4 "is_broken" ["wish", "filling"] (spIsB Ps)
theorem atT {tk : List Int} {p : Int} (h0 : 0 ≤ p) (h1 : p < (tk.length : Int)) : tk[p.toNat]? = some (atF tk p) := by
  have h : p.toNat < tk.length := by omega
  rw [atF, getD_get h]
  exact List.getElem?_eq_getElem h
section
variable {P : Program} {w : World} {K : PySem.W.Frag} {mg : Str → Option Value} {base : Heap}
end
end Rd

set_option Elab.async false
set_option linter.all false
set_option maxRecDepth 100000
set_option maxHeartbeats 4000000
namespace Rd
open PySem PySem.Spec PyProof.Rows L2 Dt

structure RunIn (H : Hp) (ri ta oa : Addr) (many hues : Int) (wds : List WD) (tb : List (List Int)) (ord : List Int) : Prop where
  rid : IsRid H ri many hues wds
  gr : GoodR many hues wds
  nd : ∀ wd ∈ wds, wd.1.Nodup
  tab : IsTab (fun _ => False) H ta tb
  gt : GoodT many hues tb
  ho : H oa = some (.tup (ord.map V.int))
  go : GoodO wds.length ord
theorem RunIn.seqs {H H' : Hp} {ri ta oa : Addr} {many hues : Int} {wds : List WD} {tb : List (List Int)} {ord : List Int} (h : RunIn H ri ta oa many hues wds tb ord) (s : Seqs H H') : RunIn H' ri ta oa many hues wds tb ord := ⟨h.rid.mono s.1, h.gr, h.nd, h.tab.seqs s, h.gt, s.1 _ _ h.ho, h.go⟩
def spRun (Ps : List Addr) : Sp := fun vs H Q _ => ∃ (ri ta oa : Addr) (many hues : Int) (wds : List WD) (tb : List (List Int)) (ord : List Int), vs = [.ref ri, .ref ta, .ref oa] ∧ RunIn H ri ta oa many hues wds tb ord ∧ Tabs Ps H ∧
  ∀ H' t R, FrS Ps H H' → H t = none → runOf wds tb ord = some R → IsRes H H' t R → Q (.ref t) H'
structure TxtD (P : Program) (w : World) (K : PySem.W.Frag) (mg : Str → Option Value) (base : Heap) (Ps : List Addr) : Prop where
  m_len : mg "len" = none
  c_hues_at : Cal P w K mg base 3 "hues_at" ["filling", "places"] (spHues Ps)
  c_standing : Cal P w K mg base 3 "standing" ["table", "taken"] (spSta Ps)
  c_first_broken : Cal P w K mg base 5 "first_broken" ["wishes", "order", "filling"] (spFib Ps)
  c_have_next : Cal P w K mg base 2 "have_next" ["table", "taken", "places"] (spHnx Ps)
theorem rep0 (n : Nat) : (List.replicate n [V.int 0]).flatten = (zerosI n).map V.int := by
  unfold zerosI
  rw [List.map_replicate]
  induction n with
  | zero => rfl
  | succ n ih => rw [List.replicate_succ, List.flatten_cons, ih, List.replicate_succ]; rfl
theorem bumpA_snoc (tk ps : List Int) (p : Int) : bumpA tk (ps ++ [p]) = bump (bumpA tk ps) p.toNat := by
  unfold bumpA
  rw [List.foldl_append]
  rfl
theorem bumpA_len (tk : List Int) : ∀ ps : List Int, (bumpA tk ps).length = tk.length := fun ps => by
  unfold bumpA
  induction ps generalizing tk with
  | nil => rfl
  | cons p r ih => rw [List.foldl_cons, ih, bump_len]
section
variable {P : Program} {w : World} {K : PySem.W.Frag} {mg : Str → Option Value} {base : Heap}
end
end Rd

set_option Elab.async false
set_option linter.all false
set_option maxRecDepth 100000
set_option maxHeartbeats 4000000
namespace Rd
open PySem PySem.Spec PyProof.Rows L2 Dt
abbrev sLbr : Stmt := topS 25
abbrev nLbr : List Str := ["riddle", "filling", "found", "number", "places", "rows", "place"]
theorem scLbr : FnScope nLbr ["riddle", "filling"] (defScope sLbr) := ⟨rfl, rfl, rfl, by decide +kernel, rfl, by decide +kernel, by decide +kernel⟩
def spLbr : Sp := fun vs H Q _ => ∃ (ri fa : Addr) (fs : List Int) (wds : List WD) (many hues : Int), vs = [.ref ri, .ref fa] ∧ IsRid H ri many hues wds ∧ (H fa = some (.lst (fs.map V.int)) ∨ H fa = some (.tup (fs.map V.int))) ∧ GoodF many hues fs ∧ GoodR many hues wds ∧
  ∀ H' t, Same H H' → H t = none → H' t = some (.lst ((broL fs wds wds.length).map V.int)) → Q (.ref t) H'
structure TxtE (mg : Str → Option Value) : Prop where
  m_enumerate : mg "enumerate" = none
  m_tuple : mg "tuple" = none
theorem bro_ne {fs : List Int} {wds : List WD} {n : Nat} (h : broL fs wds n ≠ []) : PyData.eqv (.list ((broL fs wds n).map .int)) (.list []) = false := by
  rw [eqv_ints_nil]
  exact decide_eq_false h
section
variable {P : Program} {w : World} {K : PySem.W.Frag} {mg : Str → Option Value} {base : Heap}
theorem ok_lbr {f : Addr} {fd : FuncData} {k : Nat} (F : Fun K "_law_broken" "_law_broken" sLbr f fd) (T : TxtE mg) : FnOk P w K mg base CX0 (k + 1) f fd ["riddle", "filling"] spLbr := by
  refine F.ok scLbr (fun vs H Q E h => ?_) (fun cdv A outer s H vs Q E hr h => ?_)
  · obtain ⟨ri, fa, fs, wds, many, hues, rfl, _⟩ := h
    rfl
  · obtain ⟨ri, fa, fs, wds, many, hues, rfl, hrd, hf, gf, gr, q⟩ := h
    refine ⟨_, (pss_cons (ps_set (i := 2) scLbr.nd rfl (Or.inl rfl) (pe_lst pa_nil))
  (pss_cons (ps_for PassesOwn.never rfl (Et.pi_enumT (by rfl) T.m_enumerate (pa_cons (pe_ix ix_tup (pv 0) pe_int (fun _ _ => rfl)) pa_nil)) (pg_tup rfl (pgs_cons (pg_name (i := 3) scLbr.nd rfl (Or.inl rfl)) (pgs_cons (pg_tup rfl (pgs_cons (pg_name (i := 4) scLbr.nd rfl (Or.inl rfl)) (pgs_cons (pg_name (i := 5) scLbr.nd rfl (Or.inl rfl)) pgs_nil))) pgs_nil)))
  (pss_one (ps_if (pt_cmpR (Dt.op_inT (units65 hr)) (pe_callTy call_tuple_of (by rfl) T.m_tuple (by decide +kernel) (pa_cons (pe_lc (te := tOp (rIx K) (tVar 1) (tVar 6)) (own := [("place", 6)]) rfl scLbr.nd  (pi_tup (pv 4)) (blkOk_by (own := [("place", 6)]) (N := nLbr) (sc := defScope sLbr) (by decide +kernel))
   (fun _ _ _ _ _ => (pg_name (i := 6) scLbr.nd rfl (Or.inl rfl))) (fun _ _ _ _ _ => pts_nil) (fun _ _ _ _ _ => (pe_ix ix_seq (pv 1) (pv 6) (fun _ _ => rfl)))) pa_nil)) (pv 5) (by rfl))
  (pss_one (ps_expr (pe_bm PySem.F.plainAttrs_list PySem.F.slot_list_append PySem.F.type_list_append mt_append (pv 2) (pa_cons (pv 3) pa_nil)))) pss_nil)))
  (pss_one (ps_ret (pv 2))))), ?_⟩
    obtain ⟨wt, was, h1, h2, h3⟩ := id hrd
    have hl : was.length = wds.length := pairedLen h3
    refine ⟨(by show 0 ≤ sizeLine; decide), fun l nl => ?_⟩
    have sl := same_upd (o := .lst []) nl
    refine ⟨.ref ri, rfl, ri, _, 2, _, rfl, rfl, .inl (.inl (sl _ _ h1)), rfl, wt, was.map V.ref, rfl, .inl (.inl (sl _ _ h2)), ?_⟩
    refine Et.for_enumT (K := K) (a := wt) (xs := was.map V.ref) (fun i σ H3 => Same H H3 ∧ H3 l = some (.lst ((broL fs wds i).map V.int)) ∧ ∃ y3 y4 y5 y6, σ = [some (.ref ri), some (.ref fa), some (.ref l), y3, y4, y5, y6]) ⟨sl, upd_same, none, none, none, none, rfl⟩ (fun i σ H3 _ p => .inl (.inl (p.1 _ _ h2))) (fun i x σ H3 T hx p nT => ?_) (fun σ H3 p => ?_)
    · obtain ⟨sm, hL, y3, y4, y5, y6, rfl⟩ := p
      obtain ⟨wa, ew, rfl⟩ := map_get hx
      obtain ⟨wd, hwd, isw⟩ := pairedGetL h3 ew
      have gw := gr.each wd (List.mem_of_getElem? hwd)
      have sT := same_upd (o := .tup [.int (i : Nat), .ref wa]) nT
      have s2 := sm.trans sT
      obtain ⟨pa, ra, rs, w1, w2, w3, w4⟩ := isw.mono (tups_same s2)
      refine ⟨T, [.int i, .ref wa], rfl, .inl (.inl upd_same), rfl, .int i, [.ref wa], rfl, .ref wa, [], rfl, ⟨wa, _, rfl, .inl (.inl w1), rfl, .ref pa, [.ref ra], rfl, .ref ra, [], rfl, rfl, rfl, ?_⟩⟩
      refine ⟨.ref pa, rfl, pa, rfl, ⟨_, w2.sq⟩, fun D nD => lc_tup (K := K) (a := pa) (xs := wd.1.map V.int) (fun j H5 => Same (upd H3 T (.tup [.int (i : Nat), .ref wa])) H5 ∧ H5 D = some (.lst ((huesA fs (wd.1.take j)).map V.int))) ⟨same_upd nD, upd_same⟩ (fun j H5 _ pp => (w2.mono (tups_same pp.1)).sq) (fun j x H5 hx pp => ?_) (fun H5 pp => ?_)⟩
      · obtain ⟨p, ep, rfl⟩ := map_get hx
        have hp := gw.pl p (List.mem_of_getElem? ep)
        refine ⟨rfl, yes_if ?_⟩
        have rest : ∃ acc, H5 D = some (.lst acc) ∧ acc.length < sizeLine ∧ (Same (upd H3 T (.tup [.int (i : Nat), .ref wa])) (upd H5 D (.lst (acc ++ [.int (atF fs p)]))) ∧ upd H5 D (.lst (acc ++ [.int (atF fs p)])) D = some (.lst ((huesA fs (wd.1.take (j + 1))).map V.int))) := by
          refine ⟨_, pp.2, ?_, ?_, ?_⟩
          · have := gw.three
            simp [huesA]
            exact small1000 (by omega)
          · intro b o e
            rw [upd_ne (ne_of_none e nD)]
            exact pp.1 b o e
          · rw [upd_same, take_snoc ep]
            simp [huesA]
        refine ⟨.ref fa, rfl, .int p, rfl, ?_⟩
        rcases hf with hf | hf
        · exact .inl ⟨fa, _, p, _, rfl, rfl, .inl (.inl (pp.1 _ _ (s2 _ _ hf))), atI_fs gf hp.1 hp.2, rest⟩
        · exact .inr (.inl ⟨fa, _, p, _, rfl, rfl, .inl (.inl (pp.1 _ _ (s2 _ _ hf))), atI_fs gf hp.1 hp.2, rest⟩)
      · have hD := pp.2
        rw [List.length_map, List.take_length] at hD
        refine ⟨D, _, rfl, .inl ⟨.inl (.inl hD), fun t nt => ?_⟩⟩
        have s3 := pp.1.trans (same_upd (o := .tup ((huesA fs wd.1).map V.int)) nt)
        refine ⟨.ref ra, rfl, rowD (huesA fs wd.1), wd.2.map rowD, .tup (.inl (.inl upd_same)) (dpInts _), .tup (.inl (.inl (s3 _ _ w3))) (dpRows (pairedMap (fun _ _ e => s3 _ _ e) w4)), ?_, ?_, ?_⟩
        · refine (fine_row (fun z hz => ?_) ?_).shaped (by decide)
          · obtain ⟨p, hp, rfl⟩ := List.mem_map.mp hz
            have hpp := gw.pl p hp
            have e := List.mem_of_getElem? (at_some gf hpp.1 hpp.2)
            have := gf.hue _ e
            have := gr.h4
            omega
          · have := gw.three
            simp [huesA]
            omega
        · refine (Fine.tuple (fineAll_map wd.2 (n := 2) (w := 64) fun r hr => fine_row (fun z hz => ?_) ?_)).shaped (by decide)
          · have := (gw.row r hr).2 z hz
            have := gr.h4
            omega
          · have := (gw.row r hr).1
            have := gw.three
            omega
        · rw [anyRows]
          have eb := brkAt_of (fs := fs) hwd
          have hLT := s3 _ _ (sT _ _ hL)
          have s4 := s2.trans s3
          refine ⟨_, rfl, ite2 (fun e => ?_) (fun e => ?_)⟩
          · refine ⟨.ref l, rfl, .inl ⟨rfl, _, .inl (.inl hLT)⟩, .int i, rfl, l, _, _, rfl, rfl, hLT, ?_, ?_, ?_, ?_⟩
            · rw [List.length_map]
              have := broL_len fs wds i
              have := gr.eight
              have := (List.getElem?_eq_some_iff.mp ew).1
              exact small1000 (by omega)
            · intro b o e2
              rw [upd_ne (ne_of_none e2 nl)]
              exact s4 b o e2
            · rw [upd_same, broL_yes (eb.trans e), List.map_append]
              rfl
            · exact ⟨_, _, _, _, rfl⟩
          · refine ⟨s4, ?_, _, _, _, _, rfl⟩
            rw [broL_no (eb.trans (by simpa [brk] using e))]
            exact hLT
    · obtain ⟨sm, hL, y3, y4, y5, y6, rfl⟩ := p
      rw [List.length_map, hl] at hL
      exact ⟨.ref l, rfl, q H3 l sm nl hL⟩
end
end Rd

set_option Elab.async false
set_option linter.all false
set_option maxRecDepth 100000
set_option maxHeartbeats 4000000
namespace Rd
open PySem PySem.Spec PyProof.Rows L2 Dt
abbrev sLrn : Stmt := topS 26
abbrev nLrn : List Str := ["riddle", "table", "order", "filling", "left", "log", "there", "number", "places", "place", "draws", "one"]
theorem scLrn : FnScope nLrn ["riddle", "table", "order"] (defScope sLrn) := ⟨rfl, rfl, rfl, by decide +kernel, rfl, by decide +kernel, by decide +kernel⟩
def spLrn : Sp := fun vs H Q _ => ∃ (ri ta oa : Addr) (many hues : Int) (wds : List WD) (tb : List (List Int)) (ord : List Int), vs = [.ref ri, .ref ta, .ref oa] ∧ RunIn H ri ta oa many hues wds tb ord ∧
  ∀ H' t R, Same H H' → H t = none → runOf wds tb ord = some R → IsRes H H' t R → Q (.ref t) H'
structure TxtF (P : Program) (w : World) (K : PySem.W.Frag) (mg : Str → Option Value) (base : Heap) : Prop where
  m_tuple : mg "tuple" = none
  c__law_broken : Cal P w K mg base 1 "_law_broken" ["riddle", "filling"] spLbr
section
variable {P : Program} {w : World} {K : PySem.W.Frag} {mg : Str → Option Value} {base : Heap}
set_option maxHeartbeats 16000000 in
theorem ok_lrn {f : Addr} {fd : FuncData} {k : Nat} (F : Fun K "_law_run" "_law_run" sLrn f fd) (T : TxtF P w K mg base) : FnOk P w K mg base CX0 (k + 2) f fd ["riddle", "table", "order"] spLrn := by
  refine F.ok scLrn (fun vs H Q E h => ?_) (fun cdv A outer s H vs Q E hr h => ?_)
  · obtain ⟨ri, ta, oa, many, hues, wds, tb, ord, rfl, _⟩ := h
    rfl
  · obtain ⟨ri, ta, oa, many, hues, wds, tb, ord, rfl, hin, q⟩ := h
    obtain ⟨rid, gr, nd, tab, gt, ho, go⟩ := id hin
    refine ⟨_, (pss_cons (ps_set (i := 3) scLrn.nd rfl (Or.inr rfl) (pe_lc (te := tOp (rIxL K) (tVar 10) (tC (.int 0))) (own := [("draws", 10)]) rfl scLrn.nd  (pi_list (pv 1)) (blkOk_by (own := [("draws", 10)]) (N := nLrn) (sc := defScope sLrn) (by decide +kernel))
   (fun _ _ _ _ _ => (pg_name (i := 10) scLrn.nd rfl (Or.inl rfl))) (fun _ _ _ _ _ => pts_nil) (fun _ _ _ _ _ => (pe_ix ix_list (pv 10) pe_int (fun _ _ => rfl)))))
  (pss_cons (ps_set (i := 4) scLrn.nd rfl (Or.inr rfl) (pe_lc (te := tSl (rSlL K) (tVar 10) (tPart (tC (.int 1))) tNoPart) (own := [("draws", 10)]) rfl scLrn.nd  (pi_list (pv 1)) (blkOk_by (own := [("draws", 10)]) (N := nLrn) (sc := defScope sLrn) (by decide +kernel))
   (fun _ _ _ _ _ => (pg_name (i := 10) scLrn.nd rfl (Or.inl rfl))) (fun _ _ _ _ _ => pts_nil) (fun _ _ _ _ _ => (pe_slice sl_list (pv 10) (po_some pe_int) po_none))))
  (pss_cons (ps_set (i := 5) scLrn.nd rfl (Or.inl rfl) (pe_lst pa_nil))
  (pss_cons (ps_while PassesOwn.never (pt_cmpR (op_neD hr.units) (pe_cal T.c__law_broken (hr.mono (by omega)) (by rfl) (pa_cons (pv 0) (pa_cons (pv 3) pa_nil))) (pe_lst pa_nil) (nomark _))
  (pss_cons (ps_set (i := 6) scLrn.nd rfl (Or.inr rfl) (pe_cal T.c__law_broken (hr.mono (by omega)) (by rfl) (pa_cons (pv 0) (pa_cons (pv 3) pa_nil))))
  (pss_cons (ps_set (i := 7) scLrn.nd rfl (Or.inl rfl) (pe_ix ix_list (pe_lc (tt := tTest (tOp (rInD K) (tVar 11) (tVar 6))) (own := [("one", 11)]) rfl scLrn.nd  (pi_tup (pv 2)) (blkOk_by (own := [("one", 11)]) (N := nLrn) (sc := defScope sLrn) (by decide +kernel))
   (fun _ _ _ _ _ => (pg_name (i := 11) scLrn.nd rfl (Or.inl rfl))) (fun _ _ _ _ _ => pts_one (pt_cmpR (op_inD (units65 hr)) (pv 11) (pv 6) (by rfl))) (fun _ _ _ _ _ => (pv 11))) pe_int (fun _ _ => rfl)))
  (pss_cons (ps_set (i := 8) scLrn.nd rfl (Or.inl rfl) (pe_ix ix_tup (pe_ix ix_tup (pe_ix ix_tup (pv 0) pe_int (fun _ _ => rfl)) (pv 7) (fun _ _ => rfl)) pe_int (fun _ _ => rfl)))
  (pss_cons (ps_if (pt_cmpR (op_inD (units65 hr)) (pe_lst pa_nil) (pe_lc (te := tOp (rIxL K) (tVar 4) (tVar 9)) (own := [("place", 9)]) rfl scLrn.nd  (pi_tup (pv 8)) (blkOk_by (own := [("place", 9)]) (N := nLrn) (sc := defScope sLrn) (by decide +kernel))
   (fun _ _ _ _ _ => (pg_name (i := 9) scLrn.nd rfl (Or.inl rfl))) (fun _ _ _ _ _ => pts_nil) (fun _ _ _ _ _ => (pe_ix ix_list (pv 4) (pv 9) (fun _ _ => rfl)))) (by rfl))
  (pss_one (ps_ret (pe_tup (pa_cons pe_str (pa_cons (pe_callTy call_tuple_of (by rfl) T.m_tuple (by decide +kernel) (pa_cons (pv 3) pa_nil)) (pa_cons (pv 5) pa_nil)))))) pss_nil)
  (pss_cons (ps_expr (pe_bm PySem.F.plainAttrs_list PySem.F.slot_list_append PySem.F.type_list_append mt_append (pv 5) (pa_cons (pe_tup (pa_cons (pv 7) (pa_cons (pe_callTy call_tuple_of (by rfl) T.m_tuple (by decide +kernel) (pa_cons (pe_lc (te := tOp (rIxL K) (tVar 3) (tVar 9)) (own := [("place", 9)]) rfl scLrn.nd  (pi_tup (pv 8)) (blkOk_by (own := [("place", 9)]) (N := nLrn) (sc := defScope sLrn) (by decide +kernel))
   (fun _ _ _ _ _ => (pg_name (i := 9) scLrn.nd rfl (Or.inl rfl))) (fun _ _ _ _ _ => pts_nil) (fun _ _ _ _ _ => (pe_ix ix_list (pv 3) (pv 9) (fun _ _ => rfl)))) pa_nil)) pa_nil))) pa_nil)))
  (pss_one (ps_for PassesOwn.never rfl (pi_tup (pv 8)) (pg_name (i := 9) scLrn.nd rfl (Or.inl rfl))
  (pss_cons (ps_asg (pe_ix ix_list (pe_ix ix_list (pv 4) (pv 9) (fun _ _ => rfl)) pe_int (fun _ _ => rfl)) (pg_sub (pv 3) (pv 9) set_list))
  (pss_one (ps_asg (pe_slice sl_list (pe_ix ix_list (pv 4) (pv 9) (fun _ _ => rfl)) (po_some pe_int) po_none) (pg_sub (pv 4) (pv 9) set_list))))))))))))
  (pss_one (ps_ret (pe_tup (pa_cons pe_str (pa_cons (pe_callTy call_tuple_of (by rfl) T.m_tuple (by decide +kernel) (pa_cons (pv 3) pa_nil)) (pa_cons (pv 5) pa_nil)))))))))), ?_⟩
    obtain ⟨wt, was, h1, h2, h3⟩ := id rid
    obtain ⟨das, ht1, _, _, pr⟩ := id tab
    have wl := pairedLen h3
    have dl := pairedLen pr
    have tl := gt.len
    have m6 := gr.m6
    have e8 := gr.eight
    obtain ⟨R, hR, gfR, okR, lR⟩ := runOf_some gr nd gt go
    -- filling
    refine ⟨.ref ta, rfl, ta, rfl, ⟨_, .inl (.inl ht1)⟩, fun fa nfa => ?_⟩
    refine lc_list (K := K) (a := ta) (xs := das.map V.ref) (fun i H1 => Same H H1 ∧ H1 fa = some (.lst (((stand tb (zerosI tb.length)).take i).map V.int))) ⟨same_upd nfa, upd_same⟩ (fun i H1 _ p => .inl (.inl (p.1 _ _ ht1))) (fun i x H1 hx p => ?_) (fun H1 p => ?_)
    · obtain ⟨d, ed, rfl⟩ := map_get hx
      obtain ⟨ds, eds, hd⟩ := pairedGetL pr ed
      obtain ⟨s1, hf1⟩ := p
      have one := gt.one ds (List.mem_of_getElem? eds)
      have hi : i < tb.length := (List.getElem?_eq_some_iff.mp eds).1
      refine ⟨rfl, yes_if ?_⟩
      refine ⟨.ref d, rfl, d, _, 0, _, rfl, rfl, .inl (.inl (s1 _ _ hd)), atI_of (by decide) (atT (by decide) (by omega)), _, hf1, ?_, same_put s1 nfa, ?_⟩
      · rw [List.length_map, List.length_take]
        exact small1000 (by omega)
      · rw [upd_same, take_snoc (stand0 gt eds), List.map_append]
        rfl
    obtain ⟨s1, hf1⟩ := p
    rw [List.length_map, dl, List.take_of_length_le (by rw [stand_len (zeros_good gt)]; exact Nat.le_refl _)] at hf1
    -- left
    refine ⟨.ref ta, rfl, ta, rfl, ⟨_, .inl (.inl (s1 _ _ ht1))⟩, fun lf nlf => ?_⟩
    have nlf0 : H lf = none := s1.free nlf
    have nff : fa ≠ lf := ne_of_none hf1 nlf
    refine lc_list (K := K) (a := ta) (xs := das.map V.ref) (fun i H2 => Same H1 H2 ∧ ∃ ls : List Addr, H2 lf = some (.lst (ls.map V.ref)) ∧ Paired (IsInts H2) ls ((leftOf tb (zerosI tb.length)).take i) ∧ ∀ d ∈ ls, H d = none ∧ d ≠ fa ∧ d ≠ lf) ⟨same_upd nlf, [], upd_same, .nil, (fun _ h => nomatch h)⟩ (fun i H2 _ p => .inl (.inl (p.1 _ _ (s1 _ _ ht1)))) (fun i x H2 hx p => ?_) (fun H2 p => ?_)
    · obtain ⟨d, ed, rfl⟩ := map_get hx
      obtain ⟨ds, eds, hd⟩ := pairedGetL pr ed
      obtain ⟨s2, ls, hl2, pl, nls⟩ := p
      have hi : i < tb.length := (List.getElem?_eq_some_iff.mp eds).1
      have ll := pairedLen pl
      refine ⟨rfl, yes_if ?_⟩
      refine ⟨.ref d, rfl, 1, rfl, d, _, rfl, .inl (.inl (s2 _ _ (s1 _ _ hd))), fun np nnp => ?_⟩
      have ecut : cutV (ds.map V.int) (some 1) none = (ds.drop 1).map V.int := cut_from V.int ds 1
      rw [ecut]
      have sp := same_upd (o := .lst ((ds.drop 1).map V.int)) nnp
      have hl3 := sp _ _ hl2
      have nnl : np ≠ lf := (ne_of_none hl2 nnp).symm
      have pl2 := pairedMap (fun _ _ e => sp _ _ e) pl
      refine ⟨_, hl3, ?_, ?_, ls ++ [np], ?_, ?_, ?_⟩
      · rw [List.length_map, ll, List.length_take]
        exact small1000 (by omega)
      · exact same_put (s2.trans sp) nlf
      · rw [upd_same, List.map_append]
        rfl
      · rw [take_snoc (left0 gt eds)]
        refine pairedSnoc (paired_upd pl2 fun d hd => (nls d hd).2.2) ?_
        show upd _ lf _ np = _
        rw [upd_ne nnl]
        exact upd_same
      · intro d hd
        rcases List.mem_append.mp hd with hd | hd
        · exact nls d hd
        · rw [List.mem_singleton.mp hd]
          exact ⟨s1.free (s2.free nnp), (ne_of_none (s2 _ _ hf1) nnp).symm, nnl⟩
    obtain ⟨s2, ls, hl2, pl, nls⟩ := p
    rw [List.length_map, dl, List.take_of_length_le (by rw [left_len (zeros_good gt)]; exact Nat.le_refl _)] at pl
    -- log
    refine ⟨(by show 0 ≤ sizeLine; decide), fun la nla => ?_⟩
    have s3 := same_upd (o := .lst []) nla
    have nla0 : H la = none := s1.free (s2.free nla)
    have hf2 := s2 _ _ hf1
    have nfl : fa ≠ la := ne_of_none hf2 nla
    have nll : lf ≠ la := ne_of_none hl2 nla
    have nls2 := paired_fresh pl nla
    have s03 := (s1.trans s2).trans s3
    -- the loop
    have WF : ∀ (m : Nat) (σ : L2.St) (Hm : Hp), Prop := fun _ _ _ => True
    refine ⟨fun m σ Hm => Same H Hm ∧ ∃ (tk : List Int) (log : Log) (ls : List Addr), Hm fa = some (.lst ((stand tb tk).map V.int)) ∧ Hm lf = some (.lst (ls.map V.ref)) ∧ Paired (IsInts Hm) ls (leftOf tb tk) ∧ (∀ d ∈ ls, H d = none ∧ d ≠ fa ∧ d ≠ lf ∧ d ≠ la) ∧ GoodK tb tk ∧ IsLog Hm la log ∧ LogOk wds log ∧ log.length + rem tb tk ≤ 6000 ∧ goR wds tb ord m tk log = some R ∧
      ∃ y6 y7 y8 y9, σ = [some (.ref ri), some (.ref ta), some (.ref oa), some (.ref fa), some (.ref lf), some (.ref la), y6, y7, y8, y9, none, none], ⟨rem tb (zerosI tb.length) + 1, s03, zerosI tb.length, [], ls, s3 _ _ hf2, s3 _ _ hl2, pairedMap (fun _ _ e => s3 _ _ e) pl, fun d hd => ⟨(nls d hd).1, (nls d hd).2.1, (nls d hd).2.2, nls2 d hd⟩, zeros_good gt, ⟨[], upd_same, .nil⟩, LogOk.nil _, ?_, hR, none, none, none, none, rfl⟩, ?_⟩
    · have a := rem_le tb (zerosI tb.length) 1000 gt.few
      have : tb.length ≤ 6 := by omega
      rw [List.length_nil]
      omega
    · have nfa0 := nfa
      clear WF hf1 hl2 pl nls nls2 hf2 s03 s3 nla s2 nlf s1
      rintro m σ Hm ⟨sm, tk, log, ls, hf, hl, pl, nls, gk, hlog, okl, bl, hgo, y6, y7, y8, y9, rfl⟩
      cases m with
      | zero => exact nomatch hgo
      | succ m =>
      rw [goR] at hgo
      have gst := stand_good gt gk
      refine ⟨.ref ri, rfl, .ref fa, rfl, ri, fa, _, wds, many, hues, rfl, rid.mono (tups_same sm), .inl hf, gst, gr, fun H4 lb s4 nlb hlb => ?_⟩
      refine ⟨(by show 0 ≤ sizeLine; decide), fun le nle => ?_⟩
      have s5 := same_upd (o := .lst []) nle
      have s45 := s4.trans s5
      have fb : Fine (.list ((broL (stand tb tk) wds wds.length).map .int)) 2 64 := fine_bro _ wds e8
      refine ⟨.list ((broL (stand tb tk) wds wds.length).map .int), .list [], .lst (.inl (.inl (s5 _ _ hlb))) (dpInts _), .lst (.inl (.inl upd_same)) .nil, fb.shaped (by decide), PySem.W.shaped_ints [], _, rfl, ?_⟩
      rw [eqv_ints_nil]
      by_cases eb : broL (stand tb tk) wds wds.length = []
      · -- kept
        rw [decide_eq_true eb]
        refine iteF ?_
        rw [(first_none go).mpr eb] at hgo
        have eR : (true, stand tb tk, log) = R := Option.some.inj hgo
        refine ⟨.ref fa, rfl, fa, _, rfl, .inl ⟨.inl (.inl (s45 _ _ hf)), fun ft nft => ?_⟩⟩
        have s6 := same_upd (o := .tup ((stand tb tk).map V.int)) nft
        refine ⟨.ref la, rfl, (by show 3 ≤ sizeLine; decide), fun t nt => ?_⟩
        have s7 := same_upd (o := .tup [.str "kept", .ref ft, .ref la]) nt
        refine q _ t R (((sm.trans s45).trans s6).trans s7) (sm.free (s45.free (s6.free nt))) hR ?_
        rw [← eR]
        exact ⟨ft, la, upd_same, s7 _ _ upd_same, hlog.seqs (seqs_same ((s45.trans s6).trans s7)), nla0⟩
      · rw [decide_eq_false eb]
        refine iteT ?_
        cases ef : firstB (stand tb tk) wds ord with
        | none => exact absurd ((first_none go).mp ef) eb
        | some k =>
        rw [ef] at hgo
        dsimp only at hgo
        obtain ⟨hk1', hbk⟩ := first_some ef
        obtain ⟨k0, k1⟩ := go.mem k hk1'
        obtain ⟨wd, hw, he⟩ := wd_of k0 k1
        have gw := gr.each wd (List.mem_of_getElem? hw)
        have g3 := gw.three
        have kn : k.toNat < was.length := by omega
        obtain ⟨wd', hw', isw⟩ := pairedGetL h3 (List.getElem?_eq_getElem kn)
        rw [hw] at hw'
        cases hw'
        obtain ⟨pa, ra, rs, i1, i2, i3, i4⟩ := id isw
        have hpr : ∀ p ∈ wd.1, 0 ≤ p ∧ p < (tb.length : Int) := fun p hp => by
          have := gw.pl p hp
          omega
        refine ⟨fun σ' Hn => Same H Hn ∧ ∃ (tk : List Int) (log : Log) (ls : List Addr), Hn fa = some (.lst ((stand tb tk).map V.int)) ∧ Hn lf = some (.lst (ls.map V.ref)) ∧ Paired (IsInts Hn) ls (leftOf tb tk) ∧ (∀ d ∈ ls, H d = none ∧ d ≠ fa ∧ d ≠ lf ∧ d ≠ la) ∧ GoodK tb tk ∧ IsLog Hn la log ∧ LogOk wds log ∧ log.length + rem tb tk ≤ 6000 ∧ goR wds tb ord m tk log = some R ∧
          ∃ y6 y7 y8 y9, σ' = [some (.ref ri), some (.ref ta), some (.ref oa), some (.ref fa), some (.ref lf), some (.ref la), y6, y7, y8, y9, none, none], fun σ' H' n => ⟨m, Nat.lt_succ_self _, n⟩, ?_⟩
        have sm5 := sm.trans s45
        have hf5 := s45 _ _ hf
        have hl5 := s45 _ _ hl
        have pl5 := pairedMap (fun _ _ e => s45 _ _ e) pl
        have hlog5 := hlog.seqs (seqs_same s45)
        generalize upd H4 le (.lst []) = H5 at sm5 hf5 hl5 pl5 hlog5
        clear hlb nlb s4 nle s5 s45 hf hl pl hlog sm
        -- there
        refine ⟨.ref ri, rfl, .ref fa, rfl, ri, fa, _, wds, many, hues, rfl, rid.mono (tups_same sm5), .inl hf5, gst, gr, fun H6 lt s6 nlt hlt => ?_⟩
        have s06 := sm5.trans s6
        -- number
        refine ⟨.ref oa, rfl, oa, rfl, ⟨_, .inl (.inl (s06 _ _ ho))⟩, fun D nD => ?_⟩
        refine lc_tup (K := K) (a := oa) (xs := ord.map V.int) (fun i H7 => Same H6 H7 ∧ H7 D = some (.lst (((ord.take i).filter fun z => decide (z ∈ broL (stand tb tk) wds wds.length)).map V.int))) ⟨same_upd nD, upd_same⟩ (fun i H7 _ p => .inl (.inl (p.1 _ _ (s06 _ _ ho)))) (fun i x H7 hx p => ?_) (fun H7 p => ?_)
        · obtain ⟨z, ez, rfl⟩ := map_get hx
          obtain ⟨s7, hD⟩ := p
          have hz := go.mem z (List.mem_of_getElem? ez)
          have ol := go.len
          refine ⟨rfl, .int z, rfl, .ref lt, rfl, .int z, (broL (stand tb tk) wds wds.length).map .int, .int z, .lst (.inl (.inl (s7 _ _ hlt))) (dpInts _), (fine_int hz.1 (by omega)).shaped (by decide), fb.shaped (by decide), _, rfl, ?_⟩
          rw [Gv.any_ints]
          have et : (ord.take (i + 1)).filter (fun z => decide (z ∈ broL (stand tb tk) wds wds.length)) = (ord.take i).filter (fun z => decide (z ∈ broL (stand tb tk) wds wds.length)) ++ (if z ∈ broL (stand tb tk) wds wds.length then [z] else []) := by
            rw [take_snoc ez, List.filter_append]
            congr 1
            by_cases c : z ∈ broL (stand tb tk) wds wds.length
            · simp [c]
            · simp [c]
          refine ite2 (fun e => ?_) (fun e => ?_)
          · refine ⟨.int z, rfl, _, hD, ?_, same_put s7 nD, ?_⟩
            · rw [List.length_map]
              have a := List.length_filter_le (fun z => decide (z ∈ broL (stand tb tk) wds wds.length)) (ord.take i)
              rw [List.length_take] at a
              exact small1000 (by omega)
            · rw [upd_same, et, if_pos (of_decide_eq_true e), List.map_append]
              rfl
          · refine ⟨s7, ?_⟩
            rw [et, if_neg (fun c => e (decide_eq_true c)), List.append_nil]
            exact hD
        obtain ⟨s7, hD⟩ := p
        rw [List.length_map, List.take_length] at hD
        have hfirst := first_filter (fs := stand tb tk) go
        rw [ef, List.head?_eq_getElem?] at hfirst
        refine ⟨D, _, 0, _, rfl, rfl, .inl (.inl hD), atI_nat (j := 0) (map_at hfirst), ?_⟩
        -- places
        have s07 := s06.trans s7
        have s57 := s6.trans s7
        refine ⟨.ref ri, rfl, ri, _, 2, _, rfl, rfl, .inl (.inl (s07 _ _ h1)), atI_nat (j := 2) rfl, .int k, rfl, wt, _, k, _, rfl, rfl, .inl (.inl (s07 _ _ h2)), atI_of k0 (List.getElem?_eq_getElem kn), _, _, 0, _, rfl, rfl, .inl (.inl (s07 _ _ i1)), atI_nat (j := 0) rfl, ?_⟩
        -- no next draw
        refine ⟨(by show 0 ≤ sizeLine; decide), fun l8 nl8 => ?_⟩
        have s8 := same_upd (o := .lst []) nl8
        have s58 := s57.trans s8
        have s08 := s07.trans s8
        have hl8 := s58 _ _ hl5
        have lsl := pairedLen pl5
        have lfl := left_len gk
        refine ⟨.ref pa, rfl, pa, rfl, ⟨_, (i2.mono (tups_same s08)).sq⟩, fun D2 nD2 => ?_⟩
        refine lc_tup (K := K) (a := pa) (xs := wd.1.map V.int) (fun i H9 => Same (upd H7 l8 (.lst [])) H9 ∧ ∃ as : List Addr, H9 D2 = some (.lst (as.map V.ref)) ∧ Paired (IsInts H9) as ((wd.1.take i).map (leftAt tb tk)) ∧ ∀ d ∈ as, d ≠ D2) ⟨same_upd nD2, [], upd_same, .nil, (fun _ h => nomatch h)⟩ (fun i H9 _ p => ((i2.mono (tups_same s08)).mono (tups_same p.1)).sq) (fun i x H9 hx p => ?_) (fun H9 p => ?_)
        · obtain ⟨p', ep, rfl⟩ := map_get hx
          obtain ⟨s9, as, hD9, pa9, nas⟩ := p
          have hpp := hpr p' (List.mem_of_getElem? ep)
          obtain ⟨d, ed, hd⟩ := pairedGet pl5 (leftAt_get gk hpp.1 hpp.2)
          have al := pairedLen pa9
          have s59 := s58.trans s9
          have hd9 : IsInts H9 d (leftAt tb tk p') := s59 _ _ hd
          have nd9 : d ≠ D2 := fun z => by
            have := s58 _ _ hd
            rw [z, nD2] at this
            cases this
          refine ⟨rfl, yes_if ?_⟩
          refine ⟨.ref lf, rfl, .int p', rfl, lf, _, p', _, rfl, rfl, .inl (.inl (s59 _ _ hl5)), atI_of hpp.1 ed, _, hD9, ?_, same_put s9 nD2, as ++ [d], ?_, ?_, ?_⟩
          · rw [List.length_map, al, List.length_map, List.length_take]
            exact small1000 (by omega)
          · rw [upd_same, List.map_append]
            rfl
          · rw [take_snoc ep, List.map_append]
            exact pairedSnoc (paired_upd pa9 nas) (by show upd _ D2 _ d = _; rw [upd_ne nd9]; exact hd9)
          · intro b hb
            rcases List.mem_append.mp hb with hb | hb
            · exact nas b hb
            · rw [List.mem_singleton.mp hb]
              exact nd9
        obtain ⟨s9, as, hD9, pa9, nas⟩ := p
        rw [List.length_map, List.take_length] at pa9
        have fineL : Fine (listsD (wd.1.map (leftAt tb tk))) 3 100000 := by
          refine (Fine.list (fineAll_map _ (n := 2) (w := 15000) fun l hm => ?_)).mono (Nat.le_refl _) (by rw [List.length_map]; omega)
          obtain ⟨p', hp', rfl⟩ := List.mem_map.mp hm
          have hpp := hpr p' hp'
          have hpn : p'.toNat < tb.length := by omega
          have e := left_get gk hpn
          rw [leftAt_get gk hpp.1 hpp.2] at e
          have e2 := Option.some.inj e
          have hmem := getD_mem (d := []) hpn
          refine (fine_ints fun z hz => ?_).mono (Nat.le_refl _) ?_
          · rw [e2] at hz
            have := gt.hue _ hmem z (List.mem_of_mem_drop hz)
            have := gr.h4
            omega
          · rw [e2, List.length_drop]
            have := gt.few _ hmem
            omega
        refine ⟨.list [], (wd.1.map (leftAt tb tk)).map (fun l : List Int => PyData.list (l.map PyData.int)), .lst (.inl (.inl (s9 _ _ upd_same))) .nil, .lst (.inl (.inl hD9)) (dpTabs pa9), PySem.W.shaped_ints [], fineL.shaped (by decide), _, rfl, ?_⟩
        rw [List.map_map]
        have eAny := any_left gk wd.1 hpr
        rw [show ((fun l : List Int => PyData.list (l.map .int)) ∘ leftAt tb tk) = (fun p => PyData.list ((leftAt tb tk p).map .int)) from rfl, eAny]
        have s59 := s58.trans s9
        have s09 := s08.trans s9
        have hf9 := s59 _ _ hf5
        have hl9 := s59 _ _ hl5
        have pl9 := pairedMap (fun _ _ e => s59 _ _ e) pl5
        have hlog9 := hlog5.seqs (seqs_same s59)
        refine ite2 (fun e => ?_) (fun e => ?_)
        · have ec : canN tb tk wd.1 = false := by
            cases c : canN tb tk wd.1 with
            | true => rw [c] at e; exact absurd e (by decide)
            | false => rfl
          rw [← he] at ec
          rw [ec, if_neg (by decide)] at hgo
          have eR : (false, stand tb tk, log) = R := Option.some.inj hgo
          refine ⟨.ref fa, rfl, fa, _, rfl, .inl ⟨.inl (.inl hf9), fun ft nft => ?_⟩⟩
          have s10 := same_upd (o := .tup ((stand tb tk).map V.int)) nft
          refine ⟨.ref la, rfl, (by show 3 ≤ sizeLine; decide), fun t nt => ?_⟩
          have s11 := same_upd (o := .tup [.str "spent", .ref ft, .ref la]) nt
          refine q _ t R ((s09.trans s10).trans s11) (s09.free (s10.free nt)) hR ?_
          rw [← eR]
          exact ⟨ft, la, upd_same, s11 _ _ upd_same, hlog9.seqs (seqs_same (s10.trans s11)), nla0⟩
        · have ec : canN tb tk wd.1 = true := by
            cases c : canN tb tk wd.1 with
            | true => rfl
            | false => rw [c] at e; exact absurd rfl e
          rw [← he] at ec
          rw [ec, if_pos rfl] at hgo
          have cn := can_of gr nd gt hw he ec
          obtain ⟨g2, r2⟩ := bumpA_good gk cn
          have one := gw.one
          obtain ⟨es, hla9, pe⟩ := id hlog9
          have el := pairedLen pe
          -- log
          refine ⟨.ref la, rfl, .inl ⟨rfl, _, .inl (.inl hla9)⟩, .int k, rfl, .ref pa, rfl, pa, rfl, ⟨_, (i2.mono (tups_same s09)).sq⟩, fun D3 nD3 => ?_⟩
          refine lc_tup (K := K) (a := pa) (xs := wd.1.map V.int) (fun i H10 => Same H9 H10 ∧ H10 D3 = some (.lst ((huesA (stand tb tk) (wd.1.take i)).map V.int))) ⟨same_upd nD3, upd_same⟩ (fun i H10 _ p => ((i2.mono (tups_same s09)).mono (tups_same p.1)).sq) (fun i x H10 hx p => ?_) (fun H10 p => ?_)
          · obtain ⟨p', ep, rfl⟩ := map_get hx
            obtain ⟨s10, hD3⟩ := p
            have hpp := gw.pl p' (List.mem_of_getElem? ep)
            refine ⟨rfl, yes_if ?_⟩
            refine ⟨.ref fa, rfl, .int p', rfl, fa, _, p', _, rfl, rfl, .inl (.inl (s10 _ _ hf9)), atI_fs gst hpp.1 hpp.2, _, hD3, ?_, same_put s10 nD3, ?_⟩
            · simp [huesA]
              exact small1000 (by omega)
            · rw [upd_same, take_snoc ep]
              simp [huesA]
          obtain ⟨s10, hD3⟩ := p
          rw [List.length_map, List.take_length] at hD3
          refine ⟨D3, _, rfl, .inl ⟨.inl (.inl hD3), fun r nr => ?_⟩⟩
          have s11 := same_upd (o := .tup ((huesA (stand tb tk) wd.1).map V.int)) nr
          refine ⟨(by show 2 ≤ sizeLine; decide), fun e12 ne12 => ?_⟩
          have s12 := same_upd (o := .tup [.int k, .ref r]) ne12
          have s912 := (s10.trans s11).trans s12
          have hla12 := s912 _ _ hla9
          refine ⟨la, _, .ref e12, rfl, rfl, hla12, ?_, ?_⟩
          · rw [List.length_map, el]
            exact Nat.lt_of_le_of_lt (show log.length ≤ 6000 by omega) (by decide)
          have hr12 : upd (upd H10 r (.tup ((huesA (stand tb tk) wd.1).map V.int))) e12 (.tup [.int k, .ref r]) r = some (.tup ((huesA (stand tb tk) wd.1).map V.int)) := s12 _ _ upd_same
          have he12 : upd (upd H10 r (.tup ((huesA (stand tb tk) wd.1).map V.int))) e12 (.tup [.int k, .ref r]) e12 = some (.tup [.int k, .ref r]) := upd_same
          have hf12 := s912 _ _ hf9
          have hl12 := s912 _ _ hl9
          have pl12 := pairedMap (fun _ _ e => s912 _ _ e) pl9
          have pe12 := pairedMap (fun _ _ e => e.mono (tups_same s912)) pe
          have s012 := s09.trans s912
          generalize upd (upd H10 r (.tup ((huesA (stand tb tk) wd.1).map V.int))) e12 (.tup [.int k, .ref r]) = H12 at hr12 he12 hf12 hl12 pl12 pe12 s012 hla12
          have tu13 : Tups H12 (upd H12 la (.lst (es.map V.ref ++ [.ref e12]))) := tups_lst hla12
          have hlog13 : IsLog (upd H12 la (.lst (es.map V.ref ++ [.ref e12]))) la (log ++ [(k, huesA (stand tb tk) (plc wds k))]) := by
            refine ⟨es ++ [e12], by rw [upd_same, List.map_append]; rfl, pairedSnoc (pairedMap (fun _ _ e => e.mono tu13) pe12) ⟨r, tu13 _ _ he12, ?_⟩⟩
            rw [he]
            exact tu13 _ _ hr12
          have s013 : Same H (upd H12 la (.lst (es.map V.ref ++ [.ref e12]))) := same_put s012 nla0
          have hf13 : upd H12 la (.lst (es.map V.ref ++ [.ref e12])) fa = some (.lst ((stand tb tk).map V.int)) := by rw [upd_ne nfl]; exact hf12
          have hl13 : upd H12 la (.lst (es.map V.ref ++ [.ref e12])) lf = some (.lst (ls.map V.ref)) := by rw [upd_ne nll]; exact hl12
          have pl13 : Paired (IsInts (upd H12 la (.lst (es.map V.ref ++ [.ref e12])))) ls (leftOf tb tk) := paired_upd pl12 fun d hd => (nls d hd).2.2.2
          generalize upd H12 la (.lst (es.map V.ref ++ [.ref e12])) = H13 at hlog13 s013 hf13 hl13 pl13
          -- the draws
          refine ⟨.ref pa, rfl, pa, rfl, ⟨_, (i2.mono (tups_same s013)).sq⟩, ?_⟩
          refine for_tup (K := K) (a := pa) (xs := wd.1.map V.int) (fun i σ H14 => Same H H14 ∧ (∃ ls : List Addr, H14 fa = some (.lst ((stand tb (bumpA tk (wd.1.take i))).map V.int)) ∧ H14 lf = some (.lst (ls.map V.ref)) ∧ Paired (IsInts H14) ls (leftOf tb (bumpA tk (wd.1.take i))) ∧ (∀ d ∈ ls, H d = none ∧ d ≠ fa ∧ d ≠ lf ∧ d ≠ la)) ∧ GoodK tb (bumpA tk (wd.1.take i)) ∧ Can tb (bumpA tk (wd.1.take i)) (wd.1.drop i) ∧ IsLog H14 la (log ++ [(k, huesA (stand tb tk) (plc wds k))]) ∧
            ∃ y6 y9, σ = [some (.ref ri), some (.ref ta), some (.ref oa), some (.ref fa), some (.ref lf), some (.ref la), y6, some (.int k), some (.ref pa), y9, none, none]) ⟨s013, ⟨ls, hf13, hl13, pl13, nls⟩, gk, by rw [List.drop_zero, List.take_zero, ← he]; exact cn, hlog13, _, _, rfl⟩ (fun i σ H14 _ p => (i2.mono (tups_same p.1)).sq) (fun i x σ H14 hx pp => ?_) (fun σ H14 pp => ?_)
          · obtain ⟨s14, ⟨ls, hf14, hl14, pl14, nls14⟩, gk14, cn14, hlog14, y6', y9', rfl⟩ := pp
            obtain ⟨p, ep, rfl⟩ := map_get hx
            have hpp := hpr p (List.mem_of_getElem? ep)
            have hdr : wd.1.drop i = p :: wd.1.drop (i + 1) := by
              have hi := (List.getElem?_eq_some_iff.mp ep)
              rw [List.drop_eq_getElem_cons hi.1, hi.2]
            rw [hdr] at cn14
            have hpn : p.toNat < tb.length := by omega
            have lat := leftAt_get gk14 hpp.1 hpp.2
            have nx := cn14.nx p List.mem_cons_self
            obtain ⟨x0, r0, ex⟩ : ∃ x r, leftAt tb (bumpA tk (wd.1.take i)) p = x :: r := by
              cases c : leftAt tb (bumpA tk (wd.1.take i)) p with
              | nil => exact absurd nx ((leftAt_nil gk14 hpp.1 hpp.2).mp c)
              | cons x r => exact ⟨x, r, rfl⟩
            rw [ex] at lat
            obtain ⟨b1, b2, b3⟩ := stand_bump gk14 hpn lat
            obtain ⟨d, ed, hd⟩ := pairedGet pl14 lat
            have dm := List.mem_of_getElem? ed
            have nd4 := nls14 d dm
            have lsl14 := pairedLen pl14
            have lfl14 := left_len gk14
            refine ⟨.ref lf, rfl, .int p, rfl, lf, _, p, _, rfl, rfl, .inl (.inl hl14), atI_of hpp.1 ed, d, _, 0, _, rfl, rfl, .inl (.inl hd), atI_nat (j := 0) (map_at (a := x0) rfl), .ref fa, rfl, .int p, rfl, fa, _, p, p.toNat, rfl, rfl, hf14, ?_, ?_⟩
            · rw [List.length_map, stand_len gk14]
              exact ixN_of hpp.1 hpp.2
            have eset : ((stand tb (bumpA tk (wd.1.take i))).map V.int).set p.toNat (.int x0) = (stand tb (bumpA tk (wd.1.take (i + 1)))).map V.int := by
              rw [take_snoc ep, bumpA_snoc, b1, List.map_set]
            rw [eset]
            have hf15 : upd H14 fa (.lst ((stand tb (bumpA tk (wd.1.take (i + 1)))).map V.int)) fa = some (.lst ((stand tb (bumpA tk (wd.1.take (i + 1)))).map V.int)) := upd_same
            have hl15 : upd H14 fa (.lst ((stand tb (bumpA tk (wd.1.take (i + 1)))).map V.int)) lf = some (.lst (ls.map V.ref)) := by rw [upd_ne (Ne.symm nff)]; exact hl14
            have pl15 : Paired (IsInts (upd H14 fa (.lst ((stand tb (bumpA tk (wd.1.take (i + 1)))).map V.int)))) ls (leftOf tb (bumpA tk (wd.1.take i))) := paired_upd pl14 fun d hd => (nls14 d hd).2.1
            have s15 : Same H (upd H14 fa (.lst ((stand tb (bumpA tk (wd.1.take (i + 1)))).map V.int))) := same_put s14 nfa0
            have hlog15 : IsLog (upd H14 fa (.lst ((stand tb (bumpA tk (wd.1.take (i + 1)))).map V.int))) la (log ++ [(k, huesA (stand tb tk) (plc wds k))]) := hlog14.keep (tups_lst hf14) fun xs e => by rw [upd_ne (Ne.symm nfl)]; exact e
            generalize upd H14 fa (.lst ((stand tb (bumpA tk (wd.1.take (i + 1)))).map V.int)) = H15 at hf15 hl15 pl15 s15 hlog15
            have hd15 : IsInts H15 d (x0 :: r0) := by
              obtain ⟨rr, err, hh⟩ := pairedGetL pl15 ed
              rw [lat] at err
              cases err
              exact hh
            refine ⟨.ref lf, rfl, .int p, rfl, lf, _, p, _, rfl, rfl, .inl (.inl hl15), atI_of hpp.1 ed, 1, rfl, d, _, rfl, .inl (.inl hd15), fun np nnp => ?_⟩
            have ecut : cutV ((x0 :: r0).map V.int) (some 1) none = r0.map V.int := cut_from V.int (x0 :: r0) 1
            rw [ecut]
            have s16 := same_upd (o := .lst (r0.map V.int)) nnp
            have hl16 := s16 _ _ hl15
            refine ⟨.ref lf, rfl, .int p, rfl, lf, _, p, p.toNat, rfl, rfl, hl16, ?_, ?_⟩
            · rw [List.length_map]
              exact ixN_of hpp.1 (by omega)
            have nnl : np ≠ lf := (ne_of_none hl15 nnp).symm
            have nnf : np ≠ fa := (ne_of_none hf15 nnp).symm
            have pl16 := pairedMap (fun _ _ e => s16 _ _ e) pl15
            refine ⟨same_put (s15.trans s16) nlf0, ⟨ls.set p.toNat np, ?_, ?_, ?_, ?_⟩, ?_, ?_, ?_, _, _, rfl⟩
            · rw [upd_ne nff]
              exact s16 _ _ hf15
            · rw [upd_same, List.map_set]
            · rw [take_snoc ep, bumpA_snoc, b2]
              refine paired_set (paired_upd pl16 fun d hd => (nls14 d hd).2.2.1) ?_
              show upd _ lf _ np = _
              rw [upd_ne nnl]
              exact upd_same
            · intro b hb
              rcases List.mem_or_eq_of_mem_set hb with z | z
              · exact nls14 b z
              · rw [z]
                refine ⟨s15.free nnp, nnf, nnl, fun z2 => ?_⟩
                obtain ⟨es', hh, _⟩ := hlog15
                rw [z2, hh] at nnp
                cases nnp
            · rw [take_snoc ep, bumpA_snoc]
              exact good_bump gk14 hpn b3
            · rw [take_snoc ep, bumpA_snoc]
              exact cn14.tail
            · refine (hlog15.seqs (seqs_same s16)).keep (tups_lst hl16) fun xs e => ?_
              rw [upd_ne (Ne.symm nll)]
              exact e
          · obtain ⟨s14, ⟨ls, hf14, hl14, pl14, nls14⟩, gk14, cn14, hlog14, y6', y9', rfl⟩ := pp
            rw [List.length_map, List.take_length, ← he] at hf14 pl14
            refine ⟨s14, bumpA tk (plc wds k), _, ls, hf14, hl14, pl14, nls14, g2, hlog14, okl.snoc k0 k1 hw he hbk, ?_, hgo, _, _, _, _, rfl⟩
            rw [List.length_append, List.length_singleton]
            rw [he] at r2
            rw [he]
            omega
end
end Rd

set_option Elab.async false
set_option linter.all false
set_option maxRecDepth 100000
set_option maxHeartbeats 4000000
namespace Rd
open PySem PySem.Spec PyProof.Rows L2 Dt
abbrev sMnd : Stmt := topS 14
abbrev nMnd : List Str := ["wishes", "pair", "number", "row"]
theorem scMnd : FnScope nMnd ["wishes", "pair"] (defScope sMnd) := ⟨rfl, rfl, rfl, by decide +kernel, rfl, by decide +kernel, by decide +kernel⟩
abbrev sIlg : Stmt := topS 15
abbrev nIlg : List Str := ["riddle", "log", "wishes", "pair"]
theorem scIlg : FnScope nIlg ["riddle", "log"] (defScope sIlg) := ⟨rfl, rfl, rfl, by decide +kernel, rfl, by decide +kernel, by decide +kernel⟩
abbrev sTol : Stmt := topS 16
abbrev nTol : List Str := ["riddle", "filling", "log", "wishes", "table", "number", "row", "place", "hue"]
theorem scTol : FnScope nTol ["riddle", "filling", "log"] (defScope sTol) := ⟨rfl, rfl, rfl, by decide +kernel, rfl, by decide +kernel, by decide +kernel⟩
def spNum : Sp := fun vs H Q _ => ∃ t lo hi : Int, vs = [.int t, .int lo, .int hi] ∧ Q (.bl (decide (lo ≤ t ∧ t ≤ hi))) H
def spHus (Ps : List Addr) : Sp := fun vs H Q _ => ∃ (ra : Addr) (row : Dt.Row) (n hues : Int), vs = [.ref ra, .int n, .int hues] ∧ n = (row.length : Int) ∧ Tabs Ps H ∧ IsRow H ra row ∧ (∀ h ∈ row, 0 ≤ h ∧ h < hues) ∧ ∀ H', FrS Ps H H' → Q (.bl true) H'
def spMnd : Sp := fun vs H Q _ => ∃ (wt e : Addr) (was : List Addr) (wds : List WD) (many hues : Int) (x : Int × List Int), vs = [.ref wt, .ref e] ∧ H wt = some (.tup (was.map V.ref)) ∧ Paired (IsWish H) was wds ∧ GoodR many hues wds ∧ IsEnt H e x ∧ Q (.bl (entB wds x)) H
def spIlg (Ps : List Addr) : Sp := fun vs H Q _ => ∃ (ri la : Addr) (many hues : Int) (wds : List WD) (log : Log), vs = [.ref ri, .ref la] ∧ IsRid H ri many hues wds ∧ GoodR many hues wds ∧ IsLog H la log ∧ Tabs Ps H ∧ ∀ H', FrS Ps H H' → Q (.bl (logB wds log)) H'
def spTol (Ps : List Addr) : Sp := fun vs H Q _ => ∃ (ri fa la : Addr) (many hues : Int) (wds : List WD) (fs : List Int) (log : Log), vs = [.ref ri, .ref fa, .ref la] ∧ IsRid H ri many hues wds ∧ GoodR many hues wds ∧ IsRow H fa fs ∧ GoodF many hues fs ∧ IsLog H la log ∧ LogOk wds log ∧ log.length ≤ 6000 ∧ Tabs Ps H ∧
  ∀ H' ta das, FrS Ps H H' → NewTab H H' ta das (toldT wds fs log) → Q (.ref ta) H'
def spIsr (Ps : List Addr) : Sp := fun vs H Q _ => ∃ (ri oa fa la : Addr) (many hues : Int) (wds : List WD) (ord : List Int) (b : Bool) (fs : List Int) (log : Log), vs = [.ref ri, .ref oa, .str (endS b), .ref fa, .ref la] ∧ IsRid H ri many hues wds ∧ GoodR many hues wds ∧ (∀ wd ∈ wds, wd.1.Nodup) ∧ H oa = some (.tup (ord.map V.int)) ∧ GoodO wds.length ord ∧ IsRow H fa fs ∧ GoodF many hues fs ∧ IsLog H la log ∧ log.length ≤ 6000 ∧ (logB wds log = true → ∀ ds ∈ toldT wds fs log, ds.length ≤ 1000) ∧ Tabs Ps H ∧
  ∀ H', FrS Ps H H' → Q (.bl (isRunB wds ord b fs log)) H'
structure TxtI (mg : Str → Option Value) : Prop where
  m_isinstance : mg "isinstance" = none
  m_int : mg "int" = none
  m_bool : mg "bool" = none
  m_tuple : mg "tuple" = none
  m_len : mg "len" = none
  m_all : mg "all" = none
structure TxtI1 (P : Program) (w : World) (K : PySem.W.Frag) (mg : Str → Option Value) (base : Heap) : Prop extends TxtI mg where
  c_is_number : Cal P w K mg base 1 "is_number" ["thing", "low", "high"] spNum
structure TxtI2 (P : Program) (w : World) (K : PySem.W.Frag) (mg : Str → Option Value) (base : Heap) : Prop where
  m_all : mg "all" = none
  c_is_mending : Cal P w K mg base 1 "is_mending" ["wishes", "pair"] spMnd
structure TxtI3 (P : Program) (w : World) (K : PySem.W.Frag) (mg : Str → Option Value) (base : Heap) (Ps : List Addr) : Prop where
  m_zip : mg "zip" = none
  m_enumerate : mg "enumerate" = none
  c_is_log : Cal P w K mg base 3 "is_log" ["riddle", "log"] (spIlg Ps)
structure TxtI4 (P : Program) (w : World) (K : PySem.W.Frag) (mg : Str → Option Value) (base : Heap) (Ps : List Addr) : Prop where
  c_are_hues : Cal P w K mg base 3 "are_hues" ["thing", "length", "hues"] (spHus Ps)
  c_is_log : Cal P w K mg base 3 "is_log" ["riddle", "log"] (spIlg Ps)
  c_told_back : Cal P w K mg base 4 "told_back" ["riddle", "filling", "log"] (spTol Ps)
  c_run : Cal P w K mg base 6 "run" ["riddle", "table", "order"] (spRun Ps)
section
variable {P : Program} {w : World} {K : PySem.W.Frag} {mg : Str → Option Value} {base : Heap}
theorem ok_mnd {f : Addr} {fd : FuncData} {k : Nat} (F : Fun K "is_mending" "is_mending" sMnd f fd) (T : TxtI mg) : FnOk P w K mg base CX0 (k + 1) f fd ["wishes", "pair"] spMnd := by
  refine F.ok scMnd (fun vs H Q E h => ?_) (fun cdv A outer s H vs Q E hr h => ?_)
  · obtain ⟨wt, e, was, wds, many, hues, x, rfl, _⟩ := h
    rfl
  · obtain ⟨wt, e, was, wds, many, hues, x, rfl, hw, pw, gr, ⟨r, he, hr5⟩, q⟩ := h
    refine ⟨_, (pss_cons (ps_asg (pv 1) (pg_tup rfl (pgs_cons (pg_name (i := 2) scMnd.nd rfl (Or.inl rfl)) (pgs_cons (pg_name (i := 3) scMnd.nd rfl (Or.inl rfl)) pgs_nil))))
  (pss_one (ps_ret (pe_and (pe_chain op_le op_lt pe_int (pv 2) (pe_callB call_len_seq (by rfl) T.m_len (by decide +kernel) (pa_cons (pv 0) pa_nil))) (pe_one (pe_cmpR (Dt.op_inT (units65 hr)) (pv 3) (pe_ix ix_tup (pe_ix ix_tup (pv 0) (pv 2) (fun _ _ => rfl)) pe_int (fun _ _ => rfl)) (by rfl))))))), ?_⟩
    have wl := pairedLen pw
    refine ⟨.ref e, rfl, e, _, rfl, .inl (.inl he), rfl, .int x.1, [.ref r], rfl, .ref r, [], rfl, rfl, ?_⟩
    have eF : ¬ (0 ≤ x.1 ∧ x.1 < (wds.length : Int)) → entB wds x = false := fun z => decide_eq_false fun y => z ⟨y.1, y.2.1⟩
    refine ⟨.int x.1, rfl, 0, x.1, rfl, rfl, _, rfl, ite2 (fun e0 => ?_) (fun e0 => ?_)⟩
    · have x0 : 0 ≤ x.1 := by simpa using e0
      refine ⟨.ref wt, rfl, wt, _, rfl, .inr (.inl (.inl hw)), x.1, _, rfl, rfl, _, rfl, ?_⟩
      rw [List.length_map, wl]
      refine ite2 (fun e1 => ?_) (fun e1 => ?_)
      · have x1 : x.1 < (wds.length : Int) := by simpa using e1
        have kn : x.1.toNat < was.length := by omega
        obtain ⟨wd, hwd, isw⟩ := pairedGetL pw (List.getElem?_eq_getElem kn)
        obtain ⟨pa, ra, rs, i1, i2, i3, i4⟩ := id isw
        have gw := gr.each wd (List.mem_of_getElem? hwd)
        refine ⟨.ref r, rfl, .ref wt, rfl, .int x.1, rfl, wt, _, x.1, _, rfl, rfl, .inl (.inl hw), atI_of x0 (List.getElem?_eq_getElem kn), _, _, 1, _, rfl, rfl, .inl (.inl i1), atI_nat (j := 1) rfl, rowD x.2, wd.2.map rowD, dpRow hr5, .tup (.inl (.inl i3)) (dpRows i4), shaped_row _, ?_, ?_⟩
        · refine (Fine.tuple (fineAll_map wd.2 (n := 2) (w := 64) fun r hr => fine_row (fun z hz => ?_) ?_)).shaped (by decide)
          · have := (gw.row r hr).2 z hz
            have := gr.h4
            omega
          · have := (gw.row r hr).1
            have := gw.three
            omega
        · rw [anyRows]
          have ee : entB wds x = decide (x.2 ∈ wd.2) := by
            unfold entB
            rw [getD_of hwd]
            by_cases c : x.2 ∈ wd.2
            · rw [decide_eq_true c]; exact decide_eq_true ⟨x0, x1, c⟩
            · rw [decide_eq_false c]; exact decide_eq_false fun z => c z.2.2
          rw [ee] at q
          exact q
      · have x1 : ¬ x.1 < (wds.length : Int) := by simpa using e1
        rw [eF fun z => x1 z.2] at q
        exact q
    · have x0 : ¬ 0 ≤ x.1 := by simpa using e0
      rw [eF fun z => x0 z.1] at q
      exact ⟨false, rfl, iteF q⟩
theorem ok_ilg {f c Pl : Addr} {fd : FuncData} {Ps : List Addr} {k : Nat} (F : FunC K "is_log" "is_log" sIlg f fd (.ref c)) (TB : GxR.TabB base mg c Pl) (hP : Pl ∈ Ps) (T : TxtI2 P w K mg base) : FnOk P w K mg base CX0 (k + 3) f fd ["riddle", "log"] (spIlg Ps) := by
  refine F.ok scIlg (fun vs H Q E h => ?_) (fun A outer s H vs Q E hr h => ?_)
  · obtain ⟨ri, la, many, hues, wds, log, rfl, _⟩ := h
    rfl
  · obtain ⟨ri, la, many, hues, wds, log, rfl, rid, gr, hlog, hT, q⟩ := h
    refine ⟨_, (pss_cons (ps_set (i := 2) scIlg.nd rfl (Or.inr rfl) (pe_ix ix_tup (pv 0) pe_int (fun _ _ => rfl)))
  (pss_one (ps_ret (Gx.pe_allX (own := [("pair", 3)]) (te := tCall spMnd [] E0 (tCons (tVar 2) (tCons (tVar 3) tNil))) hr (by rfl) T.m_all rfl scIlg.nd TB rfl (blkOk_by (own := [("pair", 3)]) (N := nIlg) (sc := defScope sIlg) (by decide +kernel)) ⟨rfl, by decide +kernel, rfl⟩ (pi_list (pv 1))
   (fun _ _ _ _ _ _ hA => (pg_name (i := 3) scIlg.nd rfl (Or.inl rfl))) (fun _ _ _ _ _ _ hA => pts_nil) (fun _ _ _ _ _ _ hA => (pe_cal T.c_is_mending (hA.mono (by omega)) (by rfl) (pa_cons (pv 2) (pa_cons (pv 3) pa_nil)))))))), ?_⟩
    obtain ⟨wt, was, h1, h2, h3⟩ := id rid
    obtain ⟨es, hl, pe⟩ := id hlog
    have el := pairedLen pe
    refine ⟨.ref ri, rfl, ri, _, 2, _, rfl, rfl, .inl (.inl h1), atI_nat (j := 2) rfl, .ref la, rfl, la, rfl, ⟨_, .inl (.inl hl)⟩, hT _ hP, fun H2 tb => ?_⟩
    have f2 := FrS.one hT hP tb
    refine Gx.all_list (K := K) (a := la) (xs := es.map V.ref) (fun i H3 => FrS Ps H H3 ∧ logB wds (log.take i) = true) ⟨f2, rfl⟩ (fun i H3 _ f3 => .inl (.inl ((f3.1.seqs hT).2 _ _ hl))) (fun i x H3 hx f3 => ?_) (fun H3 f3 => ?_)
    · obtain ⟨e, ee, rfl⟩ := map_get hx
      obtain ⟨f3, e3⟩ := f3
      obtain ⟨x, ex, isx⟩ := pairedGetL pe ee
      have tu := f3.tups hT
      refine ⟨rfl, yes_if ?_⟩
      refine ⟨.ref wt, rfl, .ref e, rfl, wt, e, was, wds, many, hues, x, rfl, tu _ _ h2, pairedMap (fun _ _ z => IsWish.mono tu z) h3, gr, isx.mono tu, _, rfl, ?_⟩
      have e4 : logB wds (log.take (i + 1)) = (logB wds (log.take i) && entB wds x) := by
        rw [take_snoc ex, logB, logB, List.all_append]
        simp
      cases c : entB wds x with
      | true =>
        rw [if_pos rfl]
        exact ⟨f3, by rw [e4, e3, c]; rfl⟩
      | false =>
        rw [if_neg (by decide)]
        have e5 : logB wds log = false := by
          rw [logB, List.all_eq_false]
          exact ⟨x, List.mem_of_getElem? ex, by rw [c]; decide⟩
        have := q H3 f3
        rw [e5] at this
        exact this
    · obtain ⟨f3, e3⟩ := f3
      rw [List.length_map, el, List.take_length] at e3
      have := q H3 f3
      rw [e3] at this
      exact this
set_option maxHeartbeats 16000000 in
end
end Rd

set_option Elab.async false
set_option linter.all false
set_option maxRecDepth 100000
set_option maxHeartbeats 4000000
namespace Rd
open PySem PySem.Spec PyProof.Rows L2 Dt
abbrev sLtl : Stmt := topS 27
abbrev nLtl : List Str := ["riddle", "filling", "log", "table", "place", "draws", "number", "row", "places"]
theorem scLtl : FnScope nLtl ["riddle", "filling", "log"] (defScope sLtl) := ⟨rfl, rfl, rfl, by decide +kernel, rfl, by decide +kernel, by decide +kernel⟩
theorem hAt_one : ∀ (ps row : List Int) (p : Int), ps.Nodup → (∀ x ∈ ps, 0 ≤ x) → 0 ≤ p → row.length = ps.length → p ∈ ps → hAt ps row p.toNat = [row.getD (ps.idxOf p) 0]
  | [], _, _, _, _, _, _, h => nomatch h
  | q :: r, [], _, _, _, _, hl, _ => by cases hl
  | q :: r, h :: s, p, nd, h0, hp, hl, hm => by
    obtain ⟨n1, n2⟩ := List.nodup_cons.mp nd
    have hq := h0 q List.mem_cons_self
    rw [hAt_cons]
    by_cases e : q = p
    · subst e
      rw [if_pos rfl, hAt_none r s _ (fun x hx z => n1 (by have := h0 x (List.mem_cons_of_mem _ hx); rw [show q = x by omega]; exact hx)), List.idxOf_cons_self]
      rfl
    · have hm2 : p ∈ r := by
        rcases List.mem_cons.mp hm with z | z
        · exact absurd z.symm e
        · exact z
      have nq : ¬ q.toNat = p.toNat := fun z => e (by omega)
      have ei : (q :: r).idxOf p = r.idxOf p + 1 := by
        rw [List.idxOf_cons]
        have eb : (q == p) = false := by rw [beq_eq_false_iff_ne]; exact e
        rw [eb]
        rfl
      rw [if_neg nq, hAt_one r s p n2 (fun x hx => h0 x (List.mem_cons_of_mem _ hx)) hp (by simpa using hl) hm2, ei]
      rfl
def hAtE (wds : List WD) (p : Int) (e : Int × List Int) : List Int := hAt (plc wds e.1) e.2 p.toNat
theorem fold_rev {α β : Type} (g : α → List β) {l : List α} {j : Nat} {e : α} (h : l.reverse[j]? = some e) : (l.reverse.take (j + 1)).reverse.flatMap g = g e ++ (l.reverse.take j).reverse.flatMap g := by
  rw [take_snoc h, List.reverse_append]
  rfl
theorem flat_le {α : Type} {g : α → List Int} : ∀ {l : List α} {n : Nat}, (∀ x ∈ l, (g x).length ≤ 1) → l.length ≤ n → (l.flatMap g).length ≤ n
  | [], n, _, _ => by simp
  | x :: r, 0, _, h => by cases h
  | x :: r, n + 1, hx, h => by
    have ih := flat_le (g := g) (l := r) (n := n) (fun y hy => hx y (List.mem_cons_of_mem _ hy)) (by simpa using h)
    have := hx x List.mem_cons_self
    rw [List.flatMap_cons, List.length_append]
    omega
theorem hAt_le {wds : List WD} {many hues : Int} {log : Log} (nds : ∀ wd ∈ wds, wd.1.Nodup) (gr : GoodR many hues wds) (okl : LogOk wds log) {x : Int × List Int} (hx : x ∈ log) (i : Nat) : (hAtE wds i x).length ≤ 1 := by
  obtain ⟨x0, x1, wd, hwd, xr⟩ := okl x hx
  have gw := gr.each wd (List.mem_of_getElem? hwd)
  have epl : plc wds x.1 = wd.1 := by
    unfold plc
    rw [List.getD_eq_getElem?_getD, hwd]
    rfl
  unfold hAtE
  rw [epl]
  by_cases c : ((i : Nat) : Int) ∈ wd.1
  · rw [hAt_one wd.1 x.2 i (nds _ (List.mem_of_getElem? hwd)) (fun z hz => (gw.pl z hz).1) (by omega) (gw.row _ xr).1 c]
    exact Nat.le_refl _
  · rw [hAt_none wd.1 x.2 _ fun z hz y => c (by have := (gw.pl z hz).1; rw [show ((i : Nat) : Int) = z by omega]; exact hz)]
    exact Nat.zero_le _
theorem pairedRev {α β : Type} {F : α → β → Prop} : ∀ {l : List α} {m : List β}, Paired F l m → Paired F l.reverse m.reverse
  | _, _, .nil => .nil
  | _, _, .cons h t => by
    rw [List.reverse_cons, List.reverse_cons]
    exact pairedSnoc (pairedRev t) h
def spLtl : Sp := fun vs H Q _ => ∃ (ri fa la : Addr) (many hues : Int) (wds : List WD) (fs : List Int) (log : Log), vs = [.ref ri, .ref fa, .ref la] ∧ IsRid H ri many hues wds ∧ GoodR many hues wds ∧ (∀ wd ∈ wds, wd.1.Nodup) ∧ IsRow H fa fs ∧ GoodF many hues fs ∧ IsLog H la log ∧ LogOk wds log ∧ log.length ≤ 6000 ∧
  ∀ H' ta das, Same H H' → NewTab H H' ta das (toldT wds fs log) → Q (.ref ta) H'
structure TxtRg (mg : Str → Option Value) : Prop where
  m_range : mg "range" = none
section
variable {P : Program} {w : World} {K : PySem.W.Frag} {mg : Str → Option Value} {base : Heap}
set_option maxHeartbeats 16000000 in
theorem ok_ltl {f : Addr} {fd : FuncData} {k : Nat} (F : Fun K "_law_told" "_law_told" sLtl f fd) (T : TxtRg mg) : FnOk P w K mg base CX0 (k + 1) f fd ["riddle", "filling", "log"] spLtl := by
  refine F.ok scLtl (fun vs H Q E h => ?_) (fun cdv A outer s H vs Q E hr h => ?_)
  · obtain ⟨ri, fa, la, many, hues, wds, fs, log, rfl, _⟩ := h
    rfl
  · obtain ⟨ri, fa, la, many, hues, wds, fs, log, rfl, rid, gr, nds, hfa, gf, hlog, okl, ll, q⟩ := h
    refine ⟨_, (pss_cons (ps_set (i := 3) scLtl.nd rfl (Or.inl rfl) (pe_lst pa_nil))
  (pss_cons (ps_for PassesOwn.never rfl (pi_range1 (by rfl) T.m_range (pa_cons (pe_ix ix_tup (pv 0) pe_int (fun _ _ => rfl)) pa_nil)) (pg_name (i := 4) scLtl.nd rfl (Or.inl rfl))
  (pss_cons (ps_set (i := 5) scLtl.nd rfl (Or.inl rfl) (pe_lst (pa_cons (pe_ix ix_tup (pv 1) (pv 4) (fun _ _ => rfl)) pa_nil)))
  (pss_cons (ps_for PassesOwn.never rfl (pi_list (pe_revL (pv 2))) (pg_tup rfl (pgs_cons (pg_name (i := 6) scLtl.nd rfl (Or.inl rfl)) (pgs_cons (pg_name (i := 7) scLtl.nd rfl (Or.inl rfl)) pgs_nil)))
  (pss_cons (ps_set (i := 8) scLtl.nd rfl (Or.inl rfl) (pe_ix ix_tup (pe_ix ix_tup (pe_ix ix_tup (pv 0) pe_int (fun _ _ => rfl)) (pv 6) (fun _ _ => rfl)) pe_int (fun _ _ => rfl)))
  (pss_one (ps_if (pt_cmpR (Dt.op_inT (units65 hr)) (pv 4) (pv 8) (by rfl))
  (pss_one (ps_set (i := 5) scLtl.nd rfl (Or.inl rfl) (pe_op op_cat (pe_lst (pa_cons (pe_ix ix_tup (pv 7) (pe_bmF PySem.F.plainAttrs_tuple PySem.F.slot_tuple_index PySem.F.type_tuple_index mt_indexT (pv 8) (pa_cons (pv 4) pa_nil)) (fun _ _ => rfl)) pa_nil)) (pv 5)))) pss_nil))))
  (pss_one (ps_expr (pe_bm PySem.F.plainAttrs_list PySem.F.slot_list_append PySem.F.type_list_append mt_append (pv 3) (pa_cons (pv 5) pa_nil)))))))
  (pss_one (ps_ret (pv 3))))), ?_⟩
    obtain ⟨wt, was, r1, r2, r3⟩ := id rid
    have wl := pairedLen r3
    obtain ⟨es, hes, pes⟩ := id hlog
    have el := pairedLen pes
    have gl := gf.len
    have m1 := gr.m1
    have m6 := gr.m6
    have tT := toldT_len wds fs log
    refine ⟨(by show 0 ≤ sizeLine; decide), fun ta nta => ?_⟩
    have sta := same_upd (o := .lst []) nta
    refine ⟨.ref ri, rfl, ri, _, 0, _, rfl, rfl, .inl (.inl (sta _ _ r1)), atI_nat (j := 0) rfl, many, rfl, by omega, by omega, ?_⟩
    refine for_range (lo := 0) (n := many.toNat) (fun i σ H3 => Same H H3 ∧ (∃ das : List Addr, das.length = i ∧ NewTab H H3 ta das ((toldT wds fs log).take i)) ∧ ∃ y4 y5 y6 y7 y8, σ = [some (.ref ri), some (.ref fa), some (.ref la), some (.ref ta), y4, y5, y6, y7, y8]) ⟨sta, ⟨[], rfl, upd_same, nta, List.nodup_nil, (fun _ h => nomatch h), .nil⟩, none, none, none, none, none, rfl⟩ (fun i σ H3 hi p => ?_) (fun σ H3 p => ?_)
    · obtain ⟨s3, ⟨das, dl, nt⟩, y4, y5, y6, y7, y8, rfl⟩ := p
      have e0 : (0 : Int) + (i : Int) = i := Int.zero_add _
      rw [e0]
      obtain ⟨n1, n2, n3, n4, n5⟩ := id nt
      have hif : i < fs.length := by omega
      have efs : fs[i]? = some (fs.getD i 0) := by rw [List.getD_eq_getElem?_getD, List.getElem?_eq_getElem hif]; rfl
      -- draws
      refine ⟨.ref fa, rfl, .int i, rfl, fa, _, _, _, rfl, rfl, .inl (.inl (s3 _ _ hfa)), atI_nat (map_at efs), (by show 1 ≤ sizeLine; decide), fun l0 nl0 => ?_⟩
      have s4 := same_upd (o := .lst [V.int (fs.getD i 0)]) nl0
      have hl0 : upd H3 l0 (.lst [V.int (fs.getD i 0)]) l0 = some (.lst [V.int (fs.getD i 0)]) := upd_same
      generalize upd H3 l0 (.lst [V.int (fs.getD i 0)]) = H4 at s4 hl0
      have s04 := s3.trans s4
      -- back
      have hes4 := s04 _ _ hes
      refine ⟨.ref la, rfl, la, _, rfl, .inl (.inl hes4), fun lr nlr => ?_⟩
      have s5 := same_upd (o := .lst ((es.map V.ref).reverse)) nlr
      have hlr : upd H4 lr (.lst ((es.map V.ref).reverse)) lr = some (.lst (es.reverse.map V.ref)) := by rw [upd_same, List.map_reverse]
      have hl05 := s5 _ _ hl0
      have s35 := s4.trans s5
      generalize upd H4 lr (.lst ((es.map V.ref).reverse)) = H5 at s5 hlr hl05 s35
      have s05 := s3.trans s35
      have prev : Paired (IsEnt H) es.reverse log.reverse := pairedRev pes
      refine ⟨lr, rfl, ⟨_, .inl (.inl hlr)⟩, ?_⟩
      refine for_list (K := K) (a := lr) (xs := es.reverse.map V.ref) (fun j σ H6 => Same H5 H6 ∧ ∃ ld, H3 ld = none ∧ H6 ld = some (.lst (((log.reverse.take j).reverse.flatMap (hAtE wds i) ++ [fs.getD i 0]).map V.int)) ∧ ∃ y6 y7 y8, σ = [some (.ref ri), some (.ref fa), some (.ref la), some (.ref ta), some (.int i), some (.ref ld), y6, y7, y8]) ⟨fun _ _ e => e, l0, nl0, hl05, _, _, _, rfl⟩ (fun j σ H6 _ p => .inl (.inl (p.1 _ _ hlr))) (fun j x σ H6 hx p => ?_) (fun σ H6 p => ?_)
      · obtain ⟨e, ee, rfl⟩ := map_get hx
        obtain ⟨x, ex, isx⟩ := pairedGetL prev ee
        obtain ⟨s6, ld, nld, hld, z6, z7, z8, rfl⟩ := p
        have hj : j < log.length := by
          have := (List.getElem?_eq_some_iff.mp ex).1
          rw [List.length_reverse] at this
          exact this
        have s06 := s05.trans s6
        have t06 := tups_same s06
        have xin : x ∈ log := List.mem_reverse.mp (List.mem_of_getElem? ex)
        obtain ⟨x0, x1, wd, hwd, xr⟩ := okl x xin
        have gw := gr.each wd (List.mem_of_getElem? hwd)
        have xl := (gw.row _ xr).1
        have epl : plc wds x.1 = wd.1 := by
          unfold plc
          rw [List.getD_eq_getElem?_getD, hwd]
          rfl
        have kn : x.1.toNat < was.length := by omega
        obtain ⟨wd', hwd', isw⟩ := pairedGetL r3 (List.getElem?_eq_getElem kn)
        have ew : wd' = wd := Option.some.inj (hwd'.symm.trans hwd)
        subst ew
        obtain ⟨pa, ra, rs, i1, i2, i3, i4⟩ := isw.mono t06
        obtain ⟨r, e1, e2⟩ := isx.mono t06
        obtain ⟨oa, ha1, ha2, ha3⟩ := id i2
        refine ⟨e, _, rfl, .inl (.inl e1), rfl, .int x.1, [.ref r], rfl, .ref r, [], rfl, rfl, ?_⟩
        refine ⟨.ref ri, rfl, ri, _, 2, _, rfl, rfl, .inl (.inl (s06 _ _ r1)), atI_nat (j := 2) rfl, .int x.1, rfl, wt, _, _, _, rfl, rfl, .inl (.inl (s06 _ _ r2)), atI_of x0 (List.getElem?_eq_getElem kn), _, _, 0, _, rfl, rfl, .inl (.inl i1), atI_nat (j := 0) rfl, ?_⟩
        have fI : Fine (.int ((i : Nat) : Int)) 1 7 := fine_int (by omega) (by omega)
        have fR : Fine (rowD wd'.1) 2 64 := fine_row (fun z hz => by have := gw.pl z hz; omega) (by have := gw.three; omega)
        refine ⟨.int i, rfl, .ref pa, rfl, .int i, wd'.1.map PyData.int, .int _, .tup i2.sq (dpInts _), fI.shaped (by decide), fR.shaped (by decide), _, rfl, ?_⟩
        rw [Gv.any_ints]
        have sn := fold_rev (hAtE wds i) ex
        have nd := nds _ (List.mem_of_getElem? hwd)
        refine ite2 (fun c => ?_) (fun c => ?_)
        · have pin : ((i : Nat) : Int) ∈ wd'.1 := of_decide_eq_true c
          have hx1 : hAtE wds i x = [x.2.getD (wd'.1.idxOf (i : Int)) 0] := by
            unfold hAtE
            rw [epl]
            exact hAt_one wd'.1 x.2 i nd (fun z hz => (gw.pl z hz).1) (by omega) xl pin
          have ix := List.idxOf_lt_length_of_mem pin
          have gx : x.2[wd'.1.idxOf ((i : Nat) : Int)]? = some (x.2.getD (wd'.1.idxOf (i : Int)) 0) := by rw [List.getD_eq_getElem?_getD, List.getElem?_eq_getElem (by omega)]; rfl
          refine ⟨.ref r, rfl, .ref pa, rfl, ⟨pa, oa, _, rfl, ha1, ha2, ha3⟩, .int i, rfl, pa, wd'.1, i, rfl, rfl, i2.sq, pin, r, _, _, _, rfl, rfl, .inl (.inl e2), atI_nat (map_at gx), (by show 1 ≤ sizeLine; decide), fun l6 nl6 => ?_⟩
          have u6 := same_upd (o := .lst [V.int (x.2.getD (wd'.1.idxOf (i : Int)) 0)]) nl6
          have bl : ((log.reverse.take j).reverse.flatMap (hAtE wds i)).length ≤ j := flat_le (fun z hz => hAt_le nds gr okl (List.mem_reverse.mp (List.mem_of_mem_take (List.mem_reverse.mp hz))) i) (by rw [List.length_reverse, List.length_take]; omega)
          refine ⟨.ref ld, rfl, l6, ld, _, _, rfl, rfl, upd_same, u6 _ _ hld, ?_, fun p np => ?_⟩
          · rw [List.length_map, List.length_append]
            show 1 + (_ + 1) ≤ sizeLine
            exact Nat.le_trans (show 1 + (((log.reverse.take j).reverse.flatMap (hAtE wds i)).length + 1) ≤ 6002 by omega) (by decide)
          have u7 := same_upd (o := .lst ([V.int (x.2.getD (wd'.1.idxOf (i : Int)) 0)] ++ ((log.reverse.take j).reverse.flatMap (hAtE wds i) ++ [fs.getD i 0]).map V.int)) np
          refine ⟨s6.trans (u6.trans u7), p, (s35.trans (s6.trans u6)).free np, ?_, _, _, _, rfl⟩
          rw [upd_same, sn, hx1]
          rfl
        · have pin : ((i : Nat) : Int) ∉ wd'.1 := fun z => c (decide_eq_true z)
          have hx1 : hAtE wds i x = [] := by
            unfold hAtE
            rw [epl]
            exact hAt_none wd'.1 x.2 _ fun z hz y => pin (by have := (gw.pl z hz).1; rw [show ((i : Nat) : Int) = z by omega]; exact hz)
          refine ⟨s6, ld, nld, ?_, _, _, _, rfl⟩
          rw [hld, sn, hx1]
          rfl
      · obtain ⟨s6, ld, nld, hld, z6, z7, z8, rfl⟩ := p
        rw [List.length_map, List.length_reverse, el, show log.length = log.reverse.length by rw [List.length_reverse], List.take_length, List.reverse_reverse] at hld
        have s36 := s35.trans s6
        have n16 := s36 _ _ n1
        have row : (toldT wds fs log)[i]? = some (log.flatMap (hAtE wds i) ++ [fs.getD i 0]) := by
          have h1 := toldT_get wds fs log hif
          rw [toldL_at wds fs.length i hif log] at h1
          have h2 : i < (toldT wds fs log).length := by omega
          rw [List.getD_eq_getElem?_getD, List.getElem?_eq_getElem h2] at h1
          rw [List.getElem?_eq_getElem h2]
          congr 1
        have nda : ld ≠ ta := fun z => by rw [z, n1] at nld; cases nld
        have ndd : ∀ d ∈ das, d ≠ ld := fun d hd z => by
          obtain ⟨jj, hjj⟩ := List.getElem?_of_mem hd
          obtain ⟨rw', _, ed⟩ := pairedGetL n5 hjj
          have ed : H3 d = some (.lst (rw'.map V.int)) := ed
          rw [z, nld] at ed
          cases ed
        refine ⟨.ref ta, rfl, .inl ⟨rfl, _, .inl (.inl n16)⟩, .ref ld, rfl, ta, _, .ref ld, rfl, rfl, n16, ?_, same_put (s3.trans s36) nta, ⟨das ++ [ld], ?_, ?_, nta, ?_, ?_, ?_⟩, _, _, _, _, _, rfl⟩
        · rw [List.length_map, dl]
          exact small1000 (by omega)
        · rw [List.length_append, dl]
          rfl
        · rw [upd_same, List.map_append]
          rfl
        · exact List.nodup_append.mpr ⟨n3, by simp, fun x hx y hy e => ndd x hx (by rw [e]; exact List.mem_singleton.mp hy)⟩
        · intro d hd
          rcases List.mem_append.mp hd with z | z
          · exact n4 d z
          · rw [List.mem_singleton.mp z]
            exact ⟨s3.free nld, nda⟩
        · rw [take_snoc row]
          refine pairedSnoc (paired_upd (pairedMap (fun _ _ e => s36 _ _ e) n5) fun d hd => (n4 d hd).2) ?_
          show upd _ ta _ ld = _
          rw [upd_ne nda]
          exact hld
    · obtain ⟨s3, ⟨das, dl, nt⟩, y4, y5, y6, y7, y8, rfl⟩ := p
      rw [List.take_of_length_le (by omega)] at nt
      exact ⟨.ref ta, rfl, q H3 ta das s3 nt⟩
end
end Rd

set_option Elab.async false
set_option linter.all false
set_option maxRecDepth 100000
set_option maxHeartbeats 4000000
namespace Rd
open PySem PySem.Spec PyProof.Rows L2 Dt
def spTolX (Ps : List Addr) (Cc : Nat → Addr) : Sp := fun vs H Q E => ∃ (ri fa la : Addr) (many hues : Int) (wds : List WD) (fs : List Int) (log : Log), vs = [.ref ri, .ref fa, .ref la] ∧ IsRid H ri many hues wds ∧ GoodR many hues wds ∧ IsRow H fa fs ∧ GoodF many hues fs ∧ IsLog H la log ∧ log.length ≤ 6000 ∧ Tabs Ps H ∧
  (LogOk wds log → ∀ H' ta das, FrS Ps H H' → NewTab H H' ta das (toldT wds fs log) → Q (.ref ta) H') ∧ (logB wds log = false → ∀ H', FrS Ps H H' → E (.ref (Cc 1)) none H')
section
variable {P : Program} {w : World} {K : PySem.W.Frag} {mg : Str → Option Value} {base : Heap}
theorem ok_tolX {f : Addr} {fd : FuncData} {Ps : List Addr} {Cc : Nat → Addr} {k : Nat} (F : Fun K "told_back" "told_back" sTol f fd) (C : ClsX K mg Cc) (T : TxtI3 P w K mg base Ps) : FnOk P w K mg base (L2.CX P w) (k + 4) f fd ["riddle", "filling", "log"] (spTolX Ps Cc) := by
  refine F.okX scTol (fun vs H Q E h => ?_) (fun cdv A outer s H vs Q E hr h => ?_)
  · obtain ⟨ri, fa, la, many, hues, wds, fs, log, rfl, _⟩ := h
    rfl
  · obtain ⟨ri, fa, la, many, hues, wds, fs, log, rfl, rid, gr, hfa, gf, hlog, ll, hT, q, qx⟩ := h
    have hfa : H fa = some (.tup (fs.map V.int)) := hfa
    refine ⟨_, (pss_cons (ps_if (pt_not (pt_val (pe_cal T.c_is_log (hr.mono (by omega)) (by rfl) (pa_cons (pv 0) (pa_cons (pv 2) pa_nil)))))
  (pss_one (ps_raise rfl (takes_of rfl rfl rfl rfl) (pmk_own PySem.F.excBase_ValueError (C.x 1 (by decide)) C.g_NoLog (C.k 1 (by decide)) (C.raises rfl (by decide)) (by rfl)))) pss_nil)
  (pss_cons (ps_set (i := 3) scTol.nd rfl (Or.inl rfl) (pe_ix ix_tup (pv 0) pe_int (fun _ _ => rfl)))
  (pss_cons (ps_setLc (i := 4) (te := tLst tNil) (own := [("hue", 8)]) rfl scTol.nd rfl rfl (sw_true rfl rfl rfl (by decide +kernel)) (pi_tup (pv 1)) (blkOk_by (own := [("hue", 8)]) (N := nTol) (sc := defScope sTol) (by decide +kernel))
   (fun _ _ _ _ _ => (pg_name (i := 8) scTol.nd rfl (Or.inl rfl))) (fun _ _ _ _ _ => pts_nil) (fun _ _ _ _ _ => (pe_lst pa_nil)))
  (pss_cons (ps_for (passes_of rfl) rfl (pi_list (pv 2)) (pg_tup rfl (pgs_cons (pg_name (i := 5) scTol.nd rfl (Or.inl rfl)) (pgs_cons (pg_name (i := 6) scTol.nd rfl (Or.inl rfl)) pgs_nil)))
  (pss_one (ps_for (passes_of rfl) rfl (RZ.pi_zipA (by rfl) T.m_zip (pa_cons (pe_ix ix_tup (pe_ix ix_tup (pv 3) (pv 5) (fun _ _ => rfl)) pe_int (fun _ _ => rfl)) (pa_cons (pv 6) pa_nil))) (pg_tup rfl (pgs_cons (pg_name (i := 7) scTol.nd rfl (Or.inl rfl)) (pgs_cons (pg_name (i := 8) scTol.nd rfl (Or.inl rfl)) pgs_nil)))
  (pss_one (ps_expr (pe_bm PySem.F.plainAttrs_list PySem.F.slot_list_append PySem.F.type_list_append mt_append (pe_ix ix_list (pv 4) (pv 7) (fun _ _ => rfl)) (pa_cons (pv 8) pa_nil)))))))
  (pss_cons (ps_for (passes_of rfl) rfl (Et.pi_enumT (by rfl) T.m_enumerate (pa_cons (pv 1) pa_nil)) (pg_tup rfl (pgs_cons (pg_name (i := 7) scTol.nd rfl (Or.inl rfl)) (pgs_cons (pg_name (i := 8) scTol.nd rfl (Or.inl rfl)) pgs_nil)))
  (pss_one (ps_expr (pe_bm PySem.F.plainAttrs_list PySem.F.slot_list_append PySem.F.type_list_append mt_append (pe_ix ix_list (pv 4) (pv 7) (fun _ _ => rfl)) (pa_cons (pv 8) pa_nil)))))
  (pss_one (ps_ret (pv 4)))))))), ?_⟩
    refine ⟨.ref ri, rfl, .ref la, rfl, ri, la, many, hues, wds, log, rfl, rid, gr, hlog, hT, fun H1 f1 => ?_⟩
    cases cl : logB wds log with
    | false => exact ⟨false, rfl, iteT (qx cl H1 f1)⟩
    | true =>
    have okl : LogOk wds log := logB_ok cl
    have q := q okl
    refine ⟨true, rfl, iteF ?_⟩
    obtain ⟨wt, was, h1, h2, h3⟩ := id rid
    obtain ⟨es, hl, pe⟩ := id hlog
    have el := pairedLen pe
    have wl := pairedLen h3
    have gl := gf.len
    have m6 := gr.m6
    refine ⟨.ref ri, rfl, ri, _, 2, _, rfl, rfl, .inl (.inl (f1.tups hT _ _ h1)), atI_nat (j := 2) rfl, ?_⟩
    -- table
    refine ⟨.ref fa, rfl, fa, rfl, ⟨_, .inl (.inl (f1.tups hT _ _ hfa))⟩, fun ta nta => ?_⟩
    have nta0 : H ta = none := f1.free nta
    have ntP : ta ∉ Ps := hT.new nta0
    refine lc_tup (K := K) (a := fa) (xs := fs.map V.int) (fun i H2 => FrS Ps H H2 ∧ ∃ das : List Addr, das.length = i ∧ NewTab H H2 ta das (List.replicate i [])) ⟨f1.put nta0 ntP, [], rfl, upd_same, nta0, List.nodup_nil, (fun _ h => nomatch h), .nil⟩ (fun i H2 _ p => .inl (.inl (p.1.tups hT _ _ hfa))) (fun i x H2 hx p => ?_) (fun H2 p => ?_)
    · obtain ⟨f2, das, dl, nt⟩ := p
      have hi : i < fs.length := by
        have := (List.getElem?_eq_some_iff.mp hx).1
        rw [List.length_map] at this
        exact this
      refine ⟨rfl, yes_if ?_⟩
      refine ⟨(by show 0 ≤ sizeLine; decide), fun d nd => ?_⟩
      have sd := same_upd (o := .lst []) nd
      have nda : d ≠ ta := (ne_of_none nt.ht nd).symm
      have nd0 : H d = none := f2.free nd
      refine ⟨_, sd _ _ nt.ht, ?_, (f2.same sd).put nta0 ntP, das ++ [d], ?_, ?_⟩
      · rw [List.length_map]
        exact small1000 (by omega)
      · rw [List.length_append, dl]; rfl
      · refine ⟨by rw [upd_same, List.map_append]; rfl, nta0, ?_, fun b hb => ?_, ?_⟩
        · refine List.nodup_append.mpr ⟨nt.nd, List.nodup_cons.mpr ⟨List.not_mem_nil, List.nodup_nil⟩, fun x hx y hy => ?_⟩
          rw [List.mem_singleton.mp hy]
          exact paired_fresh nt.pr nd x hx
        · rcases List.mem_append.mp hb with hb | hb
          · exact nt.new b hb
          · rw [List.mem_singleton.mp hb]; exact ⟨nd0, nda⟩
        · rw [List.replicate_succ']
          refine pairedSnoc (paired_upd (pairedMap (fun _ _ e => sd _ _ e) nt.pr) fun b hb => (nt.new b hb).2) ?_
          show upd _ ta _ d = _
          rw [upd_ne nda]
          exact upd_same
    obtain ⟨f2, das, dl, nt⟩ := p
    rw [List.length_map] at dl nt
    have h33 : ∀ wd ∈ wds, wd.1.length ≤ 3 := fun wd hw => (gr.each wd hw).three
    -- the log
    refine ⟨.ref la, rfl, la, rfl, ⟨_, .inl (.inl ((f2.seqs hT).2 _ _ hl))⟩, ?_⟩
    refine for_list (K := K) (a := la) (xs := es.map V.ref) (fun i σ H3 => FrS Ps H H3 ∧ NewTab H H3 ta das (toldL wds fs.length (log.take i)) ∧ ∃ y5 y6 y7 y8, σ = [some (.ref ri), some (.ref fa), some (.ref la), some (.ref wt), some (.ref ta), y5, y6, y7, y8]) ⟨f2, nt, none, none, none, none, rfl⟩ (fun i σ H3 _ p => .inl (.inl ((p.1.seqs hT).2 _ _ hl))) (fun i x σ H3 hx p => ?_) (fun σ H3 p => ?_)
    · obtain ⟨f3, nt3, y5, y6, y7, y8, rfl⟩ := p
      obtain ⟨e, ee, rfl⟩ := map_get hx
      obtain ⟨x, ex, ⟨r, hx1, hx2⟩⟩ := pairedGetL pe ee
      have hi : i < log.length := (List.getElem?_eq_some_iff.mp ex).1
      obtain ⟨x0, x1, wd, hwd, hrow⟩ := okl x (List.mem_of_getElem? ex)
      have gw := gr.each wd (List.mem_of_getElem? hwd)
      have g3 := gw.three
      have grow := gw.row _ hrow
      have ep : plc wds x.1 = wd.1 := by rw [plc, getD_of hwd]
      have kn : x.1.toNat < was.length := by omega
      obtain ⟨wd', hwd', isw⟩ := pairedGetL h3 (List.getElem?_eq_getElem kn)
      rw [hwd] at hwd'
      cases hwd'
      obtain ⟨pa, ra, rs, i1, i2, i3, i4⟩ := id isw
      have tu := f3.tups hT
      refine ⟨e, _, rfl, .inl (.inl (tu _ _ hx1)), rfl, .int x.1, [.ref r], rfl, .ref r, [], rfl, rfl, ?_⟩
      refine ⟨.ref wt, rfl, .int x.1, rfl, wt, _, x.1, _, rfl, rfl, .inl (.inl (tu _ _ h2)), atI_of x0 (List.getElem?_eq_getElem kn), _, _, 0, _, rfl, rfl, .inl (.inl (tu _ _ i1)), atI_nat (j := 0) rfl, .ref r, rfl, pa, r, wd.1.map V.int, x.2.map V.int, rfl, .inr ⟨(i2.mono tu).sq, .inl (.inl (tu _ _ hx2)), ?_⟩⟩
      refine RZ.for_zipT (K := K) (by rw [List.length_map, List.length_map, grow.1]) (fun j σ H4 => FrS Ps H H4 ∧ NewTab H H4 ta das (appA (toldL wds fs.length (log.take i)) (wd.1.take j) (x.2.take j)) ∧ ∃ y7 y8, σ = [some (.ref ri), some (.ref fa), some (.ref la), some (.ref wt), some (.ref ta), some (.int x.1), some (.ref r), y7, y8]) ⟨f3, nt3, _, _, rfl⟩ (fun j σ H4 p => ⟨(i2.mono (p.1.tups hT)).sq, .inl (.inl (p.1.tups hT _ _ hx2))⟩) (fun j xv yv Tt σ H4 hxv hyv p nT => ?_) (fun σ H4 p => ?_)
      · obtain ⟨f4, nt4, z7, z8, rfl⟩ := p
        obtain ⟨pl, epl, rfl⟩ := map_get hxv
        obtain ⟨hu, ehu, rfl⟩ := map_get hyv
        have hpp := gw.pl pl (List.mem_of_getElem? epl)
        have hj : j < wd.1.length := (List.getElem?_eq_some_iff.mp epl).1
        have sT := same_upd (o := .tup [.int pl, .int hu]) nT
        have nt5 := nt4.mono (seqs_same sT)
        have f5 := f4.same sT
        have hpn : pl.toNat < das.length := by omega
        obtain ⟨l, el2, hl2⟩ := pairedGetL nt5.pr (List.getElem?_eq_getElem hpn)
        have hdm := nt5.new _ (List.getElem_mem hpn)
        refine ⟨Tt, _, rfl, .inl (.inl upd_same), rfl, .int pl, [.int hu], rfl, .int hu, [], rfl, rfl, ?_⟩
        refine ⟨.ref ta, rfl, .int pl, rfl, ta, _, pl, _, rfl, rfl, .inl (.inl nt5.ht), atI_of hpp.1 (List.getElem?_eq_getElem hpn), .inl ⟨rfl, _, .inl (.inl hl2)⟩, .int hu, rfl, _, _, _, rfl, rfl, hl2, ?_, ?_⟩
        · rw [List.length_map]
          have a := appA_le (wd.1.take j) (x.2.take j) (toldL wds fs.length (log.take i)) pl.toNat
          rw [getD_of el2, List.length_take] at a
          have b := toldL_le h33 fs.length pl.toNat (log.take i)
          rw [List.length_take] at b
          exact Nat.lt_of_le_of_lt (show l.length ≤ 20000 by omega) (by decide)
        · refine ⟨f5.put hdm.1 (hT.new hdm.1), ?_, _, _, rfl⟩
          rw [appA_snoc _ epl ehu]
          have z := nt5.app (x := hu) (List.getElem?_eq_getElem hpn) el2
          rw [List.map_append] at z
          exact z
      · obtain ⟨f4, nt4, z7, z8, rfl⟩ := p
        rw [List.length_map, List.take_length, ← grow.1, List.take_length] at nt4
        refine ⟨f4, ?_, _, _, _, _, rfl⟩
        rw [take_snoc ex, toldL_snoc, ep]
        exact nt4
    · obtain ⟨f3, nt3, y5, y6, y7, y8, rfl⟩ := p
      rw [List.length_map, el, List.take_length] at nt3
      -- the filling
      refine ⟨.ref fa, rfl, fa, fs.map V.int, rfl, .inl (.inl (f3.tups hT _ _ hfa)), ?_⟩
      refine Et.for_enumT (K := K) (a := fa) (xs := fs.map V.int) (fun i σ H4 => FrS Ps H H4 ∧ NewTab H H4 ta das (finA (toldL wds fs.length log) fs i) ∧ ∃ y5 y6 y7 y8, σ = [some (.ref ri), some (.ref fa), some (.ref la), some (.ref wt), some (.ref ta), y5, y6, y7, y8]) ⟨f3, nt3, _, _, _, _, rfl⟩ (fun i σ H4 _ p => .inl (.inl (p.1.tups hT _ _ hfa))) (fun i x σ H4 Tt hx p nT => ?_) (fun σ H4 p => ?_)
      · obtain ⟨f4, nt4, z5, z6, z7, z8, rfl⟩ := p
        obtain ⟨hu, ehu, rfl⟩ := map_get hx
        have hi : i < fs.length := (List.getElem?_eq_some_iff.mp ehu).1
        have sT := same_upd (o := .tup [.int (i : Nat), .int hu]) nT
        have nt5 := nt4.mono (seqs_same sT)
        have f5 := f4.same sT
        have hpn : i < das.length := by omega
        obtain ⟨l, el2, hl2⟩ := pairedGetL nt5.pr (List.getElem?_eq_getElem hpn)
        have hdm := nt5.new _ (List.getElem_mem hpn)
        refine ⟨Tt, _, rfl, .inl (.inl upd_same), rfl, .int i, [.int hu], rfl, .int hu, [], rfl, rfl, ?_⟩
        refine ⟨.ref ta, rfl, .int i, rfl, ta, _, i, _, rfl, rfl, .inl (.inl nt5.ht), atI_nat (map_at (List.getElem?_eq_getElem hpn)), .inl ⟨rfl, _, .inl (.inl hl2)⟩, .int hu, rfl, _, _, _, rfl, rfl, hl2, ?_, ?_⟩
        · rw [List.length_map]
          have a := finA_get (toldL wds fs.length log) fs i i (by rw [toldL_len]; omega)
          rw [getD_of el2, if_neg (Nat.lt_irrefl _)] at a
          have b := toldL_le h33 fs.length i log
          rw [← a] at b
          exact Nat.lt_of_le_of_lt (show l.length ≤ 20000 by omega) (by decide)
        · refine ⟨f5.put hdm.1 (hT.new hdm.1), ?_, _, _, _, _, rfl⟩
          rw [finA_succ, getD_of ehu]
          have z := nt5.app (x := hu) (List.getElem?_eq_getElem hpn) el2
          rw [List.map_append] at z
          exact z
      · obtain ⟨f4, nt4, z5, z6, z7, z8, rfl⟩ := p
        rw [List.length_map] at nt4
        exact ⟨.ref ta, rfl, q H4 ta das f4 nt4⟩
end
end Rd

set_option Elab.async false
set_option linter.all false
set_option maxRecDepth 100000
set_option maxHeartbeats 4000000
namespace Rd
open PySem PySem.Spec PyProof.Rows L2 Dt
abbrev sKnd : Stmt := topS 30
abbrev nKnd : List Str := ["caught", "some"]
theorem scKnd : FnScope nKnd ["caught"] (defScope sKnd) := ⟨rfl, rfl, rfl, by decide +kernel, rfl, by decide +kernel, by decide +kernel⟩
abbrev sRfs : Stmt := topS 31
abbrev nRfs : List Str := ["riddle", "filling", "log", "caught", "handed", "e", "k"]
theorem scRfs : FnScope nRfs ["riddle", "filling", "log"] (defScope sRfs) := ⟨rfl, rfl, rfl, by decide +kernel, rfl, by decide +kernel, by decide +kernel⟩
theorem dpBls {K : PySem.W.Frag} {H : Hp} : ∀ bs : List Bool, DpAll K H (bs.map V.bl) (bs.map PyData.bool)
  | [] => .nil
  | n :: r => .cons (.bl n) (dpBls r)
theorem fine_bls (bs : List Bool) : Fine (.list (bs.map PyData.bool)) 2 (bs.length * 3) := Fine.list (fineAll_map (n := 1) (w := 2) bs fun b _ => fine_bool b)
def spRfs (Ps : List Addr) : Sp := fun vs H Q _ => ∃ (ri fa la : Addr) (many hues : Int) (wds : List WD) (fs : List Int) (log : Log), vs = [.ref ri, .ref fa, .ref la] ∧ IsRid H ri many hues wds ∧ GoodR many hues wds ∧ IsRow H fa fs ∧ GoodF many hues fs ∧ IsLog H la log ∧ (∀ e ∈ log, EntW e) ∧ log.length ≤ 200 ∧ logB wds log = false ∧ Tabs Ps H ∧
  ∀ H', FrS Ps H H' → Q (.bl true) H'
structure TxtRf (P : Program) (w : World) (K : PySem.W.Frag) (mg : Str → Option Value) (base : Heap) (Ps : List Addr) (Cc : Nat → Addr) : Prop extends ClsX K mg Cc where
  m_list : mg "list" = none
  m_range : mg "range" = none
  c__law_kinds : Cal P w K mg base 1 "_law_kinds" ["caught"] (spKnd Cc)
  c_told_back : CalX P w K mg base 4 "told_back" ["riddle", "filling", "log"] (spTolX Ps Cc)
section
variable {P : Program} {w : World} {K : PySem.W.Frag} {mg : Str → Option Value} {base : Heap} {C : Nat → Addr}
theorem ok_knd {f : Addr} {fd : FuncData} {k : Nat} (F : Fun K "_law_kinds" "_law_kinds" sKnd f fd) (T : ClsX K mg C) : FnOk P w K mg base CX0 (k + 1) f fd ["caught"] (spKnd C) := by
  refine F.ok scKnd (fun vs H Q E h => ?_) (fun cdv A outer s H vs Q E hr h => ?_)
  · obtain ⟨a, i, rfl, _⟩ := h
    rfl
  · obtain ⟨a, i, rfl, hi, ha, q⟩ := h
    refine ⟨_, (pss_cons (ps_set (i := 1) scKnd.nd rfl (Or.inl rfl) (pe_lst (pa_cons (pe_callB call_isD (by rfl) T.m_isinstance (by decide +kernel) (pa_cons (pv 0) (pa_cons (pe_gref (by rfl) T.g_NoEnd) pa_nil))) (pa_cons (pe_callB call_isD (by rfl) T.m_isinstance (by decide +kernel) (pa_cons (pv 0) (pa_cons (pe_gref (by rfl) T.g_NoLog) pa_nil))) (pa_cons (pe_callB call_isD (by rfl) T.m_isinstance (by decide +kernel) (pa_cons (pv 0) (pa_cons (pe_gref (by rfl) T.g_NoName) pa_nil))) pa_nil)))))
  (pss_cons (ps_set (i := 1) scKnd.nd rfl (Or.inl rfl) (pe_op op_cat (pv 1) (pe_lst (pa_cons (pe_callB call_isD (by rfl) T.m_isinstance (by decide +kernel) (pa_cons (pv 0) (pa_cons (pe_gref (by rfl) T.g_NoRow) pa_nil))) pa_nil))))
  (pss_cons (ps_set (i := 1) scKnd.nd rfl (Or.inl rfl) (pe_op op_cat (pv 1) (pe_lst (pa_cons (pe_callB call_isD (by rfl) T.m_isinstance (by decide +kernel) (pa_cons (pv 0) (pa_cons (pe_gref (by rfl) T.g_NoStep) pa_nil))) (pa_cons (pe_callB call_isD (by rfl) T.m_isinstance (by decide +kernel) (pa_cons (pv 0) (pa_cons (pe_gref (by rfl) T.g_NoTable) pa_nil))) (pa_cons (pe_callB call_isD (by rfl) T.m_isinstance (by decide +kernel) (pa_cons (pv 0) (pa_cons (pe_gref (by rfl) T.g_NoText) pa_nil))) pa_nil))))))
  (pss_cons (ps_set (i := 1) scKnd.nd rfl (Or.inl rfl) (pe_op op_cat (pv 1) (pe_lst (pa_cons (pe_callB call_isD (by rfl) T.m_isinstance (by decide +kernel) (pa_cons (pv 0) (pa_cons (pe_gref (by rfl) T.g_NoWish) pa_nil))) (pa_cons (pe_callB call_isD (by rfl) T.m_isinstance (by decide +kernel) (pa_cons (pv 0) (pa_cons (pe_gref (by rfl) T.g_Spent) pa_nil))) (pa_cons (pe_callB call_isD (by rfl) T.m_isinstance (by decide +kernel) (pa_cons (pv 0) (pa_cons (pe_gref (by rfl) T.g_Told) pa_nil))) pa_nil))))))
  (pss_one (ps_ret (pe_op op_cat (pv 1) (pe_lst (pa_cons (pe_callB call_isD (by rfl) T.m_isinstance (by decide +kernel) (pa_cons (pv 0) (pa_cons (pe_gref (by rfl) T.g_TooMany) pa_nil))) (pa_cons (pe_callB call_isD (by rfl) T.m_isinstance (by decide +kernel) (pa_cons (pv 0) (pa_cons (pe_bltn (v := .ty "ValueError") (by rfl) T.m_ValueError (by decide +kernel) rfl) pa_nil))) pa_nil)))))))))), ?_⟩
    refine ⟨.ref a, rfl, ⟨a, C i, _, _, _, rfl, ha, T.e i hi, .own _, T.kit i hi 0 (by decide), .ref a, rfl, ⟨a, C i, _, _, _, rfl, ha, T.e i hi, .own _, T.kit i hi 1 (by decide), .ref a, rfl, ⟨a, C i, _, _, _, rfl, ha, T.e i hi, .own _, T.kit i hi 2 (by decide), (by show 3 ≤ sizeLine; decide), fun l1 n1 => ?_⟩⟩⟩⟩
    have s1 := same_upd (o := .lst [.bl (decide (i = 0)), .bl (decide (i = 1)), .bl (decide (i = 2))]) n1
    have e1 : upd H l1 (.lst [.bl (decide (i = 0)), .bl (decide (i = 1)), .bl (decide (i = 2))]) l1 = some (.lst [.bl (decide (i = 0)), .bl (decide (i = 1)), .bl (decide (i = 2))]) := upd_same
    have a1 := s1 _ _ ha
    generalize upd H l1 _ = H1 at s1 e1 a1
    refine ⟨.ref l1, rfl, .ref a, rfl, ⟨a, C i, _, _, _, rfl, a1, T.e i hi, .own _, T.kit i hi 3 (by decide), (by show 1 ≤ sizeLine; decide), fun l2 n2 => ?_⟩⟩
    have s2 := same_upd (o := .lst [.bl (decide (i = 3))]) n2
    refine ⟨l1, l2, _, _, rfl, rfl, s2 _ _ e1, upd_same, (by show 4 ≤ sizeLine; decide), fun l3 n3 => ?_⟩
    have s3 := s1.trans (s2.trans (same_upd (o := .lst ([.bl (decide (i = 0)), .bl (decide (i = 1)), .bl (decide (i = 2))] ++ [.bl (decide (i = 3))])) n3))
    have e3 : upd (upd H1 l2 (.lst [.bl (decide (i = 3))])) l3 (.lst ([.bl (decide (i = 0)), .bl (decide (i = 1)), .bl (decide (i = 2))] ++ [.bl (decide (i = 3))])) l3 = some (.lst [.bl (decide (i = 0)), .bl (decide (i = 1)), .bl (decide (i = 2)), .bl (decide (i = 3))]) := upd_same
    have a3 := s3 _ _ ha
    generalize upd (upd H1 l2 _) l3 _ = H3 at s3 e3 a3
    refine ⟨.ref l3, rfl, .ref a, rfl, ⟨a, C i, _, _, _, rfl, a3, T.e i hi, .own _, T.kit i hi 4 (by decide), .ref a, rfl, ⟨a, C i, _, _, _, rfl, a3, T.e i hi, .own _, T.kit i hi 5 (by decide), .ref a, rfl, ⟨a, C i, _, _, _, rfl, a3, T.e i hi, .own _, T.kit i hi 6 (by decide), (by show 3 ≤ sizeLine; decide), fun l4 n4 => ?_⟩⟩⟩⟩
    have s4 := same_upd (o := .lst [.bl (decide (i = 4)), .bl (decide (i = 5)), .bl (decide (i = 6))]) n4
    refine ⟨l3, l4, _, _, rfl, rfl, s4 _ _ e3, upd_same, (by show 7 ≤ sizeLine; decide), fun l5 n5 => ?_⟩
    have s5 := s3.trans (s4.trans (same_upd (o := .lst ([.bl (decide (i = 0)), .bl (decide (i = 1)), .bl (decide (i = 2)), .bl (decide (i = 3))] ++ [.bl (decide (i = 4)), .bl (decide (i = 5)), .bl (decide (i = 6))])) n5))
    have e5 : upd (upd H3 l4 (.lst [.bl (decide (i = 4)), .bl (decide (i = 5)), .bl (decide (i = 6))])) l5 (.lst ([.bl (decide (i = 0)), .bl (decide (i = 1)), .bl (decide (i = 2)), .bl (decide (i = 3))] ++ [.bl (decide (i = 4)), .bl (decide (i = 5)), .bl (decide (i = 6))])) l5 = some (.lst [.bl (decide (i = 0)), .bl (decide (i = 1)), .bl (decide (i = 2)), .bl (decide (i = 3)), .bl (decide (i = 4)), .bl (decide (i = 5)), .bl (decide (i = 6))]) := upd_same
    have a5 := s5 _ _ ha
    generalize upd (upd H3 l4 _) l5 _ = H5 at s5 e5 a5
    refine ⟨.ref l5, rfl, .ref a, rfl, ⟨a, C i, _, _, _, rfl, a5, T.e i hi, .own _, T.kit i hi 7 (by decide), .ref a, rfl, ⟨a, C i, _, _, _, rfl, a5, T.e i hi, .own _, T.kit i hi 8 (by decide), .ref a, rfl, ⟨a, C i, _, _, _, rfl, a5, T.e i hi, .own _, T.kit i hi 9 (by decide), (by show 3 ≤ sizeLine; decide), fun l6 n6 => ?_⟩⟩⟩⟩
    have s6 := same_upd (o := .lst [.bl (decide (i = 7)), .bl (decide (i = 8)), .bl (decide (i = 9))]) n6
    refine ⟨l5, l6, _, _, rfl, rfl, s6 _ _ e5, upd_same, (by show 10 ≤ sizeLine; decide), fun l7 n7 => ?_⟩
    have s7 := s5.trans (s6.trans (same_upd (o := .lst ([.bl (decide (i = 0)), .bl (decide (i = 1)), .bl (decide (i = 2)), .bl (decide (i = 3)), .bl (decide (i = 4)), .bl (decide (i = 5)), .bl (decide (i = 6))] ++ [.bl (decide (i = 7)), .bl (decide (i = 8)), .bl (decide (i = 9))])) n7))
    have e7 : upd (upd H5 l6 (.lst [.bl (decide (i = 7)), .bl (decide (i = 8)), .bl (decide (i = 9))])) l7 (.lst ([.bl (decide (i = 0)), .bl (decide (i = 1)), .bl (decide (i = 2)), .bl (decide (i = 3)), .bl (decide (i = 4)), .bl (decide (i = 5)), .bl (decide (i = 6))] ++ [.bl (decide (i = 7)), .bl (decide (i = 8)), .bl (decide (i = 9))])) l7 = some (.lst [.bl (decide (i = 0)), .bl (decide (i = 1)), .bl (decide (i = 2)), .bl (decide (i = 3)), .bl (decide (i = 4)), .bl (decide (i = 5)), .bl (decide (i = 6)), .bl (decide (i = 7)), .bl (decide (i = 8)), .bl (decide (i = 9))]) := upd_same
    have a7 := s7 _ _ ha
    generalize upd (upd H5 l6 _) l7 _ = H7 at s7 e7 a7
    refine ⟨.ref l7, rfl, .ref a, rfl, ⟨a, C i, _, _, _, rfl, a7, T.e i hi, .own _, T.kit i hi 10 (by decide), .ref a, rfl, ⟨a, C i, _, _, _, rfl, a7, T.e i hi, .ty _, T.kitV i hi, ⟨(by show 2 ≤ sizeLine; decide), fun l8 n8 => ?_⟩⟩⟩⟩
    have s8 := same_upd (o := .lst [.bl (decide (i = 10)), .bl true]) n8
    refine ⟨l7, l8, _, _, rfl, rfl, s8 _ _ e7, upd_same, (by show 12 ≤ sizeLine; decide), fun l9 n9 => ?_⟩
    exact q _ l9 (s7.trans (s8.trans (same_upd n9))) (s7.free (s8.free n9)) upd_same
set_option maxHeartbeats 16000000 in
theorem ok_rfs {f : Addr} {Ps : List Addr} {fd : FuncData} {k : Nat} (F : Fun K "_law_refused" "_law_refused" sRfs f fd) (T : TxtRf P w K mg base Ps C) : FnOk P w K mg base CX0 (k + 5) f fd ["riddle", "filling", "log"] (spRfs Ps) := by
  refine F.ok scRfs (fun vs H Q E h => ?_) (fun cdv A outer s H vs Q E hr h => ?_)
  · obtain ⟨ri, fa, la, many, hues, wds, fs, log, rfl, _⟩ := h
    rfl
  · obtain ⟨ri, fa, la, many, hues, wds, fs, log, rfl, rid, gr, hfa, gf, hlog, ew, ll, lb, hT, q⟩ := h
    refine ⟨_, (pss_cons (ps_set (i := 3) scRfs.nd rfl (Or.inl rfl) pe_non)
  (pss_cons (ps_set (i := 4) scRfs.nd rfl (Or.inl rfl) (pe_callTy call_list_of (by rfl) T.m_list (by decide +kernel) (pa_cons (pv 2) pa_nil)))
  (pss_cons (ps_try_keep (i := 5) rfl rfl rfl scRfs.nd rfl rfl ⟨by rfl, by decide, .inl T.g_DrawError⟩ takes0
  (fun W pn xe tk _ => (pss_one (ps_expr (pe_calX T.c_told_back (hr.mono (by omega)) tk (by rfl) (pa_cons (pv 0) (pa_cons (pv 1) (pa_cons (pv 4) pa_nil)))))))
  (fun a pn => (pss_one (ps_set (i := 3) scRfs.nd rfl (Or.inl rfl) (pv 5)))))
  (pss_one (ps_ret (pe_and (pe_cmpR (op_eqD hr.units) (pv 4) (pv 2) (nomark _)) (pe_one (pe_cmpR (op_eqD hr.units) (pe_cal T.c__law_kinds (hr.mono (by omega)) (by rfl) (pa_cons (pv 3) pa_nil)) (pe_lc (te := tOp (rInT K) (tVar 6) (tTup (tCons (tC (.int 1)) (tCons (tC (.int 11)) tNil)))) (own := [("k", 6)]) rfl scRfs.nd  (pi_range1 (by rfl) T.m_range (pa_cons pe_int pa_nil)) (blkOk_by (own := [("k", 6)]) (N := nRfs) (sc := defScope sRfs) (by decide +kernel))
   (fun _ _ _ _ _ => (pg_name (i := 6) scRfs.nd rfl (Or.inl rfl))) (fun _ _ _ _ _ => pts_nil) (fun _ _ _ _ _ => (pe_cmpR (Dt.op_inT (units65 hr)) (pv 6) (pe_tup (pa_cons pe_int (pa_cons pe_int pa_nil))) (by rfl)))) (nomark _))))))))), ?_⟩
    obtain ⟨es, hes, pes⟩ := id hlog
    refine ⟨.ref la, rfl, la, _, rfl, .inl (.inl (.inl hes)), fun lh nlh => ?_⟩
    have s1 := same_upd (o := .lst (es.map V.ref)) nlh
    have sq1 := seqs_same s1
    have han1 : IsLog _ lh log := ⟨es, upd_same, pairedMap (fun _ _ e => e.mono sq1.1) pes⟩
    have hT1 := hT.same s1
    generalize upd H lh (.lst (es.map V.ref)) = H1 at s1 sq1 han1 hT1
    refine ⟨.ref ri, rfl, .ref fa, rfl, .ref lh, rfl, ri, fa, lh, many, hues, wds, fs, log, rfl, rid.mono sq1.1, gr, sq1.1 _ _ hfa, gf, han1, by omega, hT1, fun ok => ?_, fun _ H2 f2 => ?_⟩
    · exact absurd (logB_of ok) (by rw [lb]; decide)
    have f02 : FrS Ps H H2 := (FrS.of hT s1).trans f2
    refine ⟨true, T.exm 1 (by decide), fun _ a na => ?_, fun z => nomatch z⟩
    have s3 := same_upd (o := ExD (.ref (C 1)) none a) na
    have f03 := f02.same s3
    have ha : upd H2 a (ExD (.ref (C 1)) none a) a = some (ExD (.ref (C 1)) none a) := upd_same
    have han3 := han1.seqs ((f2.seqs hT1).trans (seqs_same s3))
    have log3 := hlog.seqs (f03.seqs hT)
    generalize upd H2 a (ExD (.ref (C 1)) none a) = H3 at f03 ha han3 log3
    have fw := fineW_log ew ll
    refine ⟨.ref a, rfl, ?_⟩
    refine ⟨.ref lh, rfl, .ref la, rfl, _, _, dpLog han3, dpLog log3, fw.shaped (by decide), fw.shaped (by decide), ?_⟩
    rw [SeqAt.eqv_refl _ fw.lay]
    refine ⟨true, rfl, iteT ⟨.ref a, rfl, a, 1, rfl, by decide, ha, fun H4 p4 s4 np4 hp4 => ⟨12, rfl, by decide, by decide, fun D nD => ?_⟩⟩⟩
    refine lc_range (lo := 0) (n := 12) (fun j H5 => Same H4 H5 ∧ H5 D = some (.lst (((kindsB 1).take j).map V.bl))) ⟨same_upd nD, upd_same⟩ (fun j H5 hj p => ?_) (fun H5 p => ?_)
    · obtain ⟨s5, hD⟩ := p
      have e0 : (0 : Int) + (j : Int) = j := Int.zero_add _
      refine ⟨rfl, yes_if ?_⟩
      refine ⟨.int (0 + (j : Int)), rfl, (by show 2 ≤ sizeLine; decide), fun t nt => ?_⟩
      have st := same_upd (o := .tup [.int 1, .int 11]) nt
      have f1 : Fine (.int ((j : Nat) : Int)) 1 7 := fine_int (by omega) (by omega)
      have f2 : Fine (rowD [1, 11]) 2 64 := fine_row (fun z hz => by simp only [List.mem_cons, List.not_mem_nil, or_false] at hz; omega) (by decide)
      rw [e0]
      refine ⟨.int j, [.int 1, .int 11], .int _, .tup (.inl (.inl upd_same)) (.cons (.int _) (.cons (.int _) .nil)), f1.shaped (by decide), f2.shaped (by decide), ?_⟩
      have ek : (([PyData.int 1, .int 11] : List PyData).any fun y => PyData.eqv y (.int ((j : Nat) : Int))) = decide (((j : Nat) : Int) ∈ ([1, 11] : List Int)) := Gv.any_ints (j : Int) [1, 11]
      rw [ek]
      have kt : (kindsB 1)[j]? = some (decide (((j : Nat) : Int) ∈ ([1, 11] : List Int))) := by
        have : ∀ j : Nat, j < 12 → (kindsB 1)[j]? = some (decide (((j : Nat) : Int) ∈ ([1, 11] : List Int))) := by decide
        exact this j hj
      refine ⟨_, st _ _ hD, ?_, same_put (s5.trans st) nD, ?_⟩
      · rw [List.length_map, List.length_take]
        exact small1000 (Nat.le_trans (Nat.min_le_left _ _) (by omega))
      · rw [upd_same, take_snoc kt, List.map_append]
        rfl
    · obtain ⟨s5, hD⟩ := p
      have hD : H5 D = some (.lst ((kindsB 1).map V.bl)) := hD
      have fb := fine_bls (kindsB 1)
      refine ⟨_, _, .lst (.inl (.inl (s5 _ _ hp4))) (dpBls _), .lst (.inl (.inl hD)) (dpBls _), fb.shaped (by decide), fb.shaped (by decide), ?_⟩
      rw [fine_eqv fb]
      exact q H5 ((f03.same s4).same s5)
end
end Rd

set_option Elab.async false
set_option linter.all false
set_option maxRecDepth 100000
set_option maxHeartbeats 4000000
namespace Rd
open PySem PySem.Spec PyProof.Rows L2 Dt
abbrev sLlg : Stmt := topS 28
abbrev nLlg : List Str := ["tape", "riddle", "log", "k", "number", "rows"]
theorem scLlg : FnScope nLlg ["tape", "riddle"] (defScope sLlg) := ⟨rfl, rfl, rfl, by decide +kernel, rfl, by decide +kernel, by decide +kernel⟩
theorem runOf_few12 {many hues : Int} {wds : List WD} {tb : List (List Int)} {ord : List Int} (gr : GoodR many hues wds) (nd : ∀ wd ∈ wds, wd.1.Nodup) (gt : GoodT many hues tb) (go : GoodO wds.length ord) (h9 : ∀ ds ∈ tb, (ds.length : Int) ≤ 12) :
    ∃ R, runOf wds tb ord = some R ∧ GoodF many hues R.2.1 ∧ LogOk wds R.2.2 ∧ R.2.2.length ≤ 72 := by
  obtain ⟨R, h1, h2, h3, h4⟩ := goR_total gr nd gt go (rem tb (zerosI tb.length) + 1) (zerosI tb.length) [] (zeros_good gt) (LogOk.nil _) (Nat.lt_succ_self _)
  refine ⟨R, h1, h2, h3, ?_⟩
  have a := rem_le tb (zerosI tb.length) 12 fun ds hd => by have := h9 ds hd; omega
  have b := gt.len
  have c := gr.m6
  rw [List.length_nil] at h4
  have : tb.length ≤ 6 := by omega
  omega
def spLlg : Sp := fun vs H Q _ => ∃ (tp ri : Addr) (wds : List WD) (many hues : Int), vs = [.ref tp, .ref ri] ∧ Tape H tp ∧ IsRid H ri many hues wds ∧ GoodR many hues wds ∧ (∀ wd ∈ wds, wd.1.Nodup) ∧
  ∀ H' la log, Taped tp H H' → la ≠ tp → H la = none → IsLog H' la log → LogOk wds log → log.length ≤ 72 → Q (.ref la) H'
structure TxtLg (P : Program) (w : World) (K : PySem.W.Frag) (mg : Str → Option Value) (base : Heap) : Prop where
  m_range : mg "range" = none
  m_len : mg "len" = none
  c__law_digit : Cal P w K mg base 1 "_law_digit" ["tape", "many"] spDig
  c__law_table : Cal P w K mg base 2 "_law_table" ["tape", "riddle", "most"] spTab
  c__law_order : Cal P w K mg base 2 "_law_order" ["tape", "many"] spOrd
  c__law_run : Cal P w K mg base 2 "_law_run" ["riddle", "table", "order"] spLrn
section
variable {P : Program} {w : World} {K : PySem.W.Frag} {mg : Str → Option Value} {base : Heap}
set_option maxHeartbeats 16000000 in
theorem ok_llg {f : Addr} {fd : FuncData} {k : Nat} (F : Fun K "_law_log" "_law_log" sLlg f fd) (T : TxtLg P w K mg base) : FnOk P w K mg base CX0 (k + 3) f fd ["tape", "riddle"] spLlg := by
  refine F.ok scLlg (fun vs H Q E h => ?_) (fun cdv A outer s H vs Q E hr h => ?_)
  · obtain ⟨tp, ri, wds, many, hues, rfl, _⟩ := h
    rfl
  · obtain ⟨tp, ri, wds, many, hues, rfl, hT, rid, gr, nds, q⟩ := h
    refine ⟨_, (pss_cons (ps_if (PW.pt (pw_or (pt_cmpR (op_eqD hr.units) (pe_ix ix_tup (pv 1) pe_int (fun _ _ => rfl)) (pe_tup pa_nil) (nomark _)) (pw_or1 (pt_cmpR op_eq (pe_cal T.c__law_digit (hr.mono (by omega)) (by rfl) (pa_cons (pv 0) (pa_cons pe_int pa_nil))) pe_int (nomark _)))))
  (pss_one (ps_ret (pe_ix ix_tup (pe_cal T.c__law_run (hr.mono (by omega)) (by rfl) (pa_cons (pv 1) (pa_cons (pe_cal T.c__law_table (hr.mono (by omega)) (by rfl) (pa_cons (pv 0) (pa_cons (pv 1) (pa_cons pe_int pa_nil)))) (pa_cons (pe_cal T.c__law_order (hr.mono (by omega)) (by rfl) (pa_cons (pv 0) (pa_cons (pe_callB call_len_seq (by rfl) T.m_len (by decide +kernel) (pa_cons (pe_ix ix_tup (pv 1) pe_int (fun _ _ => rfl)) pa_nil)) pa_nil))) pa_nil)))) pe_int (fun _ _ => rfl)))) pss_nil)
  (pss_cons (ps_set (i := 2) scLlg.nd rfl (Or.inl rfl) (pe_lst pa_nil))
  (pss_cons (ps_for PassesOwn.never rfl (pi_range1 (by rfl) T.m_range (pa_cons (pe_cal T.c__law_digit (hr.mono (by omega)) (by rfl) (pa_cons (pv 0) (pa_cons pe_int pa_nil))) pa_nil)) (pg_name (i := 3) scLlg.nd rfl (Or.inl rfl))
  (pss_cons (ps_set (i := 4) scLlg.nd rfl (Or.inl rfl) (pe_cal T.c__law_digit (hr.mono (by omega)) (by rfl) (pa_cons (pv 0) (pa_cons (pe_callB call_len_seq (by rfl) T.m_len (by decide +kernel) (pa_cons (pe_ix ix_tup (pv 1) pe_int (fun _ _ => rfl)) pa_nil)) pa_nil))))
  (pss_cons (ps_set (i := 5) scLlg.nd rfl (Or.inl rfl) (pe_ix ix_tup (pe_ix ix_tup (pe_ix ix_tup (pv 1) pe_int (fun _ _ => rfl)) (pv 4) (fun _ _ => rfl)) pe_int (fun _ _ => rfl)))
  (pss_one (ps_expr (pe_bm PySem.F.plainAttrs_list PySem.F.slot_list_append PySem.F.type_list_append mt_append (pv 2) (pa_cons (pe_tup (pa_cons (pv 4) (pa_cons (pe_ix ix_tup (pv 5) (pe_cal T.c__law_digit (hr.mono (by omega)) (by rfl) (pa_cons (pv 0) (pa_cons (pe_callB call_len_seq (by rfl) T.m_len (by decide +kernel) (pa_cons (pv 5) pa_nil)) pa_nil))) (fun _ _ => rfl)) pa_nil))) pa_nil)))))))
  (pss_one (ps_ret (pv 2)))))), ?_⟩
    obtain ⟨wt, was, r1, r2, r3⟩ := id rid
    have wl := pairedLen r3
    have m1 := gr.m1
    have m6 := gr.m6
    have h2 := gr.h2
    have h4 := gr.h4
    have e8 := gr.eight
    have fW : ∀ l : List WD, (∀ wd ∈ l, wd ∈ wds) → l.length ≤ 8 → Fine (.tuple (l.map wishD)) 5 50000 := fun l hm hl => (Fine.tuple (fineAll_map (n := 4) (w := 5000) l fun wd hw => fine_wish (gr.each wd (hm wd hw)) m6 h4)).mono (by omega) (by omega)
    refine ⟨.ref ri, rfl, ri, _, 2, _, rfl, rfl, .inl (.inl r1), atI_nat (j := 2) rfl, (by show 0 ≤ sizeLine; decide), fun t0 nt0 => ?_⟩
    have s0 := same_upd (o := .tup []) nt0
    have D0 := (Taped.refl hT).same s0
    have ht0 : upd H t0 (.tup []) t0 = some (.tup []) := upd_same
    generalize upd H t0 (.tup []) = H0 at D0 ht0 s0
    have f1 := fW wds (fun _ h => h) e8
    have f2 := fW [] (fun _ h => nomatch h) (by decide)
    -- a run's log
    have runs : ∀ (H1 : Hp) (Q' : VK), Taped tp H H1 → (∀ H' la log, Taped tp H H' → la ≠ tp → H la = none → IsLog H' la log → LogOk wds log → log.length ≤ 72 → Q' (.ref la) H') → tOp (rIxT K) (tCall spLrn [] E0 (tCons (tVar 1) (tCons (tCall spTab [] E0 (tCons (tVar 0) (tCons (tVar 1) (tCons (tC (.int 12)) tNil)))) (tCons (tCall spOrd [] E0 (tCons (tVar 0) (tCons (tCB (rLen K) (tCons (tOp (rIxT K) (tVar 1) (tC (.int 2))) tNil)) tNil))) tNil)))) (tC (.int 2)) (L2.start nLlg [.ref tp, .ref ri]) H1 Q' := fun H1 Q' D1 q' => by
      have tu1 := D1.tups hT
      refine ⟨.ref ri, rfl, .ref tp, rfl, .ref ri, rfl, tp, ri, many, hues, 12, _, rfl, D1.2, tu1 _ _ r1, m1, m6, h2, h4, by decide, by decide, fun H2 ta tb D2 tab gt h12 => ?_⟩
      have D02 := D1.trans D2
      have tu2 := D02.tups hT
      refine ⟨.ref tp, rfl, .ref ri, rfl, ri, _, 2, _, rfl, rfl, .inl (.inl (tu2 _ _ r1)), atI_nat (j := 2) rfl, wt, _, rfl, .inr (.inl (.inl (tu2 _ _ r2))), tp, _, rfl, D02.2, by omega, by rw [List.length_map]; omega, fun H3 oa ord D3 ho go pmo => ?_⟩
      rw [List.length_map, wl, Int.toNat_natCast] at go
      have D03 := D02.trans D3
      have tab3 := (tab.weak (Bv := (· = tp)) D1.2.old).taped D3
      obtain ⟨R, hR, gfR, okR, lR⟩ := runOf_few12 gr nds gt go h12
      refine ⟨ri, ta, oa, many, hues, wds, tb, ord, rfl, ⟨rid.mono (D03.tups hT), gr, nds, tab3.none, gt, ho, go⟩, fun H4 t4 R' s4 nt4 hR' res4 => ?_⟩
      have eR : R' = R := Option.some.inj (hR'.symm.trans hR)
      subst eR
      obtain ⟨fa, la, g1, g2, g3, g4⟩ := res4
      refine ⟨t4, _, 2, _, rfl, rfl, .inl (.inl g1), atI_nat (j := 2) rfl, ?_⟩
      exact q' H4 la _ (D03.same s4) (D03.2.new g4) (D03.free g4) g3 okR lR
    refine ⟨_, _, .tup (.inl (.inl (s0 _ _ r2))) (dpWishes (pairedMap (fun _ _ e => IsWish.mono (tups_same s0) e) r3)), .tup (.inl (.inl ht0)) .nil, f1.shaped (by decide), f2.shaped (by decide), _, rfl, ite2 (fun e => ?_) (fun e => ?_)⟩
    · exact runs H0 _ D0 q
    have wne : 1 ≤ wds.length := by
      cases wds with
      | nil => exact absurd (fine_eqv f2) e
      | cons a r => rw [List.length_cons]; omega
    refine ⟨.ref tp, rfl, tp, 3, rfl, D0.2, by decide, by decide, fun H1 d D1 d0 d1 => ⟨rfl, _, rfl, ite2 (fun e2 => ?_) (fun e2 => ?_)⟩⟩
    · exact runs H1 _ (D0.trans D1) q
    have E1 := D0.trans D1
    refine ⟨(by show 0 ≤ sizeLine; decide), fun la nla => ?_⟩
    have nlt := E1.2.new nla
    have nla0 : H la = none := E1.free nla
    have E2 := E1.put (o := .lst []) nla0 nlt
    have hla2 : upd H1 la (.lst []) la = some (.lst []) := upd_same
    generalize upd H1 la (.lst []) = H2 at E2 hla2
    refine ⟨.ref tp, rfl, tp, 21, rfl, E2.2, by decide, by decide, fun H3 nn D3 n0 n1 => ⟨nn, rfl, by omega, by omega, ?_⟩⟩
    refine for_range (lo := 0) (n := nn.toNat) (fun i σ H4 => Taped tp H H4 ∧ (∃ (es : List Addr) (log : Log), H4 la = some (.lst (es.map V.ref)) ∧ es.length = i ∧ Paired (IsEnt H4) es log ∧ LogOk wds log) ∧ ∃ y3 y4 y5, σ = [some (.ref tp), some (.ref ri), some (.ref la), y3, y4, y5]) ⟨E2.trans D3, ⟨[], [], D3.1 _ _ nlt hla2, rfl, .nil, LogOk.nil _⟩, none, none, none, rfl⟩ (fun i σ H4 hi p => ?_) (fun σ H4 p => ?_)
    · obtain ⟨E4, ⟨es, log, hla4, el, pe, okl⟩, y3, y4, y5, rfl⟩ := p
      have tu4 := E4.tups hT
      refine ⟨.ref tp, rfl, .ref ri, rfl, ri, _, 2, _, rfl, rfl, .inl (.inl (tu4 _ _ r1)), atI_nat (j := 2) rfl, wt, _, rfl, .inr (.inl (.inl (tu4 _ _ r2))), tp, _, rfl, E4.2, by rw [List.length_map]; omega, by rw [List.length_map]; exact log_small (by omega) (by omega), fun H5 num D5 u0 u1 => ?_⟩
      rw [List.length_map] at u1
      have E5 := E4.trans D5
      have tu5 := E5.tups hT
      have kn : num.toNat < was.length := by omega
      obtain ⟨wd, hwd, isw⟩ := pairedGetL r3 (List.getElem?_eq_getElem kn)
      have gw := gr.each wd (List.mem_of_getElem? hwd)
      obtain ⟨pa, ra, rs, i1, i2, i3, i4⟩ := isw.mono tu5
      have rl := pairedLen i4
      have g1 := gw.some_
      have g64 := gw.few
      refine ⟨.ref ri, rfl, ri, _, 2, _, rfl, rfl, .inl (.inl (tu5 _ _ r1)), atI_nat (j := 2) rfl, .int num, rfl, wt, _, _, _, rfl, rfl, .inl (.inl (tu5 _ _ r2)), atI_of u0 (List.getElem?_eq_getElem kn), _, _, 1, _, rfl, rfl, .inl (.inl i1), atI_nat (j := 1) rfl, ?_⟩
      have hla5 := D5.1 _ _ nlt hla4
      refine ⟨.ref la, rfl, .inl ⟨rfl, _, .inl (.inl hla5)⟩, .int num, rfl, .ref ra, rfl, .ref tp, rfl, .ref ra, rfl, ra, _, rfl, .inr (.inl (.inl i3)), tp, _, rfl, E5.2, by rw [List.length_map]; omega, by rw [List.length_map]; exact log_small (by omega) (by omega), fun H6 at_ D6 a0 a1 => ?_⟩
      rw [List.length_map] at a1
      have an : at_.toNat < rs.length := by omega
      obtain ⟨row, hrow, isr⟩ := pairedGetL i4 (List.getElem?_eq_getElem an)
      have E6 := E5.trans D6
      refine ⟨ra, _, at_, _, rfl, rfl, .inl (.inl (D6.tups E5.2 _ _ i3)), atI_of a0 (List.getElem?_eq_getElem an), (by show 2 ≤ sizeLine; decide), fun e6 ne6 => ?_⟩
      have s7 := same_upd (o := .tup [.int num, .ref rs[at_.toNat]]) ne6
      have hla6 := s7 _ _ (D6.1 _ _ nlt hla5)
      have tu : Tups _ (upd (upd H6 e6 (.tup [.int num, .ref rs[at_.toNat]])) la (.lst (es.map V.ref ++ [.ref e6]))) := tups_lst hla6
      have tu46 := ((D5.trans D6).tups E4.2).trans ((tups_same s7).trans tu)
      refine ⟨la, _, .ref e6, rfl, rfl, hla6, ?_, ((E6.same s7).put nla0 nlt), ⟨es ++ [e6], log ++ [(num, row)], ?_, ?_, pairedSnoc (pairedMap (fun _ _ e => e.mono tu46) pe) ⟨rs[at_.toNat], tu _ _ upd_same, tu _ _ (s7 _ _ (D6.tups E5.2 _ _ isr))⟩, ?_⟩, _, _, _, rfl⟩
      · rw [List.length_map, el]
        exact small1000 (by omega)
      · rw [upd_same, List.map_append]
        rfl
      · rw [List.length_append, el]
        rfl
      · intro e he
        rcases List.mem_append.mp he with z | z
        · exact okl e z
        · rw [List.mem_singleton.mp z]
          exact ⟨u0, by omega, wd, hwd, List.mem_of_getElem? hrow⟩
    · obtain ⟨E4, ⟨es, log, hla4, el, pe, okl⟩, y3, y4, y5, rfl⟩ := p
      have ll := pairedLen pe
      exact ⟨.ref la, rfl, q H4 la log E4 nlt nla0 ⟨es, hla4, pe⟩ okl (by omega)⟩
end
end Rd

set_option Elab.async false
set_option linter.all false
set_option maxRecDepth 100000
set_option maxHeartbeats 4000000
namespace Rd
open PySem PySem.Spec PyProof.Rows L2 Dt
abbrev sOdd : Stmt := topS 29
abbrev nOdd : List Str := ["tape", "riddle", "log", "many", "at", "far", "some", "number", "places", "rows", "row", "other", "drawn", "wish", "place", "one"]
theorem scOdd : FnScope nOdd ["tape", "riddle", "log"] (defScope sOdd) := ⟨rfl, rfl, rfl, by decide +kernel, rfl, by decide +kernel, by decide +kernel⟩
/-- a list of pairs, one of them no mending -/
def OddL (wds : List WD) (tp : Addr) (n : Nat) : V → Hp → Prop := fun v H => ∃ (l : Addr) (es : List Addr), v = .ref l ∧ l ≠ tp ∧ H l = some (.lst (es.map V.ref)) ∧ es.length ≤ n ∧ (∀ e ∈ es, WEnt H e) ∧ ∃ e ∈ es, BEnt wds H e
def spOdX : Sp := fun vs H Q _ => ∃ (tp ri : Addr) (lv : V) (many hues : Int) (wds : List WD) (n : Nat), vs = [.ref tp, .ref ri, lv] ∧ Tape H tp ∧ IsRid H ri many hues wds ∧ GoodR many hues wds ∧ EntL tp n lv H ∧ n ≤ 150 ∧
  ∀ H' v, Taped tp H H' → OddL wds tp (n + 1) v H' → Q v H'
theorem drop_last_cut (row : List Int) : cutV (row.map V.int) none (some (-1)) = row.dropLast.map V.int := by
  unfold cutV
  have e1 : HT.sIx (row.map V.int).length 0 none = 0 := rfl
  rw [e1, List.drop_zero, Nat.sub_zero, List.dropLast_eq_take, List.map_take, List.length_map]
  congr 1
  show HT.sIx row.length row.length (some (-1)) = row.length - 1
  show (if (-1 : Int) < 0 then (-1 + (row.length : Int)).toNat else min (-1 : Int).toNat row.length) = row.length - 1
  rw [if_pos (by decide)]
  omega
structure TxtYo (P : Program) (w : World) (K : PySem.W.Frag) (mg : Str → Option Value) (base : Heap) : Prop where
  m_len : mg "len" = none
  m_tuple : mg "tuple" = none
  c__law_digit : Cal P w K mg base 1 "_law_digit" ["tape", "many"] spDig
section
variable {P : Program} {w : World} {K : PySem.W.Frag} {mg : Str → Option Value} {base : Heap}
set_option maxHeartbeats 16000000 in
theorem ok_odx {f : Addr} {fd : FuncData} {k : Nat} (F : Fun K "_law_odd" "_law_odd" sOdd f fd) (T : TxtYo P w K mg base) : FnOk P w K mg base CX0 (k + 2) f fd ["tape", "riddle", "log"] spOdX := by
  refine F.ok scOdd (fun vs H Q E h => ?_) (fun cdv A outer s H vs Q E hr h => ?_)
  · obtain ⟨tp, ri, lv, many, hues, wds, n, rfl, _⟩ := h
    rfl
  · obtain ⟨tp, ri, lv, many, hues, wds, n, rfl, hT, rid, gr, hlog, n150, q⟩ := h
    obtain ⟨la, es, rfl, nlt, hl, hn, hw⟩ := id hlog
    refine ⟨_, (pss_cons (ps_set (i := 3) scOdd.nd rfl (Or.inl rfl) (pe_callB call_len_seq (by rfl) T.m_len (by decide +kernel) (pa_cons (pe_ix ix_tup (pv 1) pe_int (fun _ _ => rfl)) pa_nil)))
  (pss_cons (ps_set (i := 4) scOdd.nd rfl (Or.inl rfl) (pe_cal T.c__law_digit (hr.mono (by omega)) (by rfl) (pa_cons (pv 0) (pa_cons (pe_op op_add (pe_callB call_len_seq (by rfl) T.m_len (by decide +kernel) (pa_cons (pv 2) pa_nil)) pe_int) pa_nil))))
  (pss_cons (ps_set (i := 5) scOdd.nd rfl (Or.inl rfl) (pe_op op_add (pe_op op_pow pe_int pe_int) (pe_cal T.c__law_digit (hr.mono (by omega)) (by rfl) (pa_cons (pv 0) (pa_cons pe_int pa_nil)))))
  (pss_cons (ps_set (i := 6) scOdd.nd rfl (Or.inl rfl) (pe_lst (pa_cons (pe_tup (pa_cons (pv 3) (pa_cons (pe_tup (pa_cons pe_int pa_nil)) pa_nil))) (pa_cons (pe_tup (pa_cons (pe_un un_neg pe_int) (pa_cons (pe_tup (pa_cons pe_int pa_nil)) pa_nil))) (pa_cons (pe_tup (pa_cons (pv 5) (pa_cons (pe_tup (pa_cons pe_int pa_nil)) pa_nil))) (pa_cons (pe_tup (pa_cons (pe_op op_sub pe_int (pv 5)) (pa_cons (pe_tup (pa_cons pe_int (pa_cons pe_int pa_nil))) pa_nil))) (pa_cons (pe_tup (pa_cons (pv 3) (pa_cons (pe_tup pa_nil) pa_nil))) (pa_cons (pe_tup (pa_cons (pe_un un_neg pe_int) (pa_cons (pe_tup pa_nil) pa_nil))) pa_nil))))))))
  (C8.pss_cut (ps_if (pt_cmpR op_gt (pv 3) pe_int (nomark _))
  (pss_cons (ps_set (i := 7) scOdd.nd rfl (Or.inr rfl) (pe_cal T.c__law_digit (hr.mono (by omega)) (by rfl) (pa_cons (pv 0) (pa_cons (pv 3) pa_nil))))
  (pss_cons (ps_asg (pe_ix ix_tup (pe_ix ix_tup (pv 1) pe_int (fun _ _ => rfl)) (pv 7) (fun _ _ => rfl)) (pg_tup rfl (pgs_cons (pg_name (i := 8) scOdd.nd rfl (Or.inl rfl)) (pgs_cons (pg_name (i := 9) scOdd.nd rfl (Or.inr rfl)) pgs_nil))))
  (pss_cons (ps_set (i := 10) scOdd.nd rfl (Or.inl rfl) (pe_ix ix_tup (pv 9) (pe_cal T.c__law_digit (hr.mono (by omega)) (by rfl) (pa_cons (pv 0) (pa_cons (pe_callB call_len_seq (by rfl) T.m_len (by decide +kernel) (pa_cons (pv 9) pa_nil)) pa_nil))) (fun _ _ => rfl)))
  (pss_cons (ps_set (i := 11) scOdd.nd rfl (Or.inl rfl) (pe_op op_catA (pe_slice sl_tupA (pv 10) po_none (po_some (pe_un un_neg pe_int))) (pe_tup (pa_cons (pe_ix ix_tup (pv 1) pe_int (fun _ _ => rfl)) pa_nil))))
  (pss_cons (ps_set (i := 6) scOdd.nd rfl (Or.inl rfl) (pe_op op_cat (pv 6) (pe_lst (pa_cons (pe_tup (pa_cons (pv 7) (pa_cons (pe_op op_catA (pv 10) (pe_tup (pa_cons pe_int pa_nil))) pa_nil))) (pa_cons (pe_tup (pa_cons (pv 7) (pa_cons (pe_slice sl_tupA (pv 10) (po_some pe_int) po_none) pa_nil))) (pa_cons (pe_tup (pa_cons (pv 7) (pa_cons (pe_tup pa_nil) pa_nil))) (pa_cons (pe_tup (pa_cons (pv 7) (pa_cons (pv 11) pa_nil))) pa_nil)))))))
  (pss_cons (ps_expr (pe_bm PySem.F.plainAttrs_list PySem.F.slot_list_append PySem.F.type_list_append mt_append (pv 6) (pa_cons (pe_tup (pa_cons (pv 7) (pa_cons (pe_op op_repU (pe_tup (pa_cons (pe_un un_neg pe_int) pa_nil)) (pe_callB call_len_seq (by rfl) T.m_len (by decide +kernel) (pa_cons (pv 10) pa_nil))) pa_nil))) pa_nil)))
  (pss_cons (ps_set (i := 12) scOdd.nd rfl (Or.inl rfl) (pe_callTy call_tuple_of (by rfl) T.m_tuple (by decide +kernel) (pa_cons (pe_lc (te := tCall spDig [] E0 (tCons (tVar 0) (tCons (tOp (rIxT K) (tVar 1) (tC (.int 1))) tNil))) (own := [("place", 14)]) rfl scOdd.nd  (pi_tup (pv 8)) (blkOk_by (own := [("place", 14)]) (N := nOdd) (sc := defScope sOdd) (by decide +kernel))
   (fun _ _ _ _ _ => (pg_name (i := 14) scOdd.nd rfl (Or.inl rfl))) (fun _ _ _ _ _ => pts_nil) (fun _ _ _ _ _ => (pe_cal T.c__law_digit (hr.mono (by omega)) (by rfl) (pa_cons (pv 0) (pa_cons (pe_ix ix_tup (pv 1) pe_int (fun _ _ => rfl)) pa_nil))))) pa_nil)))
  (C8.pss_cut (ps_if (pt_cmpR (op_notInT (units65 hr)) (pv 12) (pv 9) (by rfl))
  (pss_one (ps_set (i := 6) scOdd.nd rfl (Or.inl rfl) (pe_op op_cat (pv 6) (pe_op op_rep (pe_lst (pa_cons (pe_tup (pa_cons (pv 7) (pa_cons (pv 12) pa_nil))) pa_nil)) pe_int)))) pss_nil)
  (pss_one (ps_for PassesOwn.never rfl (pi_tup (pe_ix ix_tup (pv 1) pe_int (fun _ _ => rfl))) (pg_name (i := 13) scOdd.nd rfl (Or.inl rfl))
  (pss_one (ps_set (i := 6) scOdd.nd rfl (Or.inl rfl) (pe_op op_cat (pv 6) (pe_lc (tt := tTest (tOp (rNotInT K) (tVar 15) (tVar 9))) (te := tTup (tCons (tVar 7) (tCons (tVar 15) tNil))) (own := [("one", 15)]) rfl scOdd.nd  (pi_tup (pe_ix ix_tup (pv 13) pe_int (fun _ _ => rfl))) (blkOk_by (own := [("one", 15)]) (N := nOdd) (sc := defScope sOdd) (by decide +kernel))
   (fun _ _ _ _ _ => (pg_name (i := 15) scOdd.nd rfl (Or.inl rfl))) (fun _ _ _ _ _ => pts_one (pt_cmpR (op_notInT (units65 hr)) (pv 15) (pv 9) (by rfl))) (fun _ _ _ _ _ => (pe_tup (pa_cons (pv 7) (pa_cons (pv 15) pa_nil)))))))))))))))))) pss_nil)
  (pss_one (ps_ret (pe_op op_cat (pe_op op_cat (pe_slice sl_list (pv 2) po_none (po_some (pv 4))) (pe_lst (pa_cons (pe_ix ix_list (pv 6) (pe_cal T.c__law_digit (hr.mono (by omega)) (by rfl) (pa_cons (pv 0) (pa_cons (pe_callB call_len_seq (by rfl) T.m_len (by decide +kernel) (pa_cons (pv 6) pa_nil)) pa_nil))) (fun _ _ => rfl)) pa_nil))) (pe_slice sl_list (pv 2) (po_some (pe_op op_add (pv 4) (pe_cal T.c__law_digit (hr.mono (by omega)) (by rfl) (pa_cons (pv 0) (pa_cons pe_int pa_nil))))) po_none))))))))), ?_⟩
    obtain ⟨wt, was, r1, r2, r3⟩ := id rid
    have wl := pairedLen r3
    have e8 := gr.eight
    have hh2 := gr.h2
    have hh4 := gr.h4
    have far : ∀ {i : Int}, -100 < i → i < 100 → i.natAbs < 10 ^ 31 := fun h1 h2 => Nat.lt_trans (by omega : _ < 100) (by decide)
    -- many, at, far
    refine ⟨.ref ri, rfl, ri, _, 2, _, rfl, rfl, .inl (.inl r1), atI_nat (j := 2) rfl, wt, _, rfl, .inr (.inl (.inl r2)), ?_⟩
    rw [List.length_map, wl]
    refine ⟨.ref tp, rfl, .ref la, rfl, la, _, rfl, .inl (.inl (.inl hl)), _, 1, rfl, rfl, tp, _, rfl, hT, by rw [List.length_map]; omega, by rw [List.length_map]; exact log_small (by omega) (by omega), fun H1 at0 D1 a0 a1 => ?_⟩
    rw [List.length_map] at a1
    refine ⟨10, 30, rfl, rfl, ⟨by decide, by decide, by decide⟩, .ref tp, rfl, tp, 1000, rfl, D1.2, by decide, by decide, fun H2 fx D2 f0 f1 => ⟨_, fx, rfl, rfl, ?_⟩⟩
    have E2 := D1.trans D2
    have fz : (((10 : Int) ^ (30 : Int).toNat + fx).natAbs < 10 ^ 31 ∧ ((0 : Int) - ((10 : Int) ^ (30 : Int).toNat + fx)).natAbs < 10 ^ 31) ∧ 1000 < (10 : Int) ^ (30 : Int).toNat + fx := by
      have e : (10 : Int) ^ (30 : Int).toNat = 1000000000000000000000000000000 := by decide
      rw [e]
      omega
    dsimp only
    generalize (10 : Int) ^ (30 : Int).toNat + fx = farv at fz
    have r22 := Taped.refl E2.2
    -- some
    dsimp only [gName]
    refine seq_trg (tp := tp) (Φ := SomeB wds H 6) ?_ fun v6 H3 D3 p3 => ?_
    · have v3 : ∀ {σ : L2.St} (hσ : σ[3]? = some (some (.int (wds.length : Nat)))) (Hx : Hp), Taped tp H2 Hx → Tr tp (tVar 3) σ Hx (numOut wds) := fun hσ Hx d => tr_var d.2 hσ ⟨_, rfl, far (by omega) (by omega), by omega⟩
      have v5 : ∀ {σ : L2.St} (hσ : σ[5]? = some (some (.int farv))) (Hx : Hp), Taped tp H2 Hx → Tr tp (tVar 5) σ Hx (numOut wds) := fun hσ Hx d => tr_var d.2 hσ ⟨_, rfl, fz.1.1, by omega⟩
      have z1 : ∀ {σ : L2.St} (Hx : Hp), Taped tp H2 Hx → Tr tp (tTup (tCons (tC (.int 0)) tNil)) σ Hx RowW := fun Hx d => tr_mono (tr_tup1 (tr_c d.2 ⟨0, rfl, by decide, by decide⟩)) fun v H' _ p => p.w (by decide)
      have z0 : ∀ {σ : L2.St} (Hx : Hp), Taped tp H2 Hx → Tr tp (tTup tNil) σ Hx RowW := fun Hx d => tr_mono (tr_tup0 d.2) fun v H' _ p => p.w (by decide)
      have m1 : ∀ {σ : L2.St} (Hx : Hp), Taped tp H2 Hx → Tr tp (tUn (rU fun i => .int (-i)) (tC (.int 1))) σ Hx (numOut wds) := fun Hx d => tr_neg d.2 ⟨_, rfl, by decide, by omega⟩
      refine trB_some (m := 5) (by decide) E2 (entab_cons (trB_out (v3 rfl H2 r22) fun Ha da => z1 Ha da) fun Ha da => entab_cons (trB_out (m1 Ha da) fun Hb db => z1 Hb (da.trans db)) fun Hb db => entab_cons (trB_out (v5 rfl Hb (da.trans db)) fun Hc dc => z1 Hc ((da.trans db).trans dc)) fun Hc dc => entab_cons (trB_out (fun Q' k' => ?_) fun Hd dd Q' k' => ?_) fun Hd dd => entab_cons (trB_out (v3 rfl Hd (((da.trans db).trans dc).trans dd)) fun He de => z0 He ((((da.trans db).trans dc).trans dd).trans de)) fun He de => entab_cons (trB_out (m1 He ((((da.trans db).trans dc).trans dd).trans de)) fun Hf df => z0 Hf (((((da.trans db).trans dc).trans dd).trans de).trans df)) fun Hf df => entab_nil df.2)
      · exact ⟨.int farv, rfl, 0, farv, rfl, rfl, k' _ _ (Taped.refl dc.2) ⟨_, rfl, fz.1.2, by omega⟩⟩
      · refine ⟨(by show 2 ≤ sizeLine; decide), fun t nt => ?_⟩
        exact k' _ _ ((Taped.refl dd.2).same (same_upd nt)) ⟨t, [0, 0], rfl, upd_same, by decide, fun z hz => by
          have : z = 0 := by simpa using hz
          rw [this]; decide⟩
    -- by the riddle's wishes
    have E3 := E2.trans D3
    refine ⟨fun σ Hc => Taped tp H Hc ∧ ∃ v6, SomeB wds H 600 v6 Hc ∧ ∃ y7 y8 y9 y10 y11 y12 y13, σ = [some (.ref tp), some (.ref ri), some (.ref la), some (.int (wds.length : Nat)), some (.int at0), some (.int farv), some v6, y7, y8, y9, y10, y11, y12, y13, none, none], ?_, ?_⟩
    · refine ⟨.int (wds.length : Nat), rfl, _, 0, rfl, rfl, _, rfl, ite2 (fun c => ?_) (fun c => ?_)⟩
      · have wpos : 0 < (wds.length : Int) := of_decide_eq_true c
        -- number
        refine ⟨.ref tp, rfl, .int (wds.length : Nat), rfl, tp, _, rfl, E3.2, by omega, log_small (by omega) (by omega), fun H4 num D4 u0 u1 => ?_⟩
        have E4 := E3.trans D4
        have tu4 := E4.tups hT
        have kn : num.toNat < was.length := by omega
        obtain ⟨wd, hwd, isw⟩ := pairedGetL r3 (List.getElem?_eq_getElem kn)
        obtain ⟨pa, ra, rs, i1, i2, i3, i4⟩ := isw.mono tu4
        have gw := gr.each wd (List.mem_of_getElem? hwd)
        have g3 := gw.three
        have g1 := gw.one
        have gs := gw.some_
        have gf := gw.few
        have rsl := pairedLen i4
        -- places, rows
        refine ⟨.ref ri, rfl, ri, _, 2, _, rfl, rfl, .inl (.inl (tu4 _ _ r1)), atI_nat (j := 2) rfl, .int num, rfl, wt, _, num, _, rfl, rfl, .inl (.inl (tu4 _ _ r2)), atI_of u0 (List.getElem?_eq_getElem kn), _, _, rfl, .inl (.inl i1), rfl, .ref pa, [.ref ra], rfl, .ref ra, [], rfl, rfl, ?_⟩
        -- row
        refine ⟨.ref ra, rfl, .ref tp, rfl, .ref ra, rfl, ra, _, rfl, .inr (.inl (.inl i3)), tp, _, rfl, E4.2, by rw [List.length_map]; omega, by rw [List.length_map]; exact log_small (by omega) (by omega), fun H5 rx D5 x0 x1 => ?_⟩
        rw [List.length_map] at x1
        have E5 := E4.trans D5
        have tu45 := D5.tups E4.2
        have rn : rx.toNat < rs.length := by omega
        obtain ⟨row, erow, isr⟩ := pairedGetL i4 (List.getElem?_eq_getElem rn)
        have gro := gw.row row (List.mem_of_getElem? erow)
        refine ⟨ra, _, rx, _, rfl, rfl, .inl (.inl (tu45 _ _ i3)), atI_of x0 (List.getElem?_eq_getElem rn), ?_⟩
        have row5 : RowE row (.ref rs[rx.toNat]) H5 := ⟨_, rfl, tu45 _ _ isr⟩
        have gl := gro.1
        have wdn : wds.getD num.toNat ([], []) = wd := by rw [List.getD_eq_getElem?_getD, hwd]; rfl
        have numN : num.natAbs < 10 ^ 31 := far (by omega) (by omega)
        have short : ∀ r : List Int, r.length ≠ wd.1.length → r ∉ wd.2 := fun r h z => h (gw.row r z).1
        have outs : ∀ (r : List Int) (z : Int), z ∈ r → ¬ (0 ≤ z ∧ z < hues) → r ∉ wd.2 := fun r z hz h y => h ((gw.row r y).2 z hz)
        have small : ∀ z ∈ row, -10 < z ∧ z < 10 := fun z hz => by have := gro.2 z hz; omega
        have p5 := someB_stays hT E3.2 (D4.trans D5) p3
        have r15 := (E5.tups hT) _ _ r1
        have vrow : ∀ {σ : L2.St} (hσ : σ[10]? = some (some (.ref rs[rx.toNat]))) (Hx : Hp), Taped tp H5 Hx → Tr tp (tVar 10) σ Hx (RowE row) := fun hσ Hx d => tr_var d.2 hσ (rowE_stays tp row _ H5 Hx E5.2 d row5)
        have vnum : ∀ {σ : L2.St} (hσ : σ[7]? = some (some (.int num))) (Hx : Hp), Taped tp H5 Hx → Tr tp (tVar 7) σ Hx (fun v _ => v = .int num) := fun hσ Hx d => tr_var d.2 hσ rfl
        -- other
        dsimp only [gName]
        refine seq_trg (tp := tp) (Φ := RowE (row.dropLast ++ [hues])) (trE_cat (by rw [List.length_dropLast]; show row.length - 1 + 1 ≤ 999; omega) (trE_sl (lo := none) (hi := some (-1)) (fun _ _ q => q) (fun _ _ q => ⟨1, rfl, -1, rfl, q⟩) (drop_last_cut row) (vrow rfl H5 (Taped.refl E5.2))) fun Hx d Q' k' => ?_) fun vo H6 D6 oth => ?_
        · refine ⟨.ref ri, rfl, ri, _, 1, _, rfl, rfl, .inl (.inl (d.tups E5.2 _ _ r15)), atI_nat (j := 1) rfl, (by show 1 ≤ sizeLine; decide), fun t nt => ?_⟩
          exact k' _ _ ((Taped.refl d.2).same (same_upd nt)) ⟨t, rfl, upd_same⟩
        have E6 := E5.trans D6
        have p6 := someB_stays hT E5.2 D6 p5
        -- four more
        dsimp only [gName]
        refine seq_trg (tp := tp) (Φ := SomeB wds H (6 + 4)) (someB_cat hT E6 rfl p6 (by decide) fun Hx dx => ?_) fun v7 H7 D7 p7 => ?_
        · have c1 : cutV (row.map V.int) (some ((1 : Nat) : Int)) none = (row.drop 1).map V.int := cut_from V.int row 1
          refine tr_mono (trB_ents (m := 4) (by decide) (entab_cons (trB_row numN wdn (vnum rfl Hx (D6.trans dx)) fun Ha da => tr_mono (trE_cat (a := row) (b := [0]) (by show row.length + 1 ≤ 999; omega) (vrow rfl Ha ((D6.trans dx).trans da)) fun Hb db Q' k' => ⟨(by show 1 ≤ sizeLine; decide), fun t nt => k' _ _ ((Taped.refl db.2).same (same_upd nt)) ⟨t, rfl, upd_same⟩⟩) fun v H' _ p => p.bad (by rw [List.length_append]; show row.length + 1 ≤ 10; omega) (fun z hz => ?_) (short _ (by rw [List.length_append]; show row.length + 1 ≠ _; omega))) fun Ha da => entab_cons (trB_row numN wdn (vnum rfl Ha ((D6.trans dx).trans da)) fun Hb db => tr_mono (trE_sl (lo := some ((1 : Nat) : Int)) (hi := none) (fun _ _ q => ⟨1, rfl, q⟩) (fun _ _ q => q) c1 (vrow rfl Hb (((D6.trans dx).trans da).trans db))) fun v H' _ p => p.bad (by rw [List.length_drop]; omega) (fun z hz => small z (List.mem_of_mem_drop hz)) (short _ (by rw [List.length_drop]; omega))) fun Hb db => entab_cons (trB_row numN wdn (vnum rfl Hb (((D6.trans dx).trans da).trans db)) fun Hc dc Q' k' => ⟨(by show 0 ≤ sizeLine; decide), fun t nt => k' _ _ ((Taped.refl dc.2).same (same_upd nt)) ⟨t, [], rfl, upd_same, by decide, (fun z hz => nomatch hz), short [] (by show 0 ≠ _; omega)⟩⟩) fun Hc dc => entab_cons (trB_row numN wdn (vnum rfl Hc ((((D6.trans dx).trans da).trans db).trans dc)) fun Hd dd => tr_var dd.2 rfl ((rowE_stays tp _ _ H6 Hd D6.2 ((((dx.trans da).trans db).trans dc).trans dd) oth).bad (by rw [List.length_append, List.length_dropLast]; show row.length - 1 + 1 ≤ 10; omega) (fun z hz => ?_) (outs _ hues (List.mem_append_right _ (List.mem_singleton.mpr rfl)) (by omega)))) fun Hd dd => entab_nil dd.2)) fun v H' _ p => p.1
          · rcases List.mem_append.mp hz with y | y
            · exact small z y
            · rw [List.mem_singleton.mp y]; decide
          · rcases List.mem_append.mp hz with y | y
            · exact small z (List.dropLast_subset row y)
            · rw [List.mem_singleton.mp y]; omega
        have E7 := E6.trans D7
        have D57 := D6.trans D7
        -- one more
        obtain ⟨l7, es7, rfl, n7, h7, l71, l72, w7⟩ := id p7
        have nt7 : l7 ≠ tp := hT.new n7
        refine ⟨.ref l7, rfl, .inl ⟨rfl, _, .inl (.inl h7)⟩, ?_⟩
        refine one_tr (tp := tp) (trB_row numN wdn (vnum rfl H7 D57) fun Ha da Q' k' => ?_) fun v8 H8 D8 ⟨e8', ev, we⟩ => ?_
        · refine ⟨1, rfl, (by show 1 ≤ sizeLine; decide), fun t nt => ?_⟩
          have st := same_upd (o := .tup [.int (-1)]) nt
          have h1' : Ha rs[rx.toNat] = some (.tup (row.map V.int)) := (D57.trans da).tups E5.2 _ _ (tu45 _ _ isr)
          refine ⟨.ref rs[rx.toNat], rfl, _, _, rfl, .inr (.inl (.inl (st _ _ h1'))), ?_⟩
          rw [List.length_map]
          have bad : ∀ (p : Addr) (H' : Hp), IsRow H' p (List.replicate row.length (-1)) → RowBad wd (.ref p) H' := fun p H' h => ⟨p, _, rfl, h, by rw [List.length_replicate]; omega, fun z hz => by rw [(List.mem_replicate.mp hz).2]; decide, outs _ (-1) (List.mem_replicate.mpr ⟨by omega, rfl⟩) (by omega)⟩
          by_cases one : row.length = 1
          · rw [one] at bad ⊢
            exact .inr ⟨t, _, rfl, rfl, .inl (.inl upd_same), k' _ _ ((Taped.refl da.2).same st) (bad t _ upd_same)⟩
          · refine .inl ⟨t, _, _, rfl, rfl, .inl (.inl upd_same), by simp, by omega, by omega, by decide, fun p np => ?_⟩
            have sp := st.trans (same_upd (o := .tup (List.replicate ((row.length : Nat) : Int).toNat [V.int (-1)]).flatten) np)
            refine k' _ _ ((Taped.refl da.2).same sp) (bad p _ ?_)
            show upd _ p _ p = _
            rw [upd_same, Int.toNat_natCast, rep_flat V.int (-1) row.length]
        subst ev
        have E8 := E7.trans D8
        have h8 := D8.1 _ _ nt7 h7
        refine ⟨l7, _, .ref e8', rfl, rfl, h8, by rw [List.length_map]; exact small1000 (by omega), ?_⟩
        have tu8 : Tups H8 (upd H8 l7 (.lst (es7.map V.ref ++ [.ref e8']))) := tups_lst h8
        have E9 : Taped tp H (upd H8 l7 (.lst (es7.map V.ref ++ [.ref e8']))) := E8.put n7 nt7
        have tu59 : Tups H5 (upd H8 l7 (.lst (es7.map V.ref ++ [.ref e8']))) := ((D57.trans D8).tups E5.2).trans tu8
        have p9 : SomeB wds H 11 (.ref l7) (upd H8 l7 (.lst (es7.map V.ref ++ [.ref e8']))) := ⟨l7, es7 ++ [e8'], rfl, n7, by rw [upd_same, List.map_append]; rfl, by rw [List.length_append]; omega, by rw [List.length_append]; exact Nat.succ_le_succ l72, fun e he => by
          rcases List.mem_append.mp he with z | z
          · exact ((w7 e z).mono (D8.tups E7.2)).mono tu8
          · rw [List.mem_singleton.mp z]; exact we.mono tu8⟩
        generalize upd H8 l7 (.lst (es7.map V.ref ++ [.ref e8'])) = H9 at E9 tu59 p9
        have pa9 := (i2.mono tu45).mono tu59
        have ra9 := tu59 _ _ (tu45 _ _ i3)
        have pr9 := pairedMap (fun _ _ e => tu59 _ _ (tu45 _ _ e)) i4
        have r19 := tu59 _ _ r15
        have r29 := tu59 _ _ (tu45 _ _ (tu4 _ _ r2))
        -- drawn
        refine ⟨.ref pa, rfl, pa, rfl, ⟨_, pa9.sq⟩, fun D nD => ?_⟩
        have nDt : D ≠ tp := E9.2.new nD
        refine lc_tup (K := K) (a := pa) (xs := wd.1.map V.int) (fun i H10 => Taped tp H9 H10 ∧ ∃ ds : List Int, H10 D = some (.lst (ds.map V.int)) ∧ ds.length = i ∧ ∀ z ∈ ds, 0 ≤ z ∧ z < hues) ⟨(Taped.refl E9.2).same (same_upd nD), [], upd_same, rfl, (fun _ h => nomatch h)⟩ (fun i H10 _ p => (pa9.mono (p.1.tups E9.2)).sq) (fun i x H10 hx p => ?_) (fun H10 p => ?_)
        · obtain ⟨D10, ds, hD, dl, dh⟩ := p
          have hi : i < wd.1.length := by
            have := (List.getElem?_eq_some_iff.mp hx).1
            rw [List.length_map] at this
            exact this
          refine ⟨rfl, yes_if ?_⟩
          refine ⟨.ref tp, rfl, .ref ri, rfl, ri, _, 1, _, rfl, rfl, .inl (.inl (D10.tups E9.2 _ _ r19)), atI_nat (j := 1) rfl, tp, hues, rfl, D10.2, by omega, log_small (by omega) (by omega), fun H11 d D11 d0 d1 => ?_⟩
          refine ⟨_, D11.1 D _ nDt hD, ?_, (D10.trans D11).put nD nDt, ds ++ [d], by rw [upd_same, List.map_append]; rfl, by rw [List.length_append, dl]; rfl, fun z hz => ?_⟩
          · rw [List.length_map, dl]
            exact small1000 (by omega)
          · rcases List.mem_append.mp hz with y | y
            · exact dh z y
            · rw [List.mem_singleton.mp y]; exact ⟨d0, d1⟩
        obtain ⟨D10, ds, hD, dl, dh⟩ := p
        rw [List.length_map] at dl
        refine ⟨D, _, rfl, .inl ⟨.inl (.inl hD), fun dt ndt => ?_⟩⟩
        have D11 := D10.same (same_upd (o := .tup (ds.map V.int)) ndt)
        have hdt : upd H10 dt (.tup (ds.map V.int)) dt = some (.tup (ds.map V.int)) := upd_same
        generalize upd H10 dt (.tup (ds.map V.int)) = H11 at D11 hdt
        have E11 := E9.trans D11
        have p11 := someB_stays hT E9.2 D11 p9
        have tu11 := D11.tups E9.2
        have ra11 := tu11 _ _ ra9
        have pr11 := pairedMap (fun _ _ e => tu11 _ _ e) pr9
        have finR : SeqAt.shaped (.tuple (wd.2.map rowD)) = true := by
          refine (Fine.tuple (fineAll_map wd.2 (n := 2) (w := 64) fun r hr => fine_row (fun z hz => ?_) ?_)).shaped (by decide)
          · have := (gw.row r hr).2 z hz
            omega
          · have := (gw.row r hr).1
            omega
        have rowD11 : ds ∉ wd.2 → RowBad wd (.ref dt) H11 := fun ni => ⟨dt, ds, rfl, hdt, by omega, fun z hz => by have := dh z hz; omega, ni⟩
        -- drawn not in rows
        refine ⟨fun σ Hc => Taped tp H11 Hc ∧ ∃ v6, SomeB wds H 15 v6 Hc ∧ ∃ y13, σ = [some (.ref tp), some (.ref ri), some (.ref la), some (.int (wds.length : Nat)), some (.int at0), some (.int farv), some v6, some (.int num), some (.ref pa), some (.ref ra), some (.ref rs[rx.toNat]), some vo, some (.ref dt), y13, none, none], ?_, ?_⟩
        · refine ⟨.ref dt, rfl, .ref ra, rfl, rowD ds, wd.2.map rowD, dpRow hdt, .tup (.inl (.inl ra11)) (dpRows pr11), shaped_row _, finR, _, rfl, ?_⟩
          rw [anyRows]
          refine ite2 (fun ee => ?_) (fun _ => ?_)
          · have ni : ds ∉ wd.2 := fun z => by rw [decide_eq_true z] at ee; exact absurd ee (by decide)
            have t : Tr tp (tOp rCat (tVar 6) (tOp rRep (tLst (tCons (tTup (tCons (tVar 7) (tCons (tVar 12) tNil))) tNil)) (tC (.int 4)))) [some (.ref tp), some (.ref ri), some (.ref la), some (.int (wds.length : Nat)), some (.int at0), some (.int farv), some (.ref l7), some (.int num), some (.ref pa), some (.ref ra), some (.ref rs[rx.toNat]), some vo, some (.ref dt), none, none, none] H11 (SomeB wds H (11 + 4)) := someB_cat hT E11 rfl p11 (by decide) fun Hx dx Q' k' => by
              refine trB_one (trB_row numN wdn (tr_var dx.2 rfl rfl) fun Ha da => tr_var da.2 rfl (rowBad_stays tp wd _ H11 Ha D11.2 (dx.trans da) (rowD11 ni))) _ fun v Hb db ⟨l, es, ev, h2, h3, h4, h5⟩ => ?_
              subst ev
              refine ⟨l, 4, _, rfl, rfl, h3, by decide, by decide, by rw [List.length_map]; exact Nat.le_of_lt (small1000 (show es.length * 4 ≤ 1000 by omega)), fun p np => ?_⟩
              have sp := same_upd (o := .lst (List.replicate (4 : Int).toNat (es.map V.ref)).flatten) np
              have ef : (List.replicate (4 : Int).toNat (es.map V.ref)).flatten = (List.replicate 4 es).flatten.map V.ref := by
                rw [List.map_flatten, List.map_replicate]
                rfl
              rw [ef] at sp ⊢
              refine k' _ _ (db.same sp) ⟨p, (List.replicate 4 es).flatten, rfl, db.2.new np, upd_same, ?_, fun e he => ?_⟩
              · show (es ++ (es ++ (es ++ (es ++ [])))).length ≤ 4
                rw [List.length_append, List.length_append, List.length_append, List.length_append]
                show es.length + (es.length + (es.length + (es.length + 0))) ≤ 4
                omega
              · obtain ⟨l', hl', hm⟩ := List.mem_flatten.mp he
                rw [(List.mem_replicate.mp hl').2] at hm
                exact (h5 e hm).mono (tups_same sp)
            exact t _ fun v H12 d12 p12 => ⟨d12, v, p12, _, rfl⟩
          · exact ⟨Taped.refl D11.2, _, p11.up (by decide), _, rfl⟩
        · rintro σ Hc ⟨dc, v6c, pc, y13, rfl⟩
          have Ec := E11.trans dc
          have tuc := dc.tups E11.2
          -- wish by wish
          refine ⟨.ref ri, rfl, ri, _, 2, _, rfl, rfl, .inl (.inl (tuc _ _ (tu11 _ _ r19))), atI_nat (j := 2) rfl, wt, rfl, ⟨_, .inl (.inl (tuc _ _ (tu11 _ _ r29)))⟩, ?_⟩
          have r2c := tuc _ _ (tu11 _ _ r29)
          have r3c := pairedMap (fun _ _ e => IsWish.mono (((tu45.trans tu59).trans tu11).trans tuc) e) (pairedMap (fun _ _ e => IsWish.mono tu4 e) r3)
          have rac := tuc _ _ ra11
          have prc := pairedMap (fun _ _ e => tuc _ _ e) pr11
          refine for_tup (K := K) (a := wt) (xs := was.map V.ref) (fun i σ H13 => Taped tp Hc H13 ∧ ∃ v6, SomeB wds H (15 + 64 * i) v6 H13 ∧ ∃ y13, σ = [some (.ref tp), some (.ref ri), some (.ref la), some (.int (wds.length : Nat)), some (.int at0), some (.int farv), some v6, some (.int num), some (.ref pa), some (.ref ra), some (.ref rs[rx.toNat]), some vo, some (.ref dt), y13, none, none]) ⟨Taped.refl dc.2, v6c, pc, _, rfl⟩ (fun i σ H13 _ p => .inl (.inl (p.1.tups dc.2 _ _ r2c))) (fun i x σ H13 hx p => ?_) (fun σ H13 p => ?_)
          · obtain ⟨d13, v13, p13, z13, rfl⟩ := p
            obtain ⟨wa, ewa, rfl⟩ := map_get hx
            have hi : i < was.length := (List.getElem?_eq_some_iff.mp ewa).1
            obtain ⟨wd2, hwd2, isw2⟩ := pairedGetL r3c ewa
            have gw2 := gr.each wd2 (List.mem_of_getElem? hwd2)
            have E13 := Ec.trans d13
            obtain ⟨pa2, ra2, rs2, j1, j2, j3, j4⟩ := isw2.mono (d13.tups dc.2)
            have rs2l := pairedLen j4
            have f2 := gw2.few
            have t : Tr tp (tOp rCat (tVar 6) (tLc (iTup K (tOp (rIxT K) (tVar 13) (tC (.int 1)))) (gName 15) (tTest (tOp (rNotInT K) (tVar 15) (tVar 9))) (tTup (tCons (tVar 7) (tCons (tVar 15) tNil))) [15])) [some (.ref tp), some (.ref ri), some (.ref la), some (.int (wds.length : Nat)), some (.int at0), some (.int farv), some v13, some (.int num), some (.ref pa), some (.ref ra), some (.ref rs[rx.toNat]), some vo, some (.ref dt), some (.ref wa), none, none] H13 (SomeB wds H (15 + 64 * i + 64)) := someB_cat hT E13 rfl p13 (by omega) fun Hx dx Q' k' => by
              have tux := dx.tups d13.2
              refine ⟨.ref wa, rfl, wa, _, 1, _, rfl, rfl, .inl (.inl (tux _ _ j1)), atI_nat (j := 1) rfl, ra2, rfl, ⟨_, .inl (.inl (tux _ _ j3))⟩, fun D2 nD2 => ?_⟩
              have nD2t : D2 ≠ tp := dx.2.new nD2
              refine lc_tup (K := K) (a := ra2) (xs := rs2.map V.ref) (fun j H14 => Same Hx H14 ∧ ∃ fs : List Addr, H14 D2 = some (.lst (fs.map V.ref)) ∧ fs.length ≤ j ∧ ∀ e ∈ fs, BEnt wds H14 e) ⟨same_upd nD2, [], upd_same, Nat.le_refl _, (fun _ h => nomatch h)⟩ (fun j H14 _ p => .inl (.inl (p.1 _ _ (tux _ _ j3)))) (fun j x H14 hx p => ?_) (fun H14 p => ?_)
              · obtain ⟨ro, ero, rfl⟩ := map_get hx
                obtain ⟨s14, fs, hD2, fl, fw⟩ := p
                obtain ⟨row2, erow2, isr2⟩ := pairedGetL j4 ero
                have hj : j < rs2.length := (List.getElem?_eq_some_iff.mp ero).1
                have gro2 := gw2.row row2 (List.mem_of_getElem? erow2)
                have ir : IsRow H14 ro row2 := s14 _ _ (tux _ _ isr2)
                have ra14 := s14 _ _ (tux _ _ (d13.tups dc.2 _ _ rac))
                have pr14 := pairedMap (fun _ _ e => s14 _ _ (tux _ _ (d13.tups dc.2 _ _ e))) prc
                refine ⟨rfl, .ref ro, rfl, .ref ra, rfl, rowD row2, wd.2.map rowD, dpRow ir, .tup (.inl (.inl ra14)) (dpRows pr14), shaped_row _, finR, _, rfl, ?_⟩
                rw [anyRows]
                refine ite2 (fun ee => ?_) (fun _ => ?_)
                · have ni : row2 ∉ wd.2 := fun z => by rw [decide_eq_true z] at ee; exact absurd ee (by decide)
                  refine ⟨.int num, rfl, .ref ro, rfl, (by show 2 ≤ sizeLine; decide), fun t nt => ?_⟩
                  have st := same_upd (o := .tup [.int num, .ref ro]) nt
                  have hD2' := st _ _ hD2
                  have tu15 : Tups (upd H14 t (.tup [.int num, .ref ro])) (upd (upd H14 t (.tup [.int num, .ref ro])) D2 (.lst (fs.map V.ref ++ [.ref t]))) := tups_lst hD2'
                  have we : BEnt wds (upd H14 t (.tup [.int num, .ref ro])) t := ⟨(num, row2), ⟨ro, upd_same, st _ _ ir⟩, ⟨far (by omega) (by omega), by show row2.length ≤ 10; have := gw2.three; omega, fun z hz => by have := gro2.2 z hz; omega⟩, decide_eq_false fun z => ni (by have y := z.2.2; rw [wdn] at y; exact y)⟩
                  refine ⟨_, hD2', by rw [List.length_map]; exact small1000 (by omega), same_put (s14.trans st) nD2, fs ++ [t], by rw [upd_same, List.map_append]; rfl, by rw [List.length_append]; exact Nat.succ_le_succ fl, fun e he => ?_⟩
                  rcases List.mem_append.mp he with z | z
                  · exact ((fw e z).mono (tups_same st)).mono tu15
                  · rw [List.mem_singleton.mp z]; exact we.mono tu15
                · exact ⟨s14, fs, hD2, by omega, fw⟩
              · obtain ⟨s14, fs, hD2, fl, fw⟩ := p
                rw [List.length_map] at fl
                exact k' _ _ ((Taped.refl dx.2).same s14) ⟨D2, fs, rfl, nD2t, hD2, by omega, fw⟩
            refine t _ fun v H14 d14 p14 => ⟨d13.trans d14, v, ?_, _, rfl⟩
            exact p14.up (by omega)
          · obtain ⟨d13, v13, p13, z13, rfl⟩ := p
            rw [List.length_map] at p13
            exact ⟨Ec.trans d13, v13, p13.up (by omega), _, _, _, _, _, _, _, rfl⟩
      · exact ⟨E3, v6, p3.up (by decide), _, _, _, _, _, _, _, rfl⟩
    · rintro σ Hc ⟨Ec, v6c, pc, y7, y8, y9, y10, y11, y12, y13, rfl⟩
      obtain ⟨ls, fs, rfl, n6, h6, l61, l62, w6⟩ := id pc
      have nst : ls ≠ tp := hT.new n6
      have hlc := Ec.1 _ _ nlt hl
      -- up to at
      refine ⟨.ref la, rfl, .int at0, rfl, at0, rfl, la, _, rfl, .inl (.inl hlc), fun l1 nl1 => ?_⟩
      have e1 : cutV (es.map V.ref) none (some at0) = (es.take at0.toNat).map V.ref := by
        have z := cut_to V.ref es at0.toNat
        have e : ((at0.toNat : Nat) : Int) = at0 := by omega
        rw [e] at z
        exact z
      rw [e1]
      have s1 := same_upd (o := .lst ((es.take at0.toNat).map V.ref)) nl1
      have n1t : l1 ≠ tp := Ec.2.new nl1
      have F1 := Ec.same s1
      have h61 := s1 _ _ h6
      have hl1 : upd Hc l1 (.lst ((es.take at0.toNat).map V.ref)) l1 = some (.lst ((es.take at0.toNat).map V.ref)) := upd_same
      have w61 : ∀ e ∈ fs, BEnt wds (upd Hc l1 (.lst ((es.take at0.toNat).map V.ref))) e := fun e he => (w6 e he).mono (tups_same s1)
      generalize upd Hc l1 (.lst ((es.take at0.toNat).map V.ref)) = Hd at F1 h61 hl1 w61
      -- one of some
      refine ⟨.ref ls, rfl, .ref tp, rfl, .ref ls, rfl, ls, _, rfl, .inl (.inl (.inl h61)), tp, _, rfl, F1.2, by rw [List.length_map]; omega, by rw [List.length_map]; exact log_small (by omega) (by omega), fun He d De d0 d1 => ?_⟩
      rw [List.length_map] at d1
      have F2 := F1.trans De
      have dn : d.toNat < fs.length := by omega
      refine ⟨ls, _, d, _, rfl, rfl, .inl (.inl (De.1 _ _ nst h61)), atI_of d0 (List.getElem?_eq_getElem dn), (by show 1 ≤ sizeLine; decide), fun l2 nl2 => ?_⟩
      have s2 := same_upd (o := .lst [.ref fs[d.toNat]]) nl2
      have hl1' := s2 _ _ (De.1 _ _ n1t hl1)
      refine ⟨l1, l2, _, _, rfl, rfl, hl1', upd_same, ?_, fun l3 nl3 => ?_⟩
      · rw [List.length_map, List.length_take]
        show _ + 1 ≤ sizeLine
        exact Nat.le_of_lt (small1000 (by omega))
      have s3 := same_upd (o := .lst ((es.take at0.toNat).map V.ref ++ [.ref fs[d.toNat]])) nl3
      have s23 := s2.trans s3
      have F3 := F2.same s23
      have n3t : l3 ≠ tp := (F2.same s2).2.new nl3
      have hl3 : upd (upd He l2 (.lst [.ref fs[d.toNat]])) l3 (.lst ((es.take at0.toNat).map V.ref ++ [.ref fs[d.toNat]])) l3 = some (.lst ((es.take at0.toNat ++ [fs[d.toNat]]).map V.ref)) := by rw [upd_same, List.map_append]; rfl
      have wd3 : BEnt wds (upd (upd He l2 (.lst [.ref fs[d.toNat]])) l3 (.lst ((es.take at0.toNat).map V.ref ++ [.ref fs[d.toNat]]))) fs[d.toNat] := ((w61 _ (List.getElem_mem dn)).mono (De.tups F1.2)).mono (tups_same s23)
      generalize upd (upd He l2 (.lst [.ref fs[d.toNat]])) l3 (.lst ((es.take at0.toNat).map V.ref ++ [.ref fs[d.toNat]])) = Hf at F3 hl3 wd3
      -- from there on
      refine ⟨.ref la, rfl, .int at0, rfl, .ref tp, rfl, tp, 2, rfl, F3.2, by decide, by decide, fun Hg sk Dg sk0 sk1 => ⟨at0, sk, rfl, rfl, _, rfl, la, _, rfl, .inl (.inl ((F3.trans Dg).1 _ _ nlt hl)), fun l4 nl4 => ?_⟩⟩
      have e2 : cutV (es.map V.ref) (some (at0 + sk)) none = (es.drop (at0.toNat + sk.toNat)).map V.ref := by
        have z := cut_from V.ref es (at0.toNat + sk.toNat)
        have e : ((at0.toNat + sk.toNat : Nat) : Int) = at0 + sk := by omega
        rw [e] at z
        exact z
      dsimp only
      rw [e2]
      have F4 := F3.trans Dg
      have s4 := same_upd (o := .lst ((es.drop (at0.toNat + sk.toNat)).map V.ref)) nl4
      have hl3' := s4 _ _ (Dg.1 _ _ n3t hl3)
      refine ⟨l3, l4, _, _, rfl, rfl, hl3', upd_same, ?_, fun l5 nl5 => ?_⟩
      · rw [List.length_map, List.length_map, List.length_append, List.length_take, List.length_drop]
        show _ + 1 + _ ≤ sizeLine
        exact Nat.le_of_lt (small1000 (by omega))
      have s5 := same_upd (o := .lst ((es.take at0.toNat ++ [fs[d.toNat]]).map V.ref ++ (es.drop (at0.toNat + sk.toNat)).map V.ref)) nl5
      have s45 := s4.trans s5
      have F5 := F4.same s45
      have odd5 : BEnt wds (upd (upd Hg l4 (.lst ((es.drop (at0.toNat + sk.toNat)).map V.ref))) l5 (.lst ((es.take at0.toNat ++ [fs[d.toNat]]).map V.ref ++ (es.drop (at0.toNat + sk.toNat)).map V.ref))) fs[d.toNat] := (wd3.mono (Dg.tups F3.2)).mono (tups_same s45)
      refine q _ _ F5 ⟨l5, es.take at0.toNat ++ [fs[d.toNat]] ++ es.drop (at0.toNat + sk.toNat), rfl, (F4.same s4).2.new nl5, by rw [upd_same, List.map_append (l₂ := es.drop (at0.toNat + sk.toNat))], ?_, fun e he => ?_, fs[d.toNat], List.mem_append_left _ (List.mem_append_right _ (List.mem_singleton.mpr rfl)), odd5⟩
      · rw [List.length_append, List.length_append, List.length_take, List.length_drop]
        show _ + 1 + _ ≤ n + 1
        omega
      · have old : ∀ e ∈ es, WEnt _ e := fun e he => (hw e he).mono (F5.tups hT)
        rcases List.mem_append.mp he with z | z
        · rcases List.mem_append.mp z with y | y
          · exact old e (List.mem_of_mem_take y)
          · rw [List.mem_singleton.mp y]
            exact odd5.w
        · exact old e (List.mem_of_mem_drop z)
end
end Rd

set_option Elab.async false
set_option linter.all false
set_option maxRecDepth 100000
set_option maxHeartbeats 4000000
namespace Rd
open PySem PySem.Spec PyProof.Rows L2 Dt
abbrev sLaw : Stmt := topS 32
abbrev nLaw : List Str := ["script", "start", "tape", "riddle", "turn", "filling", "log", "due", "handed", "again", "found", "at", "others", "odd", "more", "place"]
theorem scLaw : FnScope nLaw ["script"] (defScope sLaw) := ⟨rfl, rfl, rfl, by decide +kernel, rfl, by decide +kernel, by decide +kernel⟩
theorem told_few {wds : List WD} (h3 : ∀ wd ∈ wds, wd.1.length ≤ 3) (fs : List Int) {log : Log} (hl : log.length ≤ 300) : ∀ ds ∈ toldT wds fs log, ds.length ≤ 1000 := fun ds hd => by
  obtain ⟨i, hi, e⟩ := List.getElem_of_mem hd
  rw [toldT_len] at hi
  have a := toldT_get wds fs log hi
  rw [getD_get (by rw [toldT_len]; exact hi), e] at a
  have b := toldL_le h3 fs.length i log
  rw [a, List.length_append]
  show _ + 1 ≤ 1000
  omega
theorem ok_entW {many hues : Int} {wds : List WD} (gr : GoodR many hues wds) {x : Int × List Int} (h : 0 ≤ x.1 ∧ x.1 < (wds.length : Int) ∧ ∃ wd, wds[x.1.toNat]? = some wd ∧ x.2 ∈ wd.2) : EntW x := by
  obtain ⟨h0, h1, wd, hw, hr⟩ := h
  have g := gr.each wd (List.mem_of_getElem? hw)
  have e8 := gr.eight
  refine ⟨Nat.lt_trans (show x.1.natAbs < 100 by omega) (by decide), ?_, fun z hz => ?_⟩
  · have := (g.row _ hr).1
    have := g.three
    omega
  · have := (g.row _ hr).2 z hz
    have := gr.h4
    omega
theorem fine_part {many hues : Int} {tb tc : List (List Int)} (m6 : many ≤ 6) (h4 : hues ≤ 4) (g : GoodT many hues tb) (hl : tc.length ≤ tb.length) (hm : ∀ l ∈ tc, l ∈ tb) : Fine (listsD tc) 3 100000 := by
  have gl := g.len
  refine (Fine.list (fineAll_map tc (n := 2) (w := 15000) fun l hx => (fine_ints fun z hz => ⟨(g.hue l (hm l hx) z hz).1, by have := (g.hue l (hm l hx) z hz).2; omega⟩).mono (Nat.le_refl _) (by have := g.few l (hm l hx); omega))).mono (Nat.le_refl _) ?_
  have : tc.length ≤ 6 := by omega
  omega
theorem nodup_cut {l : List Addr} {p : Nat} {d : Addr} (n : l.Nodup) (h : l[p]? = some d) : (∀ x ∈ l.take p, x ≠ d) ∧ ∀ x ∈ l.drop (p + 1), x ≠ d := by
  obtain ⟨hp, e⟩ := List.getElem?_eq_some_iff.mp h
  rw [← List.take_append_drop p l, List.drop_eq_getElem_cons hp, e] at n
  obtain ⟨_, n2, n3⟩ := List.nodup_append.mp n
  exact ⟨fun x hx => n3 x hx d List.mem_cons_self, fun x hx z => (List.nodup_cons.mp n2).1 (z ▸ hx)⟩
theorem paired_taped {tp : Addr} {H H' : Hp} (f : Taped tp H H') : ∀ {das : List Addr} {T : List (List Int)}, Paired (IsInts H) das T → (∀ d ∈ das, d ≠ tp) → Paired (IsInts H') das T
  | _, _, .nil, _ => .nil
  | _, _, .cons h t, n => .cons (f.1 _ _ (n _ List.mem_cons_self) h) (paired_taped f t fun d hd => n d (List.mem_cons_of_mem _ hd))
theorem isRow_one {H : Hp} {r : Addr} {x y : List Int} (h1 : IsRow H r x) (h2 : IsRow H r y) : x = y := by
  have h1 : H r = some (.tup (x.map V.int)) := h1
  have h2 : H r = some (.tup (y.map V.int)) := h2
  rw [h1] at h2
  injection h2 with h2
  injection h2 with h2
  exact (List.map_inj_right fun a b h => by injection h).mp h2
theorem isEnt_one {H : Hp} {e : Addr} {x y : Int × List Int} (h1 : IsEnt H e x) (h2 : IsEnt H e y) : x = y := by
  obtain ⟨r, a1, a2⟩ := h1
  obtain ⟨r2, b1, b2⟩ := h2
  rw [a1] at b1
  injection b1 with b1
  injection b1 with b1
  injection b1 with c1 c2
  injection c2 with c2 _
  injection c1 with c1
  injection c2 with c2
  subst c2
  exact Prod.ext c1 (isRow_one a2 b2)
/-- a list with an entry that is no mending is no log -/
theorem oddL_log {wds : List WD} {H : Hp} {es : List Addr} (hw : ∀ e ∈ es, WEnt H e) (hb : ∃ e ∈ es, BEnt wds H e) : ∃ log : Log, Paired (IsEnt H) es log ∧ (∀ x ∈ log, EntW x) ∧ logB wds log = false := by
  obtain ⟨log, pe, ew⟩ := entL_log hw
  refine ⟨log, pe, ew, ?_⟩
  obtain ⟨e, he, x, isx, _, bx⟩ := hb
  obtain ⟨i, hi⟩ := List.getElem?_of_mem he
  obtain ⟨y, hy, isy⟩ := pairedGetL pe hi
  have exy := isEnt_one isx isy
  subst exy
  cases e : logB wds log with
  | false => rfl
  | true => exact absurd (List.all_eq_true.mp e x (List.mem_of_getElem? hy)) (by rw [bx]; decide)
theorem log_entL {tp : Addr} {H : Hp} {many hues : Int} {wds : List WD} {la : Addr} {log : Log} (gr : GoodR many hues wds) (h : IsLog H la log) (ok : LogOk wds log) (nt : la ≠ tp) {n : Nat} (hn : log.length ≤ n) : EntL tp n (.ref la) H := by
  obtain ⟨es, h1, pe⟩ := h
  have el := pairedLen pe
  refine ⟨la, es, rfl, nt, h1, by omega, fun e he => ?_⟩
  obtain ⟨i, hi⟩ := List.getElem?_of_mem he
  obtain ⟨y, hy, isy⟩ := pairedGetL pe hi
  exact ⟨y, isy, ok_entW gr (ok y (List.mem_of_getElem? hy))⟩
structure TxtL (P : Program) (w : World) (K : PySem.W.Frag) (mg : Str → Option Value) (base : Heap) (Ps : List Addr) (Cc : Nat → Addr) : Prop where
  m_range : mg "range" = none
  m_repr : mg "repr" = none
  m_max : mg "max" = none
  m_min : mg "min" = none
  m_len : mg "len" = none
  m_list : mg "list" = none
  m_tuple : mg "tuple" = none
  c__law_tape : Cal P w K mg base 1 "_law_tape" ["script", "start"] (spTap K)
  c__law_digit : Cal P w K mg base 1 "_law_digit" ["tape", "many"] spDig
  c__law_riddle : Cal P w K mg base 3 "_law_riddle" ["tape", "small"] spRid
  c__law_log : Cal P w K mg base 3 "_law_log" ["tape", "riddle"] spLlg
  c__law_told : Cal P w K mg base 1 "_law_told" ["riddle", "filling", "log"] spLtl
  c__law_odd : Cal P w K mg base 2 "_law_odd" ["tape", "riddle", "log"] spOdX
  c__law_refused : Cal P w K mg base 5 "_law_refused" ["riddle", "filling", "log"] (spRfs Ps)
  c_told_back : CalX P w K mg base 4 "told_back" ["riddle", "filling", "log"] (spTolX Ps Cc)
section
variable {P : Program} {w : World} {K : PySem.W.Frag} {mg : Str → Option Value} {base : Heap}
set_option maxHeartbeats 32000000 in
theorem body_law {fa0 a : Addr} {Ps : List Addr} {Cc : Nat → Addr} {s : Shared} {H : Hp} {cdv : Value} {ns : List Int} (T : TxtL P w K mg base Ps Cc) (hl : ns.length ≤ 63) (hT : Tabs Ps H) (hS : SqL K H a (ns.map V.int))
    (hr : Room 6 (callerA.deeper (envOfC (Str.ofString "law") (defScope sLaw) s.heap.objs.size fa0 cdv))) :
    ∃ t, PSs (cxOf CX0 P w K mg base nLaw (Str.ofString "law") (defScope sLaw) fa0 cdv callerA [] s H (fun _ _ _ => False)).nox (defBody sLaw) t ∧ t { nx := fun _ _ => False, rt := fun v _ => v = .bl true } (start nLaw [.ref a]) H := by
  have hg : (callerA.deeper (envOfC (Str.ofString "law") (defScope sLaw) s.heap.objs.size fa0 cdv)).guards = some [] := rfl
  refine ⟨_, (pss_cons (ps_for PassesOwn.never rfl (pi_range1 (by rfl) T.m_range (pa_cons (pe_callB (call_max2 rfl) (by rfl) T.m_max (by decide +kernel) (pa_cons pe_int (pa_cons (pe_callB (call_min2 rfl) (by rfl) T.m_min (by decide +kernel) (pa_cons pe_int (pa_cons (pe_callB call_len_seq (by rfl) T.m_len (by decide +kernel) (pa_cons (pv 0) pa_nil)) pa_nil))) pa_nil))) pa_nil)) (pg_name (i := 1) scLaw.nd rfl (Or.inl rfl))
  (pss_cons (ps_set (i := 2) scLaw.nd rfl (Or.inr rfl) (pe_cal T.c__law_tape (hr.mono (by omega)) (by rfl) (pa_cons (pv 0) (pa_cons (pv 1) pa_nil))))
  (pss_cons (ps_set (i := 3) scLaw.nd rfl (Or.inr rfl) (pe_cal T.c__law_riddle (hr.mono (by omega)) (by rfl) (pa_cons (pv 2) (pa_cons (pe_cmpR op_eq (pe_cal T.c__law_digit (hr.mono (by omega)) (by rfl) (pa_cons (pv 2) (pa_cons pe_int pa_nil))) pe_int (nomark _)) pa_nil))))
  (pss_one (ps_for PassesOwn.never rfl (pi_range1 (by rfl) T.m_range (pa_cons pe_int pa_nil)) (pg_name (i := 4) scLaw.nd rfl (Or.inl rfl))
  (pss_cons (ps_set (i := 5) scLaw.nd rfl (Or.inl rfl) (pe_callTy call_tuple_of (by rfl) T.m_tuple (by decide +kernel) (pa_cons (pe_lc (te := tCall spDig [] E0 (tCons (tVar 2) (tCons (tOp (rIxT K) (tVar 3) (tC (.int 1))) tNil))) (own := [("place", 15)]) rfl scLaw.nd  (pi_range1 (by rfl) T.m_range (pa_cons (pe_ix ix_tup (pv 3) pe_int (fun _ _ => rfl)) pa_nil)) (blkOk_by (own := [("place", 15)]) (N := nLaw) (sc := defScope sLaw) (by decide +kernel))
   (fun _ _ _ _ _ => (pg_name (i := 15) scLaw.nd rfl (Or.inl rfl))) (fun _ _ _ _ _ => pts_nil) (fun _ _ _ _ _ => (pe_cal T.c__law_digit (hr.mono (by omega)) (by rfl) (pa_cons (pv 2) (pa_cons (pe_ix ix_tup (pv 3) pe_int (fun _ _ => rfl)) pa_nil))))) pa_nil)))
  (pss_cons (ps_set (i := 6) scLaw.nd rfl (Or.inl rfl) (pe_cal T.c__law_log (hr.mono (by omega)) (by rfl) (pa_cons (pv 2) (pa_cons (pv 3) pa_nil))))
  (pss_cons (ps_set (i := 7) scLaw.nd rfl (Or.inl rfl) (pe_callB (Lg.call_repr hg hr.units) (by rfl) T.m_repr (by decide +kernel) (pa_cons (pe_cal T.c__law_told (hr.mono (by omega)) (by rfl) (pa_cons (pv 3) (pa_cons (pv 5) (pa_cons (pv 6) pa_nil)))) pa_nil)))
  (pss_cons (ps_set (i := 8) scLaw.nd rfl (Or.inl rfl) (pe_callTy call_list_of (by rfl) T.m_list (by decide +kernel) (pa_cons (pv 6) pa_nil)))
  (pss_cons (ps_for PassesOwn.never rfl (pi_range1 (by rfl) T.m_range (pa_cons pe_int pa_nil)) (pg_name (i := 9) scLaw.nd rfl (Or.inl rfl))
  (pss_cons (ps_set (i := 10) scLaw.nd rfl (Or.inl rfl) (pe_calX T.c_told_back (hr.mono (by omega)) takes0 (by rfl) (pa_cons (pv 3) (pa_cons (pv 5) (pa_cons (pv 8) pa_nil)))))
  (pss_cons (ps_if (PW.pt (pw_or (pt_cmpR op_ne (pe_callB (Lg.call_repr hg hr.units) (by rfl) T.m_repr (by decide +kernel) (pa_cons (pv 10) pa_nil)) (pv 7) (nomark _)) (pw_or1 (pt_cmpR (op_neD hr.units) (pv 8) (pv 6) (nomark _)))))
  (pss_one (ps_ret pe_bl)) pss_nil)
  (pss_cons (ps_set (i := 11) scLaw.nd rfl (Or.inl rfl) (pe_cal T.c__law_digit (hr.mono (by omega)) (by rfl) (pa_cons (pv 2) (pa_cons (pe_ix ix_tup (pv 3) pe_int (fun _ _ => rfl)) pa_nil))))
  (pss_cons (ps_expr (pe_bm0 PySem.F.plainAttrs_list PySem.F.slot_list_clear PySem.F.type_list_clear mt_clear (pe_ix ix_list (pv 10) (pv 11) (fun _ _ => rfl))))
  (pss_cons (ps_set (i := 12) scLaw.nd rfl (Or.inl rfl) (pe_cal T.c__law_told (hr.mono (by omega)) (by rfl) (pa_cons (pv 3) (pa_cons (pv 5) (pa_cons (pv 6) pa_nil)))))
  (pss_one (ps_if (PW.pt (pw_or (pt_cmpR (op_neD hr.units) (pe_slice sl_list (pv 10) po_none (po_some (pv 11))) (pe_slice sl_list (pv 12) po_none (po_some (pv 11))) (nomark _)) (pw_or1 (pt_cmpR (op_neD hr.units) (pe_slice sl_list (pv 10) (po_some (pe_op op_add (pv 11) pe_int)) po_none) (pe_slice sl_list (pv 12) (po_some (pe_op op_add (pv 11) pe_int)) po_none) (nomark _)))))
  (pss_one (ps_ret pe_bl)) pss_nil))))))))
  (pss_cons (ps_set (i := 13) scLaw.nd rfl (Or.inl rfl) (pv 6))
  (pss_cons (ps_for PassesOwn.never rfl (pi_range1 (by rfl) T.m_range (pa_cons (pe_op op_add pe_int (pe_cal T.c__law_digit (hr.mono (by omega)) (by rfl) (pa_cons (pv 2) (pa_cons pe_int pa_nil)))) pa_nil)) (pg_name (i := 14) scLaw.nd rfl (Or.inl rfl))
  (pss_one (ps_set (i := 13) scLaw.nd rfl (Or.inl rfl) (pe_cal T.c__law_odd (hr.mono (by omega)) (by rfl) (pa_cons (pv 2) (pa_cons (pv 3) (pa_cons (pv 13) pa_nil)))))))
  (pss_one (ps_if (pt_not (pt_val (pe_cal T.c__law_refused (hr.mono (by omega)) (by rfl) (pa_cons (pv 3) (pa_cons (pv 5) (pa_cons (pv 13) pa_nil))))))
  (pss_one (ps_ret pe_bl)) pss_nil))))))))))))))
  (pss_one (ps_ret pe_bl))), ?_⟩
  refine ⟨.ref a, rfl, a, _, rfl, .inl hS, 5, _, rfl, 1, _, rfl, ?_⟩
  rw [List.length_map]
  obtain ⟨c1, c5⟩ : 1 ≤ (if (if (ns.length : Int) < 5 then (ns.length : Int) else 5) > 1 then (if (ns.length : Int) < 5 then (ns.length : Int) else 5) else 1) ∧ (if (if (ns.length : Int) < 5 then (ns.length : Int) else 5) > 1 then (if (ns.length : Int) < 5 then (ns.length : Int) else 5) else 1) ≤ 5 := by split <;> split <;> omega
  generalize (if (if (ns.length : Int) < 5 then (ns.length : Int) else 5) > 1 then (if (ns.length : Int) < 5 then (ns.length : Int) else 5) else 1) = cells at c1 c5
  refine ⟨cells, rfl, by omega, by omega, for_range (lo := 0) (n := cells.toNat) (fun i σ H2 => Tabs Ps H2 ∧ SqL K H2 a (ns.map V.int) ∧ ∃ y1 y2 y3 y4 y5 y6 y7 y8 y9 y10 y11 y12 y13 y14, σ = [some (.ref a), y1, y2, y3, y4, y5, y6, y7, y8, y9, y10, y11, y12, y13, y14, none]) ⟨hT, hS, none, none, none, none, none, none, none, none, none, none, none, none, none, none, rfl⟩ (fun i σ H2 hi p => ?_) (fun σ H2 p => ?_)⟩
  · obtain ⟨hT2, hS2, y1, y2, y3, y4, y5, y6, y7, y8, y9, y10, y11, y12, y13, y14, rfl⟩ := p
    -- tape
    refine ⟨.ref a, rfl, .int (0 + (i : Int)), rfl, a, ns, _, rfl, hS2, hl, by omega, by omega, fun H3 tp s3 ntp tp3 => ?_⟩
    have L3 : LI K a (ns.map V.int) Ps tp H3 := ⟨tp3, hT2.same s3, sq_keep hS2 (s3 a), fun e H' => sq_new hS2 ntp e H'⟩
    -- riddle
    refine ⟨.ref tp, rfl, .ref tp, rfl, tp, 2, rfl, tp3, by decide, by decide, fun H4 d D4 _ _ => ⟨rfl, ?_⟩⟩
    have L4 := L3.taped D4
    refine ⟨tp, _, rfl, L4.tape, fun H5 ri many hues wds D5 rid gr neat sz => ?_⟩
    have L5 := L4.taped D5
    have nd : ∀ wd ∈ wds, wd.1.Nodup := fun wd h => (neat wd h).nd
    obtain ⟨m1, m6, h2, h4, _⟩ := id sz
    dsimp only at m1 m6 h2 h4
    have e8 := gr.eight
    -- turns
    refine ⟨3, rfl, by decide, by decide, for_range (lo := 0) (n := 3) (fun j σ H6 => LI K a (ns.map V.int) Ps tp H6 ∧ IsRid H6 ri many hues wds ∧ ∃ y4 y5 y6 y7 y8 y9 y10 y11 y12 y13 y14, σ = [some (.ref a), some (.int (0 + (i : Int))), some (.ref tp), some (.ref ri), y4, y5, y6, y7, y8, y9, y10, y11, y12, y13, y14, none]) ⟨L5, rid, y4, y5, y6, y7, y8, y9, y10, y11, y12, y13, y14, rfl⟩ (fun j σ H6 hj p => ?_) (fun σ H6 p => ?_)⟩
    · obtain ⟨L6, rid6, z4, z5, z6, z7, z8, z9, z10, z11, z12, z13, z14, rfl⟩ := p
      obtain ⟨wt, was, r1, r2, r3⟩ := id rid6
      -- filling
      refine ⟨.ref ri, rfl, ri, _, 0, _, rfl, rfl, .inl (.inl r1), atI_nat (j := 0) rfl, many, rfl, by omega, by omega, fun D nD => ?_⟩
      have nDt := L6.tape.new nD
      refine lc_range (lo := 0) (n := many.toNat) (fun k H7 => Taped tp H6 H7 ∧ ∃ ds : List Int, H7 D = some (.lst (ds.map V.int)) ∧ ds.length = k ∧ ∀ h ∈ ds, 0 ≤ h ∧ h < hues) ⟨(Taped.refl L6.tape).same (same_upd nD), [], upd_same, rfl, (fun _ h => nomatch h)⟩ (fun k H7 hk p => ?_) (fun H7 p => ?_)
      · obtain ⟨D7, ds, hD, dl, dh⟩ := p
        refine ⟨rfl, yes_if ?_⟩
        refine ⟨.ref tp, rfl, .ref ri, rfl, ri, _, 1, _, rfl, rfl, .inl (.inl (D7.tups L6.tape _ _ r1)), atI_nat (j := 1) rfl, tp, hues, rfl, D7.2, by omega, log_small (by omega) (by omega), fun H8 d D8 d0 d1 => ?_⟩
        refine ⟨_, D8.1 D _ nDt hD, ?_, (D7.trans D8).put nD nDt, ds ++ [d], by rw [upd_same, List.map_append]; rfl, by rw [List.length_append, dl]; rfl, fun z hz => ?_⟩
        · rw [List.length_map, dl]
          exact small1000 (by omega)
        · rcases List.mem_append.mp hz with y | y
          · exact dh z y
          · rw [List.mem_singleton.mp y]; exact ⟨d0, d1⟩
      obtain ⟨D7, fs, hD, dl, dh⟩ := p
      refine ⟨D, _, rfl, .inl ⟨.inl (.inl hD), fun fa nfa => ?_⟩⟩
      have D8 := D7.same (same_upd (o := .tup (fs.map V.int)) nfa)
      have row8 : IsRow (upd H7 fa (.tup (fs.map V.int))) fa fs := upd_same
      generalize upd H7 fa (.tup (fs.map V.int)) = H8 at D8 row8
      have gf : GoodF many hues fs := ⟨by omega, dh⟩
      have L8 := L6.taped D8
      have rid8 := rid6.mono (D8.tups L6.tape)
      -- log
      refine ⟨.ref tp, rfl, .ref ri, rfl, tp, ri, wds, many, hues, rfl, L8.tape, rid8, gr, nd, fun H9 la log D9 nlt nla log9 okl l72 => ?_⟩
      have L9 := L8.taped D9
      have tu9 := D9.tups L8.tape
      have rid9 := rid8.mono tu9
      have row9 : IsRow H9 fa fs := tu9 _ _ row8
      have gT := told_good gr gf okl (told_few (wds := wds) (fun wd h => (gr.each wd h).three) fs (log := log) (by omega))
      have fT := fine_tabT m6 h4 gT
      have ew : ∀ e ∈ log, EntW e := fun e he => ok_entW gr (okl e he)
      have fL := fineW_log ew (by omega)
      have tT := toldT_len wds fs log
      -- due
      refine ⟨.ref ri, rfl, .ref fa, rfl, .ref la, rfl, ri, fa, la, many, hues, wds, fs, log, rfl, rid9, gr, nd, row9, gf, log9, okl, by omega, fun H10 t10 das10 s10 nt10 => ?_⟩
      refine ⟨t10, _, rfl, dpTab nt10.tab, fT.sho, fT.noD, Nat.lt_of_le_of_lt fT.dep (by decide), fT.shows (by decide) (by decide), ?_⟩
      have L10 := L9.same s10
      have rid10 := rid9.mono (tups_same s10)
      have row10 : IsRow H10 fa fs := s10 _ _ row9
      have log10 := log9.seqs (seqs_same s10)
      clear nt10
      -- handed
      obtain ⟨es, hes, pes⟩ := id log10
      refine ⟨.ref la, rfl, la, _, rfl, .inl (.inl (.inl hes)), fun lh nlh => ?_⟩
      have s11 := same_upd (o := .lst (es.map V.ref)) nlh
      have sq11 := seqs_same s11
      have nht : lh ≠ tp := L10.tape.new nlh
      have han11 : IsLog (upd H10 lh (.lst (es.map V.ref))) lh log := ⟨es, upd_same, pairedMap (fun _ _ e => e.mono sq11.1) pes⟩
      have L11 := L10.same s11
      have rid11 := rid10.mono sq11.1
      have row11 : IsRow (upd H10 lh (.lst (es.map V.ref))) fa fs := s11 _ _ row10
      have log11 := log10.seqs sq11
      generalize upd H10 lh (.lst (es.map V.ref)) = H11 at L11 rid11 row11 log11 han11
      -- again
      refine ⟨2, rfl, by decide, by decide, for_range (lo := 0) (n := 2) (fun j2 σ H12 => LI K a (ns.map V.int) Ps tp H12 ∧ IsRid H12 ri many hues wds ∧ IsRow H12 fa fs ∧ IsLog H12 la log ∧ IsLog H12 lh log ∧ ∃ y9 y10 y11 y12, σ = [some (.ref a), some (.int (0 + (i : Int))), some (.ref tp), some (.ref ri), some (.int (0 + (j : Int))), some (.ref fa), some (.ref la), some (.str (listsD (toldT wds fs log)).shown), some (.ref lh), y9, y10, y11, y12, z13, z14, none]) ⟨L11, rid11, row11, log11, han11, _, _, _, _, rfl⟩ (fun j2 σ H12 hj2 p => ?_) (fun σ H12 p => ?_)⟩
      · obtain ⟨L12, rid12, row12, log12, han12, y9, y10, y11, y12, rfl⟩ := p
        -- found
        refine ⟨.ref ri, rfl, .ref fa, rfl, .ref lh, rfl, ri, fa, lh, many, hues, wds, fs, log, rfl, rid12, gr, row12, gf, han12, by omega, L12.tabs, fun _ H13 ta das f13 nt13 => ?_, fun lb => absurd (logB_of okl) (by rw [lb]; decide)⟩
        have F13 : FrT tp Ps H12 H13 := FrT.frs L12.tape L12.tabs f13
        have sq13 := f13.seqs L12.tabs
        refine ⟨.ref ta, rfl, ta, _, rfl, dpTab nt13.tab, fT.sho, fT.noD, Nat.lt_of_le_of_lt fT.dep (by decide), fT.shows (by decide) (by decide), _, rfl, rfl, _, rfl, iteNS rfl ?_⟩
        refine ⟨.ref lh, rfl, .ref la, rfl, _, _, dpLog (han12.seqs sq13), dpLog (log12.seqs sq13), fL.shaped (by decide), fL.shaped (by decide), _, rfl, ?_⟩
        rw [SeqAt.eqv_refl _ fL.lay]
        refine iteF ?_
        -- at
        obtain ⟨wt13, was13, t1, t2, t3⟩ := id (rid12.mono sq13.1)
        refine ⟨.ref tp, rfl, .ref ri, rfl, ri, _, 0, _, rfl, rfl, .inl (.inl t1), atI_nat (j := 0) rfl, tp, many, rfl, F13.tape, by omega, log_small (by omega) (by omega), fun H14 at0 D14 a0 a1 => ?_⟩
        have F14 := F13.trans (FrT.taped F13.tape F13.tabs D14)
        have dn : ∀ d ∈ das, d ≠ tp := fun d hd => L12.tape.new (nt13.new d hd).1
        have ht14 := D14.1 _ _ (L12.tape.new nt13.nt) nt13.ht
        have pr14 := paired_taped D14 nt13.pr dn
        have dsl := pairedLen nt13.pr
        have gfl := gf.len
        have an : at0.toNat < das.length := by omega
        have ed := List.getElem?_eq_getElem an
        have md := List.getElem_mem an
        obtain ⟨rw0, erw, hd14⟩ := pairedGetL pr14 ed
        -- clear
        refine ⟨.ref ta, rfl, .int at0, rfl, ta, _, at0, _, rfl, rfl, .inl (.inl ht14), atI_of a0 ed, .inl ⟨rfl, _, .inl (.inl hd14)⟩, das[at0.toNat], _, rfl, rfl, hd14, ?_⟩
        have F15 : FrT tp Ps H12 (upd H14 das[at0.toNat] (.lst [])) := F14.put (nt13.new _ md).1 (dn _ md) (L12.tabs.new (nt13.new _ md).1)
        have ht15 : upd H14 das[at0.toNat] (.lst []) ta = some (.lst (das.map V.ref)) := by
          rw [upd_ne (nt13.new _ md).2.symm]
          exact ht14
        obtain ⟨nc1, nc2⟩ := nodup_cut nt13.nd ed
        have A15 : Paired (IsInts (upd H14 das[at0.toNat] (.lst []))) (das.take at0.toNat) ((toldT wds fs log).take at0.toNat) := paired_upd (pairedTake _ pr14) nc1
        have B15 : Paired (IsInts (upd H14 das[at0.toNat] (.lst []))) (das.drop (at0.toNat + 1)) ((toldT wds fs log).drop (at0.toNat + 1)) := paired_upd (pairedDrop _ pr14) nc2
        generalize upd H14 das[at0.toNat] (.lst []) = H15 at F15 ht15 A15 B15
        have tu15 := F15.tups L12.tape L12.tabs
        have log15 := log12.keep tu15 (fun xs h => F15.lst L12.tabs nlt h)
        -- others
        refine ⟨.ref ri, rfl, .ref fa, rfl, .ref la, rfl, ri, fa, la, many, hues, wds, fs, log, rfl, rid12.mono tu15, gr, nd, tu15 _ _ row12, gf, log15, okl, by omega, fun H16 tb das2 s16 nt16 => ?_⟩
        have F16 := F15.same s16
        have e1 : ∀ l : List Addr, cutV (l.map V.ref) none (some at0) = (l.take at0.toNat).map V.ref := fun l => by
          have z := cut_to V.ref l at0.toNat
          have e : ((at0.toNat : Nat) : Int) = at0 := by omega
          rw [e] at z
          exact z
        have e2 : ∀ l : List Addr, cutV (l.map V.ref) (some (at0 + 1)) none = (l.drop (at0.toNat + 1)).map V.ref := fun l => by
          have z := cut_from V.ref l (at0.toNat + 1)
          have e : ((at0.toNat + 1 : Nat) : Int) = at0 + 1 := by omega
          rw [e] at z
          exact z
        have fA : Fine (listsD ((toldT wds fs log).take at0.toNat)) 3 100000 := fine_part m6 h4 gT (by rw [List.length_take]; exact Nat.min_le_right _ _) fun l hx => List.mem_of_mem_take hx
        have fB : Fine (listsD ((toldT wds fs log).drop (at0.toNat + 1))) 3 100000 := fine_part m6 h4 gT (by rw [List.length_drop]; omega) fun l hx => List.mem_of_mem_drop hx
        -- up to at
        refine ⟨.ref ta, rfl, .int at0, rfl, at0, rfl, ta, _, rfl, .inl (.inl (s16 _ _ ht15)), fun l1 nl1 => ?_⟩
        rw [e1]
        have s17 := same_upd (o := .lst ((das.take at0.toNat).map V.ref)) nl1
        refine ⟨.ref tb, rfl, .int at0, rfl, at0, rfl, tb, _, rfl, .inl (.inl (s17 _ _ nt16.ht)), fun l2 nl2 => ?_⟩
        rw [e1]
        have s18 := same_upd (o := .lst ((das2.take at0.toNat).map V.ref)) nl2
        have s178 := s17.trans s18
        refine ⟨_, _, .lst (.inl (.inl (s18 _ _ upd_same))) (dpTabs (pairedMap (fun _ _ e => s178 _ _ (s16 _ _ e)) A15)), .lst (.inl (.inl upd_same)) (dpTabs (pairedMap (fun _ _ e => s178 _ _ e) (pairedTake at0.toNat nt16.pr))), fA.shaped (by decide), fA.shaped (by decide), _, rfl, ?_⟩
        have F18 := F16.same s178
        have ht18 := s178 _ _ (s16 _ _ ht15)
        have hb18 := s178 _ _ nt16.ht
        have B18 := pairedMap (fun _ _ e => s178 _ _ (s16 _ _ e)) B15
        have C18 := pairedMap (fun _ _ e => s178 _ _ e) (pairedDrop (at0.toNat + 1) nt16.pr)
        generalize upd (upd H16 l1 (.lst ((das.take at0.toNat).map V.ref))) l2 (.lst ((das2.take at0.toNat).map V.ref)) = H18 at F18 ht18 hb18 B18 C18
        have q1 : PyData.eqv (.list (((toldT wds fs log).take at0.toNat).map fun l => .list (l.map .int))) (.list (((toldT wds fs log).take at0.toNat).map fun l => .list (l.map .int))) = true := fine_eqv fA
        rw [q1]
        refine iteF ?_
        -- from at on
        refine ⟨.ref ta, rfl, .int at0, rfl, at0, 1, rfl, rfl, _, rfl, ta, _, rfl, .inl (.inl ht18), fun l3 nl3 => ?_⟩
        dsimp only
        rw [e2]
        have s19 := same_upd (o := .lst ((das.drop (at0.toNat + 1)).map V.ref)) nl3
        refine ⟨.ref tb, rfl, .int at0, rfl, at0, 1, rfl, rfl, _, rfl, tb, _, rfl, .inl (.inl (s19 _ _ hb18)), fun l4 nl4 => ?_⟩
        dsimp only
        rw [e2]
        have s20 := same_upd (o := .lst ((das2.drop (at0.toNat + 1)).map V.ref)) nl4
        have s190 := s19.trans s20
        refine ⟨_, _, .lst (.inl (.inl (s20 _ _ upd_same))) (dpTabs (pairedMap (fun _ _ e => s190 _ _ e) B18)), .lst (.inl (.inl upd_same)) (dpTabs (pairedMap (fun _ _ e => s190 _ _ e) C18)), fB.shaped (by decide), fB.shaped (by decide), _, rfl, ?_⟩
        have q2 : PyData.eqv (.list (((toldT wds fs log).drop (at0.toNat + 1)).map fun l => .list (l.map .int))) (.list (((toldT wds fs log).drop (at0.toNat + 1)).map fun l => .list (l.map .int))) = true := fine_eqv fB
        rw [q2]
        refine iteF ?_
        have F20 := F18.same s190
        have tu20 := F20.tups L12.tape L12.tabs
        exact ⟨L12.frt F20, rid12.mono tu20, tu20 _ _ row12, log12.keep tu20 (fun xs h => F20.lst L12.tabs nlt h), han12.keep tu20 (fun xs h => F20.lst L12.tabs nht h), _, _, _, _, rfl⟩
      · obtain ⟨L12, rid12, row12, log12, han12, y9, y10, y11, y12, rfl⟩ := p
        -- odd
        refine ⟨.ref la, rfl, ?_⟩
        refine ⟨.ref tp, rfl, tp, 3, rfl, L12.tape, by decide, by decide, fun H13 d D13 d0 d1 => ⟨1, d, rfl, rfl, 1 + d, rfl, by omega, by omega, ?_⟩⟩
        have L13 := L12.taped D13
        have tu13 := D13.tups L12.tape
        have log13 : IsLog H13 la log := log12.keep tu13 (fun xs h => D13.1 _ _ nlt h)
        refine for_range (lo := 0) (n := (1 + d).toNat) (fun k σ H14 => Taped tp H13 H14 ∧ ∃ lv, EntL tp (72 + k) lv H14 ∧ (1 ≤ k → OddL wds tp (72 + k) lv H14) ∧ ∃ y14, σ = [some (.ref a), some (.int (0 + (i : Int))), some (.ref tp), some (.ref ri), some (.int (0 + (j : Int))), some (.ref fa), some (.ref la), some (.str (listsD (toldT wds fs log)).shown), some (.ref lh), y9, y10, y11, y12, some lv, y14, none]) ⟨Taped.refl L13.tape, .ref la, log_entL gr log13 okl nlt (by omega), fun z => absurd z (by decide), _, rfl⟩ (fun k σ H14 hk p => ?_) (fun σ H14 p => ?_)
        · obtain ⟨D14, lv, en, _, y14, rfl⟩ := p
          obtain ⟨ol, oes, rfl, _⟩ := id en
          refine ⟨.ref tp, rfl, .ref ri, rfl, .ref ol, rfl, tp, ri, .ref ol, many, hues, wds, 72 + k, rfl, D14.2, rid12.mono (tu13.trans (D14.tups L13.tape)), gr, en, by omega, fun H15 v D15 od => ?_⟩
          obtain ⟨l5, es5, w1, w2, w3, w4, w5, w6⟩ := id od
          exact ⟨D14.trans D15, v, ⟨l5, es5, w1, w2, w3, w4, w5⟩, fun _ => od, _, rfl⟩
        · obtain ⟨D14, lv, en, odd, y14, rfl⟩ := p
          obtain ⟨l5, es5, rfl, w2, w3, w4, w5, w6⟩ := odd (by omega)
          obtain ⟨lg, pe, ewg, lb⟩ := oddL_log w5 w6
          have el := pairedLen pe
          have tu14 := tu13.trans (D14.tups L13.tape)
          have L14 := L13.taped D14
          refine ⟨.ref ri, rfl, .ref fa, rfl, .ref l5, rfl, ri, fa, l5, many, hues, wds, fs, lg, rfl, rid12.mono tu14, gr, tu14 _ _ row12, gf, ⟨es5, w3, pe⟩, ewg, by omega, lb, L14.tabs, fun H15 f15 => ⟨true, rfl, iteF ?_⟩⟩
          exact ⟨L14.frs f15, (rid12.mono tu14).mono (f15.seqs L14.tabs).1, _, _, _, _, _, _, _, _, _, _, _, rfl⟩
    · obtain ⟨L6, rid6, z4, z5, z6, z7, z8, z9, z10, z11, z12, z13, z14, rfl⟩ := p
      exact ⟨L6.tabs, L6.scr, _, _, _, _, _, _, _, _, _, _, _, _, _, _, rfl⟩
  · obtain ⟨hT2, hS2, y1, y2, y3, y4, y5, y6, y7, y8, y9, y10, y11, y12, y13, y14, rfl⟩ := p
    exact rfl
end
end Rd

set_option Elab.async false
set_option linter.all false
set_option maxRecDepth 100000
set_option maxHeartbeats 4000000
namespace Rd
open PySem PySem.Spec PyProof.Rows L2 Dt
theorem all_mk {l : PySem.W.OpenLaw} {w : World} {K : PySem.W.Frag} {h : Heap} {mg : Str → Option Value} {fa : Addr} {tb : Str → Addr × Addr} (X : K.In h) (G : h.Ns mainGlobals mg) (hfa : mg "law" = some (.ref fa)) (ht : ∀ y ∈ [("is_log" : Str)], Lg.TabOf mg h y (tb y))
    {f1 f2 f3 f4 f5 f6 f7 f8 f9 f10 f11 f12 f13 f14 f15 f16 f17 f18 : Addr} {od1 an1 od2 an2 od3 an3 od4 an4 od5 an5 od6 an6 od7 an7 od8 an8 od9 an9 od10 an10 od11 an11 od12 an12 od13 an13 od14 an14 od15 an15 od16 an16 od17 an17 od18 an18 : Option Addr} {sl1 sl2 sl3 sl4 sl5 sl6 sl7 sl8 sl9 sl10 sl11 sl12 sl13 sl14 sl15 sl16 sl17 sl18 : Array (Option Value)} {oc1 kV1 dc1 pm1 cd1 ct1 oc2 kV2 dc2 pm2 cd2 ct2 oc3 kV3 dc3 pm3 cd3 ct3 oc4 kV4 dc4 pm4 cd4 ct4 oc5 kV5 dc5 pm5 cd5 ct5 oc6 kV6 dc6 pm6 cd6 ct6 oc7 kV7 dc7 pm7 cd7 ct7 oc8 kV8 dc8 pm8 cd8 ct8 oc9 kV9 dc9 pm9 cd9 ct9 oc10 kV10 dc10 pm10 cd10 ct10 oc11 kV11 dc11 pm11 cd11 ct11 oc12 kV12 dc12 pm12 cd12 ct12 oc13 kV13 dc13 pm13 cd13 ct13 oc14 kV14 dc14 pm14 cd14 ct14 oc15 kV15 dc15 pm15 cd15 ct15 oc16 kV16 dc16 pm16 cd16 ct16 oc17 kV17 dc17 pm17 cd17 ct17 oc18 kV18 dc18 pm18 cd18 ct18 : Value} {q0 q1 q2 q3 q4 q5 q6 q7 q8 q9 q10 q11 : Addr}
    (a1 : PySem.W.nsIn K mainGlobals "is_mending" = some (some (.ref f1))) (l1 : K.lookup f1 = some ⟨oc1, od1, .func (PySem.W.fnOf "is_mending" "is_mending" (defArgs sMnd) (defBody sMnd) (defScope sMnd) .none kV1 dc1 pm1 an1 cd1 ct1), sl1⟩) (c1 : PySem.W.codeIn K cd1 "is_mending" = true) (k1 : PySem.W.keepIn K (.ref f1) = true)
    (a2 : PySem.W.nsIn K mainGlobals "is_log" = some (some (.ref f2))) (l2 : K.lookup f2 = some ⟨oc2, od2, .func (PySem.W.fnOf "is_log" "is_log" (defArgs sIlg) (defBody sIlg) (defScope sIlg) .none kV2 dc2 pm2 an2 cd2 ct2), sl2⟩) (c2 : PySem.W.codeIn K cd2 "is_log" = true) (k2 : PySem.W.keepIn K (.ref f2) = true)
    (a3 : PySem.W.nsIn K mainGlobals "told_back" = some (some (.ref f3))) (l3 : K.lookup f3 = some ⟨oc3, od3, .func (PySem.W.fnOf "told_back" "told_back" (defArgs sTol) (defBody sTol) (defScope sTol) .none kV3 dc3 pm3 an3 cd3 ct3), sl3⟩) (c3 : PySem.W.codeIn K cd3 "told_back" = true) (k3 : PySem.W.keepIn K (.ref f3) = true)
    (a4 : PySem.W.nsIn K mainGlobals "_law_tape" = some (some (.ref f4))) (l4 : K.lookup f4 = some ⟨oc4, od4, .func (PySem.W.fnOf "_law_tape" "_law_tape" (defArgs sTap) (defBody sTap) (defScope sTap) .none kV4 dc4 pm4 an4 cd4 ct4), sl4⟩) (c4 : PySem.W.codeIn K cd4 "_law_tape" = true) (k4 : PySem.W.keepIn K (.ref f4) = true)
    (a5 : PySem.W.nsIn K mainGlobals "_law_digit" = some (some (.ref f5))) (l5 : K.lookup f5 = some ⟨oc5, od5, .func (PySem.W.fnOf "_law_digit" "_law_digit" (defArgs sDig) (defBody sDig) (defScope sDig) .none kV5 dc5 pm5 an5 cd5 ct5), sl5⟩) (c5 : PySem.W.codeIn K cd5 "_law_digit" = true) (k5 : PySem.W.keepIn K (.ref f5) = true)
    (a6 : PySem.W.nsIn K mainGlobals "_law_wish" = some (some (.ref f6))) (l6 : K.lookup f6 = some ⟨oc6, od6, .func (PySem.W.fnOf "_law_wish" "_law_wish" (defArgs sWis) (defBody sWis) (defScope sWis) .none kV6 dc6 pm6 an6 cd6 ct6), sl6⟩) (c6 : PySem.W.codeIn K cd6 "_law_wish" = true) (k6 : PySem.W.keepIn K (.ref f6) = true)
    (a7 : PySem.W.nsIn K mainGlobals "_law_sizes" = some (some (.ref f7))) (l7 : K.lookup f7 = some ⟨oc7, od7, .func (PySem.W.fnOf "_law_sizes" "_law_sizes" (defArgs sSzs) (defBody sSzs) (defScope sSzs) .none kV7 dc7 pm7 an7 cd7 ct7), sl7⟩) (c7 : PySem.W.codeIn K cd7 "_law_sizes" = true) (k7 : PySem.W.keepIn K (.ref f7) = true)
    (a8 : PySem.W.nsIn K mainGlobals "_law_riddle" = some (some (.ref f8))) (l8 : K.lookup f8 = some ⟨oc8, od8, .func (PySem.W.fnOf "_law_riddle" "_law_riddle" (defArgs sRid) (defBody sRid) (defScope sRid) .none kV8 dc8 pm8 an8 cd8 ct8), sl8⟩) (c8 : PySem.W.codeIn K cd8 "_law_riddle" = true) (k8 : PySem.W.keepIn K (.ref f8) = true)
    (a9 : PySem.W.nsIn K mainGlobals "_law_table" = some (some (.ref f9))) (l9 : K.lookup f9 = some ⟨oc9, od9, .func (PySem.W.fnOf "_law_table" "_law_table" (defArgs sTab) (defBody sTab) (defScope sTab) .none kV9 dc9 pm9 an9 cd9 ct9), sl9⟩) (c9 : PySem.W.codeIn K cd9 "_law_table" = true) (k9 : PySem.W.keepIn K (.ref f9) = true)
    (a10 : PySem.W.nsIn K mainGlobals "_law_order" = some (some (.ref f10))) (l10 : K.lookup f10 = some ⟨oc10, od10, .func (PySem.W.fnOf "_law_order" "_law_order" (defArgs sOrd) (defBody sOrd) (defScope sOrd) .none kV10 dc10 pm10 an10 cd10 ct10), sl10⟩) (c10 : PySem.W.codeIn K cd10 "_law_order" = true) (k10 : PySem.W.keepIn K (.ref f10) = true)
    (a11 : PySem.W.nsIn K mainGlobals "_law_broken" = some (some (.ref f11))) (l11 : K.lookup f11 = some ⟨oc11, od11, .func (PySem.W.fnOf "_law_broken" "_law_broken" (defArgs sLbr) (defBody sLbr) (defScope sLbr) .none kV11 dc11 pm11 an11 cd11 ct11), sl11⟩) (c11 : PySem.W.codeIn K cd11 "_law_broken" = true) (k11 : PySem.W.keepIn K (.ref f11) = true)
    (a12 : PySem.W.nsIn K mainGlobals "_law_run" = some (some (.ref f12))) (l12 : K.lookup f12 = some ⟨oc12, od12, .func (PySem.W.fnOf "_law_run" "_law_run" (defArgs sLrn) (defBody sLrn) (defScope sLrn) .none kV12 dc12 pm12 an12 cd12 ct12), sl12⟩) (c12 : PySem.W.codeIn K cd12 "_law_run" = true) (k12 : PySem.W.keepIn K (.ref f12) = true)
    (a13 : PySem.W.nsIn K mainGlobals "_law_told" = some (some (.ref f13))) (l13 : K.lookup f13 = some ⟨oc13, od13, .func (PySem.W.fnOf "_law_told" "_law_told" (defArgs sLtl) (defBody sLtl) (defScope sLtl) .none kV13 dc13 pm13 an13 cd13 ct13), sl13⟩) (c13 : PySem.W.codeIn K cd13 "_law_told" = true) (k13 : PySem.W.keepIn K (.ref f13) = true)
    (a14 : PySem.W.nsIn K mainGlobals "_law_log" = some (some (.ref f14))) (l14 : K.lookup f14 = some ⟨oc14, od14, .func (PySem.W.fnOf "_law_log" "_law_log" (defArgs sLlg) (defBody sLlg) (defScope sLlg) .none kV14 dc14 pm14 an14 cd14 ct14), sl14⟩) (c14 : PySem.W.codeIn K cd14 "_law_log" = true) (k14 : PySem.W.keepIn K (.ref f14) = true)
    (a15 : PySem.W.nsIn K mainGlobals "_law_odd" = some (some (.ref f15))) (l15 : K.lookup f15 = some ⟨oc15, od15, .func (PySem.W.fnOf "_law_odd" "_law_odd" (defArgs sOdd) (defBody sOdd) (defScope sOdd) .none kV15 dc15 pm15 an15 cd15 ct15), sl15⟩) (c15 : PySem.W.codeIn K cd15 "_law_odd" = true) (k15 : PySem.W.keepIn K (.ref f15) = true)
    (a16 : PySem.W.nsIn K mainGlobals "_law_kinds" = some (some (.ref f16))) (l16 : K.lookup f16 = some ⟨oc16, od16, .func (PySem.W.fnOf "_law_kinds" "_law_kinds" (defArgs sKnd) (defBody sKnd) (defScope sKnd) .none kV16 dc16 pm16 an16 cd16 ct16), sl16⟩) (c16 : PySem.W.codeIn K cd16 "_law_kinds" = true) (k16 : PySem.W.keepIn K (.ref f16) = true)
    (a17 : PySem.W.nsIn K mainGlobals "_law_refused" = some (some (.ref f17))) (l17 : K.lookup f17 = some ⟨oc17, od17, .func (PySem.W.fnOf "_law_refused" "_law_refused" (defArgs sRfs) (defBody sRfs) (defScope sRfs) .none kV17 dc17 pm17 an17 cd17 ct17), sl17⟩) (c17 : PySem.W.codeIn K cd17 "_law_refused" = true) (k17 : PySem.W.keepIn K (.ref f17) = true)
    (a18 : PySem.W.nsIn K mainGlobals "law" = some (some (.ref f18))) (l18 : K.lookup f18 = some ⟨oc18, od18, .func (PySem.W.fnOf "law" "law" (defArgs sLaw) (defBody sLaw) (defScope sLaw) .none kV18 dc18 pm18 an18 cd18 ct18), sl18⟩) (c18 : PySem.W.codeIn K cd18 "law" = true) (k18 : PySem.W.keepIn K (.ref f18) = true)
    (z_ValueError : PySem.W.nsIn K mainGlobals "ValueError" = some none)
    (z_abs : PySem.W.nsIn K mainGlobals "abs" = some none)
    (z_all : PySem.W.nsIn K mainGlobals "all" = some none)
    (z_bool : PySem.W.nsIn K mainGlobals "bool" = some none)
    (z_enumerate : PySem.W.nsIn K mainGlobals "enumerate" = some none)
    (z_int : PySem.W.nsIn K mainGlobals "int" = some none)
    (z_isinstance : PySem.W.nsIn K mainGlobals "isinstance" = some none)
    (z_len : PySem.W.nsIn K mainGlobals "len" = some none)
    (z_list : PySem.W.nsIn K mainGlobals "list" = some none)
    (z_max : PySem.W.nsIn K mainGlobals "max" = some none)
    (z_min : PySem.W.nsIn K mainGlobals "min" = some none)
    (z_range : PySem.W.nsIn K mainGlobals "range" = some none)
    (z_repr : PySem.W.nsIn K mainGlobals "repr" = some none)
    (z_sorted : PySem.W.nsIn K mainGlobals "sorted" = some none)
    (z_tuple : PySem.W.nsIn K mainGlobals "tuple" = some none)
    (z_zip : PySem.W.nsIn K mainGlobals "zip" = some none)
    (cl0 : PySem.W.nsIn K mainGlobals "NoEnd" = some (some (.ref q0)))
    (cl1 : PySem.W.nsIn K mainGlobals "NoLog" = some (some (.ref q1)))
    (cl2 : PySem.W.nsIn K mainGlobals "NoName" = some (some (.ref q2)))
    (cl3 : PySem.W.nsIn K mainGlobals "NoRow" = some (some (.ref q3)))
    (cl4 : PySem.W.nsIn K mainGlobals "NoStep" = some (some (.ref q4)))
    (cl5 : PySem.W.nsIn K mainGlobals "NoTable" = some (some (.ref q5)))
    (cl6 : PySem.W.nsIn K mainGlobals "NoText" = some (some (.ref q6)))
    (cl7 : PySem.W.nsIn K mainGlobals "NoWish" = some (some (.ref q7)))
    (cl8 : PySem.W.nsIn K mainGlobals "Spent" = some (some (.ref q8)))
    (cl9 : PySem.W.nsIn K mainGlobals "Told" = some (some (.ref q9)))
    (cl10 : PySem.W.nsIn K mainGlobals "TooMany" = some (some (.ref q10)))
    (cl11 : PySem.W.nsIn K mainGlobals "DrawError" = some (some (.ref q11)))
    (hA : allOkX K [q0, q1, q2, q3, q4, q5, q6, q7, q8, q9, q10, q11] = true) :
    ∃ fd : FuncData, Fun K "law" "law" sLaw fa fd ∧ (∀ (s : Shared) (v : Value), BindsTo s fd ⟨[v], []⟩ [("script", v)]) ∧ ∀ (base : Heap) (H : Hp) (cdv : Value) (a : Addr) (ns : List Int) (s : Shared), K.In base → base.Ns mainGlobals mg → (∀ y ∈ [("is_log" : Str)], GxR.TabB base mg (tb y).1 (tb y).2) → (∀ y ∈ [("is_log" : Str)], H (tb y).2 = some (.tbl #[])) → ns.length ≤ 63 → (∀ z ∈ ns, Builtin.Int.intBits z ≤ 1048576) → SqL K H a (ns.map V.int) → Room 6 (callerA.deeper (envOfC "law" (defScope sLaw) s.heap.objs.size fa cdv)) →
        ∃ t, PSs (cxOf CX0 l.prog w K mg base nLaw "law" (defScope sLaw) fa cdv callerA [] s H (fun _ _ _ => False)).nox (defBody sLaw) t ∧ t { nx := fun _ _ => False, rt := fun v _ => v = .bl true } (start nLaw [.ref a]) H := by
  have e := hfa.symm.trans (PySem.W.mg_of X G a18)
  cases e
  have F1 := fun_mk (st := sMnd) l1 c1 k1
  have F2 := fun_mk (st := sIlg) l2 c2 k2
  have F3 := fun_mk (st := sTol) l3 c3 k3
  have F4 := fun_mk (st := sTap) l4 c4 k4
  have F5 := fun_mk (st := sDig) l5 c5 k5
  have F6 := fun_mk (st := sWis) l6 c6 k6
  have F7 := fun_mk (st := sSzs) l7 c7 k7
  have F8 := fun_mk (st := sRid) l8 c8 k8
  have F9 := fun_mk (st := sTab) l9 c9 k9
  have F10 := fun_mk (st := sOrd) l10 c10 k10
  have F11 := fun_mk (st := sLbr) l11 c11 k11
  have F12 := fun_mk (st := sLrn) l12 c12 k12
  have F13 := fun_mk (st := sLtl) l13 c13 k13
  have F14 := fun_mk (st := sLlg) l14 c14 k14
  have F15 := fun_mk (st := sOdd) l15 c15 k15
  have F16 := fun_mk (st := sKnd) l16 c16 k16
  have F17 := fun_mk (st := sRfs) l17 c17 k17
  have F18 := fun_mk (st := sLaw) l18 c18 k18
  have b1 := F1.binds (ps := ["wishes", "pair"]) fun _ _ _ _ _ _ us hl => match us, hl with | [_, _], _ => rfl
  have b2 := F2.binds (ps := ["riddle", "log"]) fun _ _ _ _ _ _ us hl => match us, hl with | [_, _], _ => rfl
  have b3 := F3.binds (ps := ["riddle", "filling", "log"]) fun _ _ _ _ _ _ us hl => match us, hl with | [_, _, _], _ => rfl
  have b4 := F4.binds (ps := ["script", "start"]) fun _ _ _ _ _ _ us hl => match us, hl with | [_, _], _ => rfl
  have b5 := F5.binds (ps := ["tape", "many"]) fun _ _ _ _ _ _ us hl => match us, hl with | [_, _], _ => rfl
  have b6 := F6.binds (ps := ["tape", "many", "hues", "most"]) fun _ _ _ _ _ _ us hl => match us, hl with | [_, _, _, _], _ => rfl
  have b7 := F7.binds (ps := ["tape", "small"]) fun _ _ _ _ _ _ us hl => match us, hl with | [_, _], _ => rfl
  have b8 := F8.binds (ps := ["tape", "small"]) fun _ _ _ _ _ _ us hl => match us, hl with | [_, _], _ => rfl
  have b9 := F9.binds (ps := ["tape", "riddle", "most"]) fun _ _ _ _ _ _ us hl => match us, hl with | [_, _, _], _ => rfl
  have b10 := F10.binds (ps := ["tape", "many"]) fun _ _ _ _ _ _ us hl => match us, hl with | [_, _], _ => rfl
  have b11 := F11.binds (ps := ["riddle", "filling"]) fun _ _ _ _ _ _ us hl => match us, hl with | [_, _], _ => rfl
  have b12 := F12.binds (ps := ["riddle", "table", "order"]) fun _ _ _ _ _ _ us hl => match us, hl with | [_, _, _], _ => rfl
  have b13 := F13.binds (ps := ["riddle", "filling", "log"]) fun _ _ _ _ _ _ us hl => match us, hl with | [_, _, _], _ => rfl
  have b14 := F14.binds (ps := ["tape", "riddle"]) fun _ _ _ _ _ _ us hl => match us, hl with | [_, _], _ => rfl
  have b15 := F15.binds (ps := ["tape", "riddle", "log"]) fun _ _ _ _ _ _ us hl => match us, hl with | [_, _, _], _ => rfl
  have b16 := F16.binds (ps := ["caught"]) fun _ _ _ _ _ _ us hl => match us, hl with | [_], _ => rfl
  have b17 := F17.binds (ps := ["riddle", "filling", "log"]) fun _ _ _ _ _ _ us hl => match us, hl with | [_, _, _], _ => rfl
  have m_ValueError := PySem.W.mg_none_of X G z_ValueError
  have m_abs := PySem.W.mg_none_of X G z_abs
  have m_all := PySem.W.mg_none_of X G z_all
  have m_bool := PySem.W.mg_none_of X G z_bool
  have m_enumerate := PySem.W.mg_none_of X G z_enumerate
  have m_int := PySem.W.mg_none_of X G z_int
  have m_isinstance := PySem.W.mg_none_of X G z_isinstance
  have m_len := PySem.W.mg_none_of X G z_len
  have m_list := PySem.W.mg_none_of X G z_list
  have m_max := PySem.W.mg_none_of X G z_max
  have m_min := PySem.W.mg_none_of X G z_min
  have m_range := PySem.W.mg_none_of X G z_range
  have m_repr := PySem.W.mg_none_of X G z_repr
  have m_sorted := PySem.W.mg_none_of X G z_sorted
  have m_tuple := PySem.W.mg_none_of X G z_tuple
  have m_zip := PySem.W.mg_none_of X G z_zip
  have g1 := PySem.W.mg_of X G a1
  have g2 := PySem.W.mg_of X G a2
  have g3 := PySem.W.mg_of X G a3
  have g4 := PySem.W.mg_of X G a4
  have g5 := PySem.W.mg_of X G a5
  have g6 := PySem.W.mg_of X G a6
  have g7 := PySem.W.mg_of X G a7
  have g8 := PySem.W.mg_of X G a8
  have g9 := PySem.W.mg_of X G a9
  have g10 := PySem.W.mg_of X G a10
  have g11 := PySem.W.mg_of X G a11
  have g12 := PySem.W.mg_of X G a12
  have g13 := PySem.W.mg_of X G a13
  have g14 := PySem.W.mg_of X G a14
  have g15 := PySem.W.mg_of X G a15
  have g16 := PySem.W.mg_of X G a16
  have g17 := PySem.W.mg_of X G a17
  have g18 := PySem.W.mg_of X G a18
  have tc2 := (ht "is_log" (by decide)).code X g2 l2
  cases tc2
  refine ⟨_, F18, fun s v => .of_eq rfl, fun base H cdv a ns s kb gb tB tH hl hb hS hrm => ?_⟩
  have TB2 := tB "is_log" (by decide)
  have TH2 := tH "is_log" (by decide)
  have CL := clsX_of X G cl0 cl1 cl2 cl3 cl4 cl5 cl6 cl7 cl8 cl9 cl10 cl11 m_isinstance m_ValueError hA
  have C1 : Cal l.prog w K mg base 1 "is_mending" ["wishes", "pair"] spMnd := ⟨_, _, ok_mnd (k := 0) F1 { m_isinstance := m_isinstance, m_int := m_int, m_bool := m_bool, m_tuple := m_tuple, m_len := m_len, m_all := m_all }, g1, k1, b1⟩
  have C2 : Cal l.prog w K mg base 3 "is_log" ["riddle", "log"] (spIlg [(tb "is_log").2]) := ⟨_, _, ok_ilg (k := 0) ⟨⟨_, _, _, _, _, _, _, _, rfl, l2, c2⟩⟩ TB2 (by simp) { m_all := m_all, c_is_mending := C1 }, g2, k2, b2⟩
  have C3 : CalX l.prog w K mg base 4 "told_back" ["riddle", "filling", "log"] (spTolX [(tb "is_log").2] (fun i => [q0, q1, q2, q3, q4, q5, q6, q7, q8, q9, q10, q11].getD i 0)) := ⟨_, _, ok_tolX (k := 0) F3 CL { m_zip := m_zip, m_enumerate := m_enumerate, c_is_log := C2 }, g3, k3, b3⟩
  have C13 : Cal l.prog w K mg base 1 "_law_told" ["riddle", "filling", "log"] spLtl := ⟨_, _, ok_ltl (k := 0) F13 { m_range := m_range }, g13, k13, b13⟩
  have C16 : Cal l.prog w K mg base 1 "_law_kinds" ["caught"] (spKnd (fun i => [q0, q1, q2, q3, q4, q5, q6, q7, q8, q9, q10, q11].getD i 0)) := ⟨_, _, ok_knd (k := 0) F16 CL, g16, k16, b16⟩
  have C17 : Cal l.prog w K mg base 5 "_law_refused" ["riddle", "filling", "log"] (spRfs [(tb "is_log").2]) := ⟨_, _, ok_rfs (k := 0) F17 { toClsX := CL, m_list := m_list, m_range := m_range, c__law_kinds := C16, c_told_back := C3 }, g17, k17, b17⟩
  have C4 : Cal l.prog w K mg base 1 "_law_tape" ["script", "start"] (spTap K) := ⟨_, _, ok_tap (k := 0) F4 { m_len := m_len, m_abs := m_abs }, g4, k4, b4⟩
  have C5 : Cal l.prog w K mg base 1 "_law_digit" ["tape", "many"] spDig := ⟨_, _, ok_dig (k := 0) F5, g5, k5, b5⟩
  have C6 : Cal l.prog w K mg base 2 "_law_wish" ["tape", "many", "hues", "most"] spWis := ⟨_, _, ok_wis (k := 0) F6 { m_range := m_range, m_list := m_list, m_min := m_min, m_len := m_len, m_sorted := m_sorted, m_tuple := m_tuple, c__law_digit := C5 }, g6, k6, b6⟩
  have C7 : Cal l.prog w K mg base 2 "_law_sizes" ["tape", "small"] spSzs := ⟨_, _, ok_szs (k := 0) F7 { m_range := m_range, m_list := m_list, m_min := m_min, m_len := m_len, m_sorted := m_sorted, m_tuple := m_tuple, c__law_digit := C5 }, g7, k7, b7⟩
  have C8 : Cal l.prog w K mg base 3 "_law_riddle" ["tape", "small"] spRid := ⟨_, _, ok_rid (k := 0) F8 { m_range := m_range, m_list := m_list, m_min := m_min, m_len := m_len, m_sorted := m_sorted, m_tuple := m_tuple, c__law_digit := C5, c__law_wish := C6, c__law_sizes := C7 }, g8, k8, b8⟩
  have C9 : Cal l.prog w K mg base 2 "_law_table" ["tape", "riddle", "most"] spTab := ⟨_, _, ok_tab (k := 0) F9 { m_range := m_range, m_list := m_list, m_min := m_min, m_len := m_len, m_sorted := m_sorted, m_tuple := m_tuple, c__law_digit := C5 }, g9, k9, b9⟩
  have C10 : Cal l.prog w K mg base 2 "_law_order" ["tape", "many"] spOrd := ⟨_, _, ok_ord (k := 0) F10 { m_range := m_range, m_list := m_list, m_min := m_min, m_len := m_len, m_sorted := m_sorted, m_tuple := m_tuple, c__law_digit := C5 }, g10, k10, b10⟩
  have C11 : Cal l.prog w K mg base 1 "_law_broken" ["riddle", "filling"] spLbr := ⟨_, _, ok_lbr (k := 0) F11 { m_enumerate := m_enumerate, m_tuple := m_tuple }, g11, k11, b11⟩
  have C12 : Cal l.prog w K mg base 2 "_law_run" ["riddle", "table", "order"] spLrn := ⟨_, _, ok_lrn (k := 0) F12 { m_tuple := m_tuple, c__law_broken := C11 }, g12, k12, b12⟩
  have C14 : Cal l.prog w K mg base 3 "_law_log" ["tape", "riddle"] spLlg := ⟨_, _, ok_llg (k := 0) F14 { m_range := m_range, m_len := m_len, c__law_digit := C5, c__law_table := C9, c__law_order := C10, c__law_run := C12 }, g14, k14, b14⟩
  have C15 : Cal l.prog w K mg base 2 "_law_odd" ["tape", "riddle", "log"] spOdX := ⟨_, _, ok_odx (k := 0) F15 { m_len := m_len, m_tuple := m_tuple, c__law_digit := C5 }, g15, k15, b15⟩
  have hTs : Tabs [(tb "is_log").2] H := fun P hP => by
    simp only [List.mem_cons, List.not_mem_nil, or_false] at hP
    subst hP
    exact ⟨#[], TH2, trivial⟩
  exact body_law (Ps := [(tb "is_log").2]) (Cc := (fun i => [q0, q1, q2, q3, q4, q5, q6, q7, q8, q9, q10, q11].getD i 0)) { m_range := m_range, m_repr := m_repr, m_max := m_max, m_min := m_min, m_len := m_len, m_list := m_list, m_tuple := m_tuple, c__law_tape := C4, c__law_digit := C5, c__law_riddle := C8, c__law_log := C14, c__law_told := C13, c__law_odd := C15, c__law_refused := C17, c_told_back := C3 } hl hTs hS hrm
end Rd

set_option Elab.async false
set_option linter.all false
set_option maxRecDepth 100000
set_option maxHeartbeats 4000000
open PySem PySem.W PyProof.Rows
set_option maxHeartbeats 0 in
theorem PySem.Challenge.cw_redraw_k15_draws_told_back_holds : PySem.Challenge.rw_redraw_k15_draws_told_back.Holds := by
  w_on; o_law; k_head; (case hw => w_witness2)
  k_fill
  refine Lg.walk_of (l := PySem.Challenge.rw_redraw_k15_draws_told_back) (n := 63) (k := 6) (x := "law") (qual := "law") (par := "script") (st := Rd.sLaw) (N := Rd.nLaw) ["is_log"] rfl (by decide) rfl ⟨rfl, by decide, by decide⟩ (by rfl) ?hK (fun w h Y => PySem.W.kIn_of Y) Rd.scLaw ?F
  case hK => intro w; kernel_rfl
  case F =>
    intro w mg fa h tb KX G hmg ht
    refine' Rd.all_mk KX G hmg ht ?a1 ?l1 ?c1 ?k1 ?a2 ?l2 ?c2 ?k2 ?a3 ?l3 ?c3 ?k3 ?a4 ?l4 ?c4 ?k4 ?a5 ?l5 ?c5 ?k5 ?a6 ?l6 ?c6 ?k6 ?a7 ?l7 ?c7 ?k7 ?a8 ?l8 ?c8 ?k8 ?a9 ?l9 ?c9 ?k9 ?a10 ?l10 ?c10 ?k10 ?a11 ?l11 ?c11 ?k11 ?a12 ?l12 ?c12 ?k12 ?a13 ?l13 ?c13 ?k13 ?a14 ?l14 ?c14 ?k14 ?a15 ?l15 ?c15 ?k15 ?a16 ?l16 ?c16 ?k16 ?a17 ?l17 ?c17 ?k17 ?a18 ?l18 ?c18 ?k18 ?z_ValueError ?z_abs ?z_all ?z_bool ?z_enumerate ?z_int ?z_isinstance ?z_len ?z_list ?z_max ?z_min ?z_range ?z_repr ?z_sorted ?z_tuple ?z_zip ?cl0 ?cl1 ?cl2 ?cl3 ?cl4 ?cl5 ?cl6 ?cl7 ?cl8 ?cl9 ?cl10 ?cl11 ?hA
    (case a1 => k_is); (case l1 => k_is); (case c1 => k_is); (case k1 => k_is); (case a2 => k_is); (case l2 => k_is); (case c2 => k_is); (case k2 => k_is); (case a3 => k_is); (case l3 => k_is); (case c3 => k_is); (case k3 => k_is); (case a4 => k_is); (case l4 => k_is); (case c4 => k_is); (case k4 => k_is); (case a5 => k_is); (case l5 => k_is); (case c5 => k_is); (case k5 => k_is); (case a6 => k_is); (case l6 => k_is); (case c6 => k_is); (case k6 => k_is); (case a7 => k_is); (case l7 => k_is); (case c7 => k_is); (case k7 => k_is); (case a8 => k_is); (case l8 => k_is); (case c8 => k_is); (case k8 => k_is); (case a9 => k_is); (case l9 => k_is); (case c9 => k_is); (case k9 => k_is); (case a10 => k_is); (case l10 => k_is); (case c10 => k_is); (case k10 => k_is); (case a11 => k_is); (case l11 => k_is); (case c11 => k_is); (case k11 => k_is); (case a12 => k_is); (case l12 => k_is); (case c12 => k_is); (case k12 => k_is); (case a13 => k_is); (case l13 => k_is); (case c13 => k_is); (case k13 => k_is); (case a14 => k_is); (case l14 => k_is); (case c14 => k_is); (case k14 => k_is); (case a15 => k_is); (case l15 => k_is); (case c15 => k_is); (case k15 => k_is); (case a16 => k_is); (case l16 => k_is); (case c16 => k_is); (case k16 => k_is); (case a17 => k_is); (case l17 => k_is); (case c17 => k_is); (case k17 => k_is); (case a18 => k_is); (case l18 => k_is); (case c18 => k_is); (case k18 => k_is); (case z_ValueError => k_is); (case z_abs => k_is); (case z_all => k_is); (case z_bool => k_is); (case z_enumerate => k_is); (case z_int => k_is); (case z_isinstance => k_is); (case z_len => k_is); (case z_list => k_is); (case z_max => k_is); (case z_min => k_is); (case z_range => k_is); (case z_repr => k_is); (case z_sorted => k_is); (case z_tuple => k_is); (case z_zip => k_is); (case cl0 => k_is); (case cl1 => k_is); (case cl2 => k_is); (case cl3 => k_is); (case cl4 => k_is); (case cl5 => k_is); (case cl6 => k_is); (case cl7 => k_is); (case cl8 => k_is); (case cl9 => k_is); (case cl10 => k_is); (case cl11 => k_is); (case hA => kernel_rfl)
