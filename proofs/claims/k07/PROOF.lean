import PyProof.Rows.All
import Wide.All
import OpenK.AllK
import Wide.FinOn
import HandS.ForMost
import HandS.AnyAll
import PyProof.TupleOfGen
import PyProof.WalksMore
import HandS.Zip
import KE.GoesEnum
import HandS.Deep
import PyProof.Rows.RegFStrParts
import HandS.SortInts
import HandS.TupSets
import HandS.EndBits
import KE.KNest
import KE.DatumIndex
import HandS.GenList
import HandS.Wide
import HandS.Codes
import PySem.Challenge.RW_redraw_k07_greatest_riddles
import HandS.Conv
import HandS.TupAny
import HandS.IsInst
import HandS.Style
set_option Elab.async false
set_option linter.all false
set_option maxRecDepth 100000
set_option maxHeartbeats 4000000
/-! generator expressions over a list or a tuple whose element keeps the heap: tuple(..), all(..), any(..) -/
namespace Gv
open PySem PySem.Spec PyProof.Rows L2
/-- a list or a tuple of these -/
def Sq (K : PySem.W.Frag) (H : Hp) (a : Addr) (xs : List V) : Prop := SqL K H a xs ∨ SqT K H a xs
section
variable {X : Cx} {pins : List (Addr × Obj)} {σ : L2.St} {H : Hp} {s : Shared}
/-- iter(a): its items, and a walk over them that writes its own new cell alone -/
theorem iter_sq {a : Addr} {xs : List V} (I : Inv X pins σ H s) (h : Sq X.K H a xs) :
    ∃ its : List Value, Vals xs its ∧ xs.length ≤ sizeLine ∧ a < s.heap.objs.size ∧ ∀ (Q : Value → Shared → Prop) (E : Value → Shared → Prop),
      (∀ (o : Obj) (St : Nat → Heap → Prop), (∀ A' : Around, A'.handled = none → Walks X.prog X.w A' s.heap.objs.size [s.heap.objs.size, a] [s.heap.objs.size] its.length (fun i v => its[i]? = some v) St) → St 0 (s.heap.push o) →
        Q (.ref s.heap.objs.size) { s with heap := s.heap.push o }) → wpAny (model X.prog X.w) X.A (pyIter (.ref a)) Q E s := by
  rcases h with h | h
  · obtain ⟨its, rv, pl, hz⟩ := I.list h
    have hL := pl.isList
    have hlt : a < s.heap.objs.size := let ⟨_, e, _⟩ := hL; Heap.lt_size e
    refine ⟨its, rv, hz, hlt, fun Q E k => wpAny_pyIter_list hL (k _ (fun i h => h.IsListIter s.heap.objs.size a i ∧ h.IsList a its.toArray) (fun A' hA => ?_) ⟨⟨_, Heap.get?_push_size _ rfl, rfl, rfl⟩, ?_⟩)⟩
    · have W := Walks.list (prog := X.prog) (w := X.w) hA s.heap.objs.size a (Nat.ne_of_lt hlt) its.toArray
      simpa using W
    · obtain ⟨o, e, r⟩ := hL
      exact ⟨o, Heap.get?_push_of_some _ e, r⟩
  · obtain ⟨its, rv, pl, hz⟩ := I.tuple h
    have hlt : a < s.heap.objs.size := pl.lt
    refine ⟨its, rv, hz, hlt, fun Q E k => wpAny_pyIter_tuple (show s.heap.IsTuple a its.toArray from pl) (k _ (fun i h => h.IsTupleIter s.heap.objs.size a i ∧ h.IsTuple a its.toArray) (fun A' hA => ?_) ⟨⟨_, Heap.get?_push_size _ rfl, rfl, rfl⟩, ?_⟩)⟩
    · have W := Walks.tuple (prog := X.prog) (w := X.w) hA s.heap.objs.size a (Nat.ne_of_lt hlt) its.toArray
      simpa using W
    · exact pl.push _
/-- the element, of the item x0 the value y0, with all that stood kept -/
def EltV (X : Cx) (pins : List (Addr × Obj)) (σ : L2.St) (scope : Scope) (x : Str) (elt : Expr) (P : Addr) (H1 : Hp) (xs ys : List V) : Prop :=
  ∀ (s1 t : Shared) (C : Addr) (code : Value) (bi : Addr) (A' : Around) (E' : Value → Shared → Prop) (i : Nat) (x0 : V) (u : Value) (m : Str → Option Value),
    Inv X pins σ H1 s1 → A'.handled = none → A'.units ≤ X.A.units + 8 → xs[i]? = some x0 → RelV x0 u → t.heap.Ns C m → m x = some u → (∀ b o, b ≠ P → s1.heap.get? b = some o → t.heap.get? b = some o) →
    wpAny (model X.prog X.w) A' (eval elt (genEnv scope (cloFrom X.env.cells scope.names []) C code bi X.env)) (fun y t' => (∃ y0, ys[i]? = some y0 ∧ RelV y0 y) ∧ Keeps t t') E' t
/-- the generator at g, about to give out the values ys -/
def Ready (X : Cx) (pins : List (Addr × Obj)) (σ : L2.St) (H1 : Hp) (P : Addr) (ys : List V) (g : Addr) (s5 : Shared) : Prop :=
  ∃ (fp wr : List Addr) (G : Array GenState → Array GenState → Prop) (F : Nat → Value → Prop) (St : Nat → Shared → Prop),
    WalksS X.prog X.w X.A.in4 g fp wr G ys.length F St ∧ St 0 s5 ∧ (∀ b ∈ fp, b < s5.heap.objs.size) ∧ g ∈ fp ∧ (∀ i s9, St i s9 → s9.TypeIs (.ref g) "generator") ∧
    (∀ j v, F j v → ∃ y, ys[j]? = some y ∧ RelV y v) ∧ ∀ s', Moved wr G s5 s' → ∃ H2, GxR.Tabbed P H1 H2 ∧ Inv X pins σ H2 s'
theorem gen_sq {c P : Addr} {elt iter : Expr} {x : Str} {px gpos : Pos} {scope : Scope} {te : TE} {k : Nat} {Q' : Value → Shared → Prop} {R : List V → Hp → Prop}
    (hr : Room k X.A) (TB : GxR.TabB X.base X.mg c P) (hcode : X.env.code = .ref c) (S : GxR.GenS X.env scope x) (hi : PE X iter te) (hs : ∀ v, genFold iter X.env v = pure v) (I : Inv X pins σ H s)
    (h : te σ H fun v H1 => ∃ (a : Addr) (xs ys : List V), v = .ref a ∧ Sq X.K H1 a xs ∧ ys.length = xs.length ∧ (∀ pins, EltV X pins σ scope x elt P H1 xs ys) ∧ GxR.TabG H1 P ∧ R ys H1)
    (hQ : ∀ ys H1 g s5, ys.length ≤ sizeLine → R ys H1 → Ready X pins σ H1 P ys g s5 → Q' (.ref g) s5) :
    wpAny (model X.prog X.w) X.A (eval (.GeneratorExp elt [⟨.Name x px, iter, [], 0⟩] scope gpos) X.env) Q' X.xe s := by
  refine wpAny_GeneratorExp_walksQD hr.hd S.co (closure_ok S.free) S.cell S.dot S.loc S.kind (by have := hr.dp; omega) (thn (hi.run pins s σ H _ I h) fun xv s1 ⟨v, H1, I1, r1, q1⟩ => ?_) hs
  obtain ⟨a, xs, ys, rfl, hsq, hyl, hel, ⟨ps, hP, ht⟩, q1⟩ := q1
  cases (show xv = Value.ref a from r1)
  obtain ⟨its, rv, hz, hlt, go⟩ := iter_sq I1 hsq
  refine go _ _ fun o St W st0 => ⟨I1.nolimit.push o, ?_⟩
  have tabS : s1.heap.get? P = some { cls := .none, data := .fields ps } := I1.hok P _ hP
  have ltP : P < s1.heap.objs.size := Heap.lt_size tabS
  have tab2 : (s1.heap.push o).get? P = some { cls := .none, data := .fields ps } := Heap.get?_push_of_some _ tabS
  have hd : PySem.W.CodeHd (s1.heap.push o) c P := TB.code.keeps fun b u e => Heap.get?_push_of_some _ (I1.bk b u e)
  have neI : s1.heap.objs.size ≠ P := fun z => Nat.lt_irrefl _ (z ▸ ltP)
  -- the code object of the expression, its table perhaps longer behind it
  have key : ∀ (REST : Value → Shared → Prop), (∀ (cv : Value) (h3 : Heap) (tk : Nat) (more : Array Value), Heap.ExtBut P (s1.heap.push o) h3 → (s1.heap.push o).objs.size ≤ h3.objs.size → h3.get? P = some { cls := .none, data := .fields (ps ++ more) } → TriplesOk (ps ++ more).toList → REST cv { s1 with heap := h3, toks := tk }) →
      wpAny (model X.prog X.w) X.A (genexprCode X.env gpos (X.env.qual ++ "<genexpr>") scope) REST X.xe { s1 with heap := s1.heap.push o } := fun REST fin => by
    cases hf : codeAmong gpos ps.toList with
    | some cv =>
      have e : ps = ps ++ #[] := by simp
      exact wpAny_genexprCode_hit hcode (hd.code tab2 ht) hf (fin cv _ s1.toks #[] (Heap.ExtBut.refl _ _) (Nat.le_refl _) (e ▸ tab2) (e ▸ ht))
    | none =>
      refine wpAny_genexprCodeX hcode (hd.code tab2 ht) (hd.tab tab2) hf fun c' h3 tk ex ge lt ic _ ta _ => ?_
      obtain ⟨_, _, _, _, _, _, _, _, _, _, _, _, _, _, _, _, _, _, _, tr, _⟩ := ic
      exact fin _ h3 tk _ ex (Nat.le_trans ge (Nat.le_of_lt lt)) ta.2 tr
  refine key _ fun cv h3 tk more ex ge tab3 tr3 => ?_
  obtain ⟨bm, ob, b1, b2, b3, b4, b5, b6, b7, b8⟩ := TB.bm
  have up : ∀ b u, b ≠ P → s1.heap.get? b = some u → h3.get? b = some u := fun b u n e => ex b u n (Heap.get?_push_of_some _ e)
  have sz : s1.heap.objs.size + 1 ≤ h3.objs.size := by rw [← Heap.size_push s1.heap o]; exact ge
  have nlS : cStatics ≠ P ∧ cStatics < s1.heap.objs.size := by
    obtain ⟨_, ns, _⟩ := I1.nolimit
    refine ⟨fun z => ?_, ns.lt⟩
    obtain ⟨o', es, ep, ho, hdd, _⟩ := ns
    rw [z, tabS] at ho
    cases ho
    cases hdd
  refine wpAny_builtinsFor (m := X.mg) (by rw [I1.ok.glob]; exact ((I1.mod.glob.keeps I1.bk).push o).extBut ex TB.gP) b1 b2 (up _ _ b4 (I1.bk _ _ b5)) b6 b7 b8 ?_
  refine ⟨s1.heap.objs.size, [s1.heap.objs.size, a], [s1.heap.objs.size], its.length, (fun i v => its[i]? = some v), St, (fun _ => true), (fun i y => ∃ y0, ys[i]? = some y0 ∧ RelV y0 y), rfl, W, ?_, ?_, (I1.nolimit.push o).extBut ex nlS.1, ?_, ?_, ?_⟩
  · refine (W X.A hr.hd).frame _ _ _ st0 fun b hb u e => ex b u (fun z => ?_) e
    rcases List.mem_cons.mp hb with q | q
    · exact neI (q.symm.trans z)
    · have q2 : b = a := by simpa using q
      exact absurd (q2.symm.trans z) (by
        intro az
        rcases hsq with hh | hh
        · obtain ⟨its', _, pl, _⟩ := I1.list hh
          obtain ⟨oo, _, e1, _, _, d1⟩ := pl
          rw [az, tabS] at e1
          cases e1
          cases d1
        · obtain ⟨its', _, pl, _⟩ := I1.tuple hh
          obtain ⟨oo, e1, _, _, d1⟩ := pl
          rw [az, tabS] at e1
          cases e1
          cases d1)
  · intro b hb
    show b < h3.objs.size
    rcases List.mem_cons.mp hb with q | q
    · rw [q]; exact Nat.lt_of_succ_le sz
    · have q2 : b = a := by simpa using q
      rw [q2]; exact Nat.lt_of_lt_of_le hlt (Nat.le_of_succ_le sz)
  · intro z
    have z2 : cStatics = s1.heap.objs.size := by simpa using z
    exact Nat.ne_of_lt nlS.2 z2
  · intro href hk
    refine ⟨fun A' E' i v t m hA _ _ hv hn hm hkp => ?_, fun A' E' i v t m hA _ hU hv _ hn hm hkp => ?_⟩
    · simp only [List.forIn_nil]
      exact wpAny_pure ⟨rfl, GxR.keeps_refl _⟩
    · have li : i < xs.length := by rw [rv.length]; exact (List.getElem?_eq_some_iff.mp hv).1
      obtain ⟨u, hu, ru⟩ := rv.get (List.getElem?_eq_getElem li)
      rw [hv] at hu
      cases hu
      refine wpAny_mono (hel pins s1 t _ cv _ A' E' i _ v m I1 hA hU (List.getElem?_eq_getElem li) ru hn hm fun b u n e => ?_) (fun y t' r => r) fun _ _ e => e
      have e3 := up b u n e
      refine hkp b (List.mem_range.mpr (Heap.lt_size e3)) (fun z => ?_) u (hk b u e3)
      have z2 : b = s1.heap.objs.size := by simpa using z
      exact Nat.lt_irrefl _ (z2 ▸ Heap.lt_size e)
  · intro g h5 tk5 gs hgb hag hsz5 hk5 W5 hat
    have el : its.length = ys.length := by rw [hyl, ← rv.length]
    simp only [GxR.passing_true, List.length_range, el] at W5 hat
    refine hQ ys H1 g _ (by rw [hyl]; exact hz) q1 ⟨_, _, _, _, _, W5, hat, ?_, List.mem_cons_self, fun i s9 st => st.1.typeIs, ?_, fun s' mv => ?_⟩
    · intro b hb
      show b < h5.objs.size
      rw [hsz5]
      rcases List.mem_cons.mp hb with q | q
      · rw [q]; exact Nat.lt_succ_self _
      · rcases List.mem_cons.mp q with q | q
        · rw [q]; exact Nat.lt_succ_of_lt hag
        · exact Nat.lt_succ_of_lt (Nat.lt_trans (List.mem_range.mp q) hag)
    · intro j v hv
      obtain ⟨i, hij, y0, hy, r⟩ := hv
      obtain ⟨hj, ej⟩ := List.getElem?_eq_some_iff.mp hij
      rw [List.getElem_range] at ej
      subst ej
      exact ⟨y0, hy, r⟩
    · have out : ∀ b u, s1.heap.get? b = some u → b ∉ h3.objs.size :: [s1.heap.objs.size] := fun b u e hb => by
        have l := Heap.lt_size e
        rcases List.mem_cons.mp hb with q | q
        · rw [q] at l
          exact absurd l (Nat.not_lt.mpr (Nat.le_of_succ_le sz))
        · have q2 : b = s1.heap.objs.size := by simpa using q
          exact Nat.lt_irrefl _ (q2 ▸ l)
      have J := GxR.inv_tab (more := more) (h' := s'.heap) (g' := s'.gens) (d' := s'.drawn) (t' := s'.toks) I1 hP (fun b u n e => mv.heap b u (out b u e) (hk5 b u (up b u n e))) (mv.heap P _ (out P _ tabS) (hk5 P _ tab3)) (AllBare.movedS (I1.bare.push hgb) mv)
      rw [GxR.sh_eta s1 s' mv.os] at J
      exact ⟨_, ⟨⟨ps ++ more, upd_same, tr3⟩, fun b hb => upd_ne hb⟩, J⟩
/-- tuple(elt for x in e) -/
def tTupG (X : Cx) (scope : Scope) (x : Str) (elt : Expr) (P : Addr) (te : TE) : TE := fun σ H Q => te σ H fun v H1 => ∃ (a : Addr) (xs ys : List V), v = .ref a ∧ Sq X.K H1 a xs ∧ ys.length = xs.length ∧ (∀ pins, EltV X pins σ scope x elt P H1 xs ys) ∧ GxR.TabG H1 P ∧
  ∀ H2, GxR.Tabbed P H1 H2 → ∀ p, H2 p = none → Q (.ref p) (upd H2 p (.tup ys))
theorem items_vals {ys : List V} {F : Nat → Value → Prop} {acc : Array Value} {n : Nat} (hn : ys.length = n) (hF : ∀ j v, F j v → ∃ y, ys[j]? = some y ∧ RelV y v) (h : ItemsOf F acc n) : Vals ys acc.toList := by
  have gen : ∀ (l : List Value) (zs : List V), zs.length = l.length → (∀ (j : Nat) (v : Value), l[j]? = some v → ∃ y, zs[j]? = some y ∧ RelV y v) → Vals zs l := by
    intro l
    induction l with
    | nil => intro zs e _; cases zs with
      | nil => exact .nil
      | cons z r => cases e
    | cons v r ih => intro zs e k; cases zs with
      | nil => cases e
      | cons z q =>
        obtain ⟨y, hy, ry⟩ := k 0 v rfl
        cases hy
        exact .cons ry (ih q (by simpa using e) fun j v hv => k (j + 1) v hv)
  refine gen acc.toList ys (by rw [hn, ← h.1]; simp) fun j v hv => hF j v (h.2 j v (by simpa using hv))
theorem pe_tupG {c P : Addr} {elt iter : Expr} {x : Str} {px p pos gpos : Pos} {scope : Scope} {te : TE} {k : Nat}
    (hr : Room k X.A) (hg : Gl X "tuple") (hm : X.mg "tuple" = none) (TB : GxR.TabB X.base X.mg c P) (hcode : X.env.code = .ref c) (S : GxR.GenS X.env scope x) (hi : PE X iter te) (hs : ∀ v, genFold iter X.env v = pure v)
    (he : starEach [.GeneratorExp elt [⟨.Name x px, iter, [], 0⟩] scope gpos] X.env = (false, eval (.GeneratorExp elt [⟨.Name x px, iter, [], 0⟩] scope gpos) X.env) :: starEach [] X.env := by rfl) :
    PE X (.Call (.Name "tuple" p) [.GeneratorExp elt [⟨.Name x px, iter, [], 0⟩] scope gpos] [] pos) (tTupG X scope x elt P te) := by
  refine ⟨fun pins s σ H Q I h => ?_⟩
  refine wpAny_Call_Name_kw (ld_blt I hg hm boot_tuple (PyProof.Rows.callWith_type1 ?_ he (by rfl)))
  rw [he]
  show wpAny _ _ (spliced ((false, _) :: backTo pos (starEach [] X.env))) _ _ s
  unfold tTupG at h
  refine Calls.spliced_cons (gen_sq (te := te) (R := fun ys H1 => ∀ H2, GxR.Tabbed P H1 H2 → ∀ p, H2 p = none → Q (.ref p) (upd H2 p (.tup ys))) hr TB hcode S hi hs I (H := H) h fun ys H1 g s5 hz hR hG => ?_)
  · obtain ⟨fp, wr, G, F, St, W, st, hfp, hgf, hty, hF, hI⟩ := hG
    refine Calls.spliced_nil (call_tuple_gen W.in4_3 hty st hfp hgf (fun s' acc mv ia => ?_) hz)
    obtain ⟨H2, hT, J⟩ := hI s' mv
    have rv := items_vals rfl hF ia
    refine ⟨.ref s'.heap.objs.size, _, J.laid (t' := s'.toks) (o := .tup ys) (fun b u e => Heap.get?_push_of_some _ e) (Nat.le_refl _) ⟨hz, acc.toList, rv, ?_⟩, rfl, hR H2 hT _ (J.hok.fresh (Nat.le_refl _))⟩
    have z := IsTup.new s'.heap acc
    simpa using z
/-- all(elt for x in e), any(elt for x in e), the element True or False -/
def tAllG (X : Cx) (scope : Scope) (x : Str) (elt : Expr) (P : Addr) (te : TE) : TE := fun σ H Q => te σ H fun v H1 => ∃ (a : Addr) (xs ys : List V), v = .ref a ∧ Sq X.K H1 a xs ∧ ys.length = xs.length ∧ (∀ pins, EltV X pins σ scope x elt P H1 xs ys) ∧ GxR.TabG H1 P ∧
  ∃ bs : List Bool, ys = bs.map V.bl ∧ ∀ H2, GxR.Tabbed P H1 H2 → Q (.bl (bs.all id)) H2
def tAnyG (X : Cx) (scope : Scope) (x : Str) (elt : Expr) (P : Addr) (te : TE) : TE := fun σ H Q => te σ H fun v H1 => ∃ (a : Addr) (xs ys : List V), v = .ref a ∧ Sq X.K H1 a xs ∧ ys.length = xs.length ∧ (∀ pins, EltV X pins σ scope x elt P H1 xs ys) ∧ GxR.TabG H1 P ∧
  ∃ bs : List Bool, ys = bs.map V.bl ∧ ∀ H2, GxR.Tabbed P H1 H2 → Q (.bl (bs.any id)) H2
theorem truth_bls {A : Around} {bs : List Bool} {F : Nat → Value → Prop} (hF : ∀ j v, F j v → ∃ y, (bs.map V.bl)[j]? = some y ∧ RelV y v) : TruthOf X.prog X.w A F (fun j => bs.getD j false) := by
  intro j v t Q E hv hq
  obtain ⟨y, hy, r⟩ := hF j v hv
  rw [List.getElem?_map] at hy
  cases e : bs[j]? with
  | none => rw [e] at hy; cases hy
  | some b =>
    rw [e] at hy
    cases hy
    cases (show v = Value.bool b from r)
    have e2 : bs.getD j false = b := by rw [List.getD_eq_getElem?_getD, e]; rfl
    exact wpAny_truthy_bool (by rw [← e2]; exact hq)
theorem all_range (bs : List Bool) : (List.range bs.length).all (fun j => bs.getD j false) = bs.all id := by
  rw [Bool.eq_iff_iff, List.all_eq_true, List.all_eq_true]
  constructor
  · intro h b hb
    obtain ⟨j, hj, e⟩ := List.getElem_of_mem hb
    have q := h j (List.mem_range.mpr hj)
    rw [List.getD_eq_getElem?_getD, List.getElem?_eq_getElem hj, e] at q
    exact q
  · intro h j hj
    have hj' := List.mem_range.mp hj
    rw [List.getD_eq_getElem?_getD, List.getElem?_eq_getElem hj']
    exact h _ (List.getElem_mem hj')
theorem any_range (bs : List Bool) : (List.range bs.length).any (fun j => bs.getD j false) = bs.any id := by
  rw [Bool.eq_iff_iff, List.any_eq_true, List.any_eq_true]
  constructor
  · intro ⟨j, hj, q⟩
    have hj' := List.mem_range.mp hj
    rw [List.getD_eq_getElem?_getD, List.getElem?_eq_getElem hj'] at q
    exact ⟨_, List.getElem_mem hj', q⟩
  · intro ⟨b, hb, q⟩
    obtain ⟨j, hj, e⟩ := List.getElem_of_mem hb
    refine ⟨j, List.mem_range.mpr hj, ?_⟩
    rw [List.getD_eq_getElem?_getD, List.getElem?_eq_getElem hj, e]
    exact q
theorem pe_allG {c P : Addr} {elt iter : Expr} {x : Str} {px p pos gpos : Pos} {scope : Scope} {te : TE} {k : Nat}
    (hr : Room k X.A) (hg : Gl X "all") (hm : X.mg "all" = none) (TB : GxR.TabB X.base X.mg c P) (hcode : X.env.code = .ref c) (S : GxR.GenS X.env scope x) (hi : PE X iter te) (hs : ∀ v, genFold iter X.env v = pure v)
    (he : starEach [.GeneratorExp elt [⟨.Name x px, iter, [], 0⟩] scope gpos] X.env = (false, eval (.GeneratorExp elt [⟨.Name x px, iter, [], 0⟩] scope gpos) X.env) :: starEach [] X.env := by rfl) :
    PE X (.Call (.Name "all" p) [.GeneratorExp elt [⟨.Name x px, iter, [], 0⟩] scope gpos] [] pos) (tAllG X scope x elt P te) := by
  refine ⟨fun pins s σ H Q I h => ?_⟩
  refine wpAny_Call_Name_kw (ld_blt I hg hm boot_all (PyProof.Rows.callWith_builtin1 ?_ he (by rfl)))
  rw [he]
  show wpAny _ _ (spliced ((false, _) :: backTo pos (starEach [] X.env))) _ _ s
  unfold tAllG at h
  refine Calls.spliced_cons (gen_sq (te := te) (R := fun ys H1 => ∃ bs : List Bool, ys = bs.map V.bl ∧ ∀ H2, GxR.Tabbed P H1 H2 → Q (.bl (bs.all id)) H2) hr TB hcode S hi hs I (H := H) h fun ys H1 g s5 hz hR hG => ?_)
  obtain ⟨bs, rfl, hR⟩ := hR
  obtain ⟨fp, wr, G, F, St, W, st, hfp, hgf, hty, hF, hI⟩ := hG
  refine Calls.spliced_nil (call_all_walkS (W.in4_1.self 0 _ _ _ st ⟨g, fp, wr, G, _, F, St, _, rfl, W.in4_1, st, truth_bls hF, fun s' mv => ?_⟩))
  obtain ⟨H2, hT, J⟩ := hI s' mv
  refine ⟨.bl _, H2, J, rfl, ?_⟩
  rw [List.length_map, all_range]
  exact hR H2 hT
theorem pe_anyG {c P : Addr} {elt iter : Expr} {x : Str} {px p pos gpos : Pos} {scope : Scope} {te : TE} {k : Nat}
    (hr : Room k X.A) (hg : Gl X "any") (hm : X.mg "any" = none) (TB : GxR.TabB X.base X.mg c P) (hcode : X.env.code = .ref c) (S : GxR.GenS X.env scope x) (hi : PE X iter te) (hs : ∀ v, genFold iter X.env v = pure v)
    (he : starEach [.GeneratorExp elt [⟨.Name x px, iter, [], 0⟩] scope gpos] X.env = (false, eval (.GeneratorExp elt [⟨.Name x px, iter, [], 0⟩] scope gpos) X.env) :: starEach [] X.env := by rfl) :
    PE X (.Call (.Name "any" p) [.GeneratorExp elt [⟨.Name x px, iter, [], 0⟩] scope gpos] [] pos) (tAnyG X scope x elt P te) := by
  refine ⟨fun pins s σ H Q I h => ?_⟩
  refine wpAny_Call_Name_kw (ld_blt I hg hm boot_any (PyProof.Rows.callWith_builtin1 ?_ he (by rfl)))
  rw [he]
  show wpAny _ _ (spliced ((false, _) :: backTo pos (starEach [] X.env))) _ _ s
  unfold tAnyG at h
  refine Calls.spliced_cons (gen_sq (te := te) (R := fun ys H1 => ∃ bs : List Bool, ys = bs.map V.bl ∧ ∀ H2, GxR.Tabbed P H1 H2 → Q (.bl (bs.any id)) H2) hr TB hcode S hi hs I (H := H) h fun ys H1 g s5 hz hR hG => ?_)
  obtain ⟨bs, rfl, hR⟩ := hR
  obtain ⟨fp, wr, G, F, St, W, st, hfp, hgf, hty, hF, hI⟩ := hG
  refine Calls.spliced_nil (call_any_walkS (W.in4_1.self 0 _ _ _ st ⟨g, fp, wr, G, _, F, St, _, rfl, W.in4_1, st, truth_bls hF, fun s' mv => ?_⟩))
  obtain ⟨H2, hT, J⟩ := hI s' mv
  refine ⟨.bl _, H2, J, rfl, ?_⟩
  rw [List.length_map, any_range]
  exact hR H2 hT
/-- an element f[x]: f a captured name of a tuple, x the walk's own -/
theorem elt_item {f x : Str} {scope : Scope} {P fa : Addr} {H1 : Hp} {xs ys zs : List V} {j : Nat} {p1 p2 p3 : Pos} (hk : scope.kind = .function) (hx : scope.names.lookup x = some .local) (hf : scope.names.lookup f = some .free)
    (hcl : (cloFrom X.env.cells scope.names []).lookup f = some ((X.env.cells.lookup f).getD 0)) (hj : X.N[j]? = some f) (hkf : X.env.kindOf f = some .cell) (hσ : σ[j]? = some (some (.ref fa))) (hq : SqT X.K H1 fa zs) (hT : GxR.TabG H1 P)
    (hv : ∀ (i : Nat) x0, xs[i]? = some x0 → ∃ (n : Int) (y : V), x0 = .int n ∧ atI zs n = some y ∧ ys[i]? = some y) (hdf : (f == ("__debug__" : Str)) = false := by decide) (hdx : (x == ("__debug__" : Str)) = false := by decide) (hcf : (f == ("__classdict__" : Str)) = false := by decide) :
    EltV X pins σ scope x (.Subscript (.Name f p1) (.Name x p2) p3) P H1 xs ys := by
  intro s1 t C code bi A' E' i x0 u m I hA hU hx0 ru hn hm hkp
  obtain ⟨n, y, rfl, hat, hy⟩ := hv i x0 hx0
  obtain ⟨tk, rfl⟩ := (show ∃ t, u = Value.int n t from ru)
  obtain ⟨ps, hP, _⟩ := hT
  have tabS : s1.heap.get? P = some { cls := .none, data := .fields ps } := I.hok P _ hP
  obtain ⟨m1, _, hl⟩ := I.loc
  obtain ⟨uf, rf, lk⟩ := hl j f _ hj hσ (.inr (.inl hkf))
  cases (show uf = Value.ref fa from rf)
  obtain ⟨c, hc, ic⟩ : ∃ c, X.env.cells.lookup f = some c ∧ s1.heap.IsCell c (some (.ref fa)) := by
    rcases lk with ⟨z, _⟩ | ⟨_, c, hc, ic⟩
    · rw [hkf] at z; cases z
    · exact ⟨c, hc, ic⟩
  have ic2 : t.heap.IsCell c (some (.ref fa)) := by
    obtain ⟨o, ho, hd⟩ := ic
    refine ⟨o, hkp c o (fun z => ?_) ho, hd⟩
    rw [z, tabS] at ho
    cases ho
    cases hd
  obtain ⟨its, rv, pl, hz⟩ := I.tuple hq
  have pl2 : IsTup t.heap fa its.toArray := by
    obtain ⟨o, ho, hcl', nn, hd⟩ := pl
    refine ⟨o, hkp fa o (fun z => ?_) ho, hcl', nn, hd⟩
    rw [z, tabS] at ho
    cases ho
    cases hd
  obtain ⟨jj, h1, h2, h3, h4, h5⟩ := atI_get hat
  obtain ⟨wv, ew, rw'⟩ := rv.get h2
  have hlen := rv.length
  have hn63 := line63
  have clf : (genEnv scope (cloFrom X.env.cells scope.names []) C code bi X.env).cells.lookup f = some c := by
    show (cloFrom X.env.cells scope.names []).lookup f = some c
    rw [hcl, hc]
    rfl
  refine Subscript_ (wpAny_Name (wpAny_loadName_free hk hf clf ic2 (wpAny_Name (wpAny_loadName_local hk hx hn hm ?_) hdx) hcf) hdf)
  exact subscriptTail_builtinR (x := wv) pl2.typeIs slot_tuple_getitem.lookup
    (getItem_tuple (j := jj) (Q := fun r s' => r = wv ∧ ((∃ y0, ys[i]? = some y0 ∧ RelV y0 r) ∧ Keeps t s')) pl2 (by omega) (by omega) (by rw [List.size_toArray, ← hlen]; exact h1) (by simpa using ew) ⟨rfl, ⟨y, hy, rw'⟩, GxR.keeps_refl _⟩) (by rfl)
end
end Gv

set_option Elab.async false
set_option linter.all false
set_option maxRecDepth 100000
set_option maxHeartbeats 4000000
/-! enumerate(t), t a tuple -/
namespace Et
open PySem PySem.Spec PyProof.Rows L2
theorem meets_one {v : Value} {o : Obj} {B : Heap → Prop} (hB : Begins v o B) :
    Meets (Builtin.«enumerate.__new__» ⟨[.type "enumerate", v], []⟩) (fun _ R s => B s.heap ∧
      R (.ok (.ret (.ref (s.heap.push o).objs.size))) { s with heap := (s.heap.push o).push { cls := .type "enumerate", data := .fields #[.none, .bool false, .ref s.heap.objs.size, rawInt 0, .none, .none] } }) :=
  .of_wp fun prog w A R s h => by
    obtain ⟨hp, g, d, tk, os⟩ := s
    obtain ⟨hb, h⟩ := h
    have hsub := sub_enumerate
    have begin1 : ∀ {A1 : Around} {E1 : Value → Shared → Prop} {Q1 : Value → Shared → Prop}, Q1 (.ref hp.objs.size) ⟨hp.push o, g, d, tk, os⟩ → wpAny (model prog w) A1 (pyIter v) Q1 E1 ⟨hp, g, d, tk, os⟩ := fun q => hB.iter prog w _ _ ⟨hp, g, d, tk, os⟩ _ hb q
    wp_walk using begin1
    refine wpAny_stack_any fun stk => wpAny_pure ?_
    split
    next c _ _ _ _ _ =>
      cases (c == Value.type "enumerate") <;> (wp_walk using begin1; exact ⟨_, rfl, h⟩)
    next => wp_walk using begin1; exact ⟨_, rfl, h⟩
theorem make {prog : Program} {w : World} {A : Around} {E : Value → Shared → Prop} {s : Shared} {v : Value} {o : Obj} {B : Heap → Prop} {Q : Value → Shared → Prop} (hB : Begins v o B) (hb : B s.heap)
    (k : ∀ h', IsEnum h' (s.heap.objs.size + 1) s.heap.objs.size 0 .none → h'.get? s.heap.objs.size = some o → (∀ b o, s.heap.get? b = some o → h'.get? b = some o) → Q (.ref (s.heap.objs.size + 1)) { s with heap := h' }) :
    wpAny (model prog w) A (call (.type "enumerate") [v]) Q E s := by
  refine callType_new F.called_enumerate (by decide) (F.typeCall_enumerate_1 _) (F.newCall_enumerate_1 _) (fun obj => F.args_object_init_2 obj _) F.entry_enumerate_new (meets_one hB) ⟨hb, ?_⟩
  have z : (s.heap.push o).objs.size = s.heap.objs.size + 1 := Heap.size_push ..
  generalize hn : ({ cls := .type "enumerate", data := .fields #[.none, .bool false, .ref s.heap.objs.size, rawInt 0, .none, .none] } : Obj) = en
  have e : ((s.heap.push o).push en).get? (s.heap.objs.size + 1) = some en := by
    have q := Heap.get?_push_size (s.heap.push o) (o := en) (by rw [← hn]; rfl)
    rw [z] at q
    exact q
  have ie : IsEnum ((s.heap.push o).push en) (s.heap.objs.size + 1) s.heap.objs.size 0 .none := by
    subst hn
    exact e
  show _ ∧ _
  rw [z]
  exact ⟨⟨_, e, by rw [← hn]⟩, k _ ie (Heap.get?_push_of_some _ (Heap.get?_push_size _ hB.free)) fun b u x => Heap.get?_push_of_some _ (Heap.get?_push_of_some _ x)⟩
/-- the tuple at a walked with its places -/
def ItE (K : PySem.W.Frag) (a : Addr) : It :=
  ⟨fun i H => ∃ (xs : List V) (x : V), SqT K H a xs ∧ xs[i]? = some x, fun i H v H' => ∃ T x, v = .ref T ∧ H T = none ∧ H' = upd H T (.tup [.int (i : Nat), x]) ∧ ∀ xs, SqT K H a xs → xs[i]? = some x,
    fun i H => ∃ xs : List V, SqT K H a xs ∧ xs.length = i⟩
theorem turn {P : Program} {w : World} {K : PySem.W.Frag} {elts : List Expr} {kk : Nat} {tpos : Pos} (a e it : Addr) (hei : e ≠ it) :
    Turn P w K (.Tuple elts kk tpos) (ItE K a) [e, it] e (fun i h => (∃ old, IsEnum h e it ((i : Nat) : Int) old) ∧ h.IsTupleIter it a i) where
  mem := List.mem_cons_self
  obj := fun i h st b hb => by
    obtain ⟨⟨old, he⟩, o, ho, _, hd⟩ := st
    rcases List.mem_cons.mp hb with z | z
    · rw [z]; exact ⟨_, he, fun v q => nomatch q⟩
    · rw [List.mem_singleton.mp z]; exact ⟨o, ho, fun v q => by rw [hd] at q; cases q⟩
  keep := fun i h h' st k => ⟨let ⟨old, he⟩ := st.1; ⟨old, k e (by simp) _ he⟩, st.2.at fun o q => k it (by simp) o q⟩
  item := by
    intro X hP hw hK hc i pins s σ H E I hf st hg
    subst hP hw hK
    obtain ⟨⟨old, he⟩, hit⟩ := st
    obtain ⟨xs, x, hq, hx⟩ := hg
    obtain ⟨its, rv, pl, hz⟩ := I.tuple hq
    obtain ⟨u, hu, ru⟩ := rv.get hx
    have le : e < s.heap.objs.size := Heap.lt_size he
    have li : it < s.heap.objs.size := by obtain ⟨_, q, _⟩ := hit; exact Heap.lt_size q
    have nai : a ≠ it := fun z => by
      obtain ⟨o, q, hcl, _⟩ := hit
      obtain ⟨o2, q2, hcl2, _⟩ := pl
      rw [z, q] at q2
      cases q2
      rw [hcl] at hcl2
      exact absurd (Value.type.inj hcl2) (by decide)
    have nea : e ≠ a := fun z => by
      obtain ⟨o2, q2, hcl2, _⟩ := pl
      rw [← z] at q2
      have q3 := Option.some.inj (he.symm.trans q2)
      rw [← q3] at hcl2
      exact absurd (Value.type.inj hcl2) (by decide)
    have D := Draws.tuple (prog := X.prog) (w := X.w) (A := X.A.in1) (I.ok.hd hc) it a nai its.toArray
    have hlt : i < its.toArray.size := by simpa using (List.getElem?_eq_some_iff.mp hu).1
    refine wpAny_pyNext_enum_itemD D he ⟨hit, pl⟩ hlt hei (by simp [hei, nea]) fun y h' tk hy ho st' hT hsz hk => ?_
    obtain rfl : y = u := by
      have q : its[i]? = some y := by simpa using hy
      exact Option.some.inj (q.symm.trans hu)
    refine ⟨_, rfl, wpAny_letOwnedTupleGo_enum (s := { s with heap := h', toks := tk + 1 }) ho fun h'' he' sb => ?_⟩
    have tT : h''.get? s.heap.objs.size = some { cls := .type "tuple", data := .seq #[.int i tk, y] } := (sb.2 _ (Nat.ne_of_gt le)).trans hT
    have J : Inv X pins σ (upd H s.heap.objs.size (.tup [.int (i : Nat), x])) { s with heap := h'', toks := tk + 1 } :=
      I.turnedNew (ch := [e, it]) (fun b ob nb q => (sb.2 b (fun z => nb (by simp [z]))).trans (hk b ob (fun z => nb (by simp [z])) (fun z => nb (by simp [z])) q)) hf (Nat.le_refl _)
        ⟨by show 2 ≤ sizeLine; decide, [.int i tk, y], .cons ⟨_, rfl⟩ (.cons ru .nil), ⟨_, tT, rfl, _, rfl⟩⟩
    refine ⟨.ref s.heap.objs.size, _, J, rfl, ⟨_, x, rfl, I.hok.fresh (Nat.le_refl _), rfl, fun ys hy => by rw [I.tuple_inj hy hq]; exact hx⟩, ⟨⟨y, ?_⟩, st'.1.at fun o q => (sb.2 it (Ne.symm hei)).trans q⟩, fun b hb => ?_⟩
    · have c1 : ((i + 1 : Nat) : Int) = (i : Int) + 1 := by omega
      rw [c1]; exact he'
    · have lb : b < s.heap.objs.size := by
        rcases List.mem_cons.mp hb with z | z
        · rw [z]; exact le
        · rw [List.mem_singleton.mp z]; exact li
      rw [upd_ne (Nat.ne_of_lt lb)]
      exact (hf b hb).1
  done := by
    intro X hP hw hK hc i pins s σ H E I hf st hg
    subst hP hw hK
    obtain ⟨⟨old, he⟩, hit⟩ := st
    obtain ⟨xs, hq, hx⟩ := hg
    obtain ⟨its, rv, pl, hz⟩ := I.tuple hq
    obtain ⟨f0, f1, f2, f3, f4, f5⟩ := hf it (by simp)
    have hl := rv.length
    have nai : a ≠ it := fun z => by
      obtain ⟨o, q, hcl, _⟩ := hit
      obtain ⟨o2, q2, hcl2, _⟩ := pl
      rw [z, q] at q2
      cases q2
      rw [hcl] at hcl2
      exact absurd (Value.type.inj hcl2) (by decide)
    have D := Draws.tuple (prog := X.prog) (w := X.w) (A := X.A.in1) (I.ok.hd hc) it a nai its.toArray
    have en : i = its.toArray.size := by rw [List.size_toArray, ← hl, hx]
    exact wpAny_pyNext_enum_endD D he (by rw [← en]; exact ⟨hit, pl⟩) fun h' eb => ⟨rfl, I.turned (t' := s.toks) (fun b o hb q => eb b o hb q) f0 f1 f3 f4 f5⟩
  self := fun A i s Q E st h => let ⟨⟨_, he⟩, _⟩ := st; wpAny_pyIter_enum he h
def iEnumT (K : PySem.W.Frag) (ta : TA) : TI := fun σ H R => ta σ H fun vs H1 => ∃ a xs, vs = [.ref a] ∧ SqT K H1 a xs ∧ R (ItE K a) H1
theorem pi_enumT {X : Cx} {e : Expr} {ta : TA} {p pos tpos : Pos} {elts : List Expr} {kk : Nat} (hg : Gl X "enumerate") (hm : X.mg "enumerate" = none) (ha : PA X [e] ta) (hs : starEach [e] X.env = [(false, eval e X.env)] := by rfl) :
    PI X (.Tuple elts kk tpos) (.Call (.Name "enumerate" p) [e] [] pos) (iEnumT X.K ta) := by
  refine ⟨fun pins s σ H R I h => ?_⟩
  refine Call_ (ld_blt I hg hm boot_enumerate (PyProof.Rows.callWith_type1 (thn (ha.run pos pins s σ H _ I h) fun us s1 ⟨vs, H1, I1, r1, q1⟩ => ?_) hs rfl))
  obtain ⟨a, xs, rfl, hq, q⟩ := q1
  obtain ⟨u, rfl, ru⟩ := vals1 r1
  cases (show u = Value.ref a from ru)
  obtain ⟨its, rv, pl, hz⟩ := I1.tuple hq
  refine make (begins_tuple a its.toArray) pl fun h' ie io kp => wpAny_pyIter_enum ie ?_
  refine ⟨s1.heap.objs.size + 1, [s1.heap.objs.size + 1, s1.heap.objs.size], _, _, H1, rfl, I1.kept (t' := s1.toks) kp, turn a (s1.heap.objs.size + 1) s1.heap.objs.size (Nat.succ_ne_self _), ⟨⟨.none, ie⟩, _, io, rfl, rfl⟩, fun b hb => ?_, q⟩
  have lb : s1.heap.objs.size ≤ b := by
    rcases List.mem_cons.mp hb with z | z
    · rw [z]; exact Nat.le_succ _
    · rw [List.mem_singleton.mp z]; exact Nat.le_refl _
  exact I1.fpOk lb (I1.hok.fresh lb)
/-- for (i, x) in enumerate(t): an invariant over the turns -/
theorem for_enumT {K : PySem.W.Frag} {a : Addr} {xs : List V} {g : TG} {tb : TS} {D : Ends} {σ : L2.St} {H : Hp} (Pv : Nat → L2.St → Hp → Prop) (h0 : Pv 0 σ H) (hl : ∀ i σ H, i ≤ xs.length → Pv i σ H → SqT K H a xs)
    (hs : ∀ i x σ H T, xs[i]? = some x → Pv i σ H → H T = none → g (.ref T) σ (upd H T (.tup [.int (i : Nat), x])) fun σ2 H2 => tb { D with nx := Pv (i + 1), ct := Pv (i + 1), bk := D.nx } σ2 H2) (hd : ∀ σ H, Pv xs.length σ H → D.nx σ H) :
    ∃ W : Nat → Nat → L2.St → Hp → Prop, (∃ m, W 0 m σ H) ∧ ∀ i m σ H, W i m σ H →
      ((ItE K a).stop i H ∧ D.nx σ H) ∨ ((ItE K a).go i H ∧ ∃ N : L2.St → Hp → Prop, (∀ σ' H', N σ' H' → ∃ m', m' < m ∧ W (i + 1) m' σ' H') ∧ ∀ x H', (ItE K a).yld i H x H' → g x σ H' fun σ2 H2 => tb { D with nx := N, ct := N, bk := D.nx } σ2 H2) := by
  refine ⟨fun i m σ H => i + m = xs.length ∧ Pv i σ H, ⟨xs.length, by omega, h0⟩, ?_⟩
  rintro i m σ H ⟨e, p⟩
  have q := hl i σ H (by omega) p
  by_cases c : i < xs.length
  · refine .inr ⟨⟨xs, xs[i], q, List.getElem?_eq_getElem c⟩, Pv (i + 1), fun σ' H' p' => ⟨m - 1, by omega, by omega, p'⟩, fun v H' hy => ?_⟩
    obtain ⟨T, x, rfl, nT, rfl, fx⟩ := hy
    exact hs i x σ H T (fx xs q) p nT
  · have e2 : i = xs.length := by omega
    subst e2
    exact .inl ⟨⟨xs, q, rfl⟩, hd σ H p⟩
theorem lc_enumT {K : PySem.W.Frag} {a : Addr} {xs : List V} {g : TG} {tt : TT} {te : TE} {vs : List Nat} {σ : L2.St} {H1 : Hp} {D : Addr} {Qd : Hp → Prop} (Pv : Nat → Hp → Prop) (h0 : Pv 0 (upd H1 D (.lst []))) (hl : ∀ i H, i ≤ xs.length → Pv i H → SqT K H a xs)
    (hs : ∀ i x H T, xs[i]? = some x → Pv i H → H T = none → g (.ref T) (wipe σ vs) (upd H T (.tup [.int (i : Nat), x])) fun σ2 H2 => wipe σ2 vs = wipe σ vs ∧ tt σ2 H2 fun b H3 =>
      if b = true then te σ2 H3 fun y H4 => ∃ acc, H4 D = some (.lst acc) ∧ acc.length < sizeLine ∧ Pv (i + 1) (upd H4 D (.lst (acc ++ [y]))) else Pv (i + 1) H3) (hd : ∀ H, Pv xs.length H → Qd H) :
    ∃ W : Nat → Nat → Hp → Prop, (∃ m, W 0 m (upd H1 D (.lst []))) ∧ ∀ i m H, W i m H →
      ((ItE K a).stop i H ∧ Qd H) ∨ ((ItE K a).go i H ∧ ∃ Nx : Hp → Prop, (∀ H', Nx H' → ∃ m', m' < m ∧ W (i + 1) m' H') ∧ ∀ x H', (ItE K a).yld i H x H' → g x (wipe σ vs) H' fun σ2 H2 => wipe σ2 vs = wipe σ vs ∧ tt σ2 H2 fun b H3 =>
        if b = true then te σ2 H3 fun y H4 => ∃ acc, H4 D = some (.lst acc) ∧ acc.length < sizeLine ∧ Nx (upd H4 D (.lst (acc ++ [y]))) else Nx H3) := by
  refine ⟨fun i m H => i + m = xs.length ∧ Pv i H, ⟨xs.length, by omega, h0⟩, ?_⟩
  rintro i m H ⟨e, p⟩
  have q := hl i H (by omega) p
  by_cases c : i < xs.length
  · refine .inr ⟨⟨xs, xs[i], q, List.getElem?_eq_getElem c⟩, Pv (i + 1), fun H' p' => ⟨m - 1, by omega, by omega, p'⟩, fun v H' hy => ?_⟩
    obtain ⟨T, x, rfl, nT, rfl, fx⟩ := hy
    exact hs i x H T (fx xs q) p nT
  · have e2 : i = xs.length := by omega
    subst e2
    exact .inl ⟨⟨xs, q, rfl⟩, hd H p⟩
end Et

set_option Elab.async false
set_option linter.all false
set_option maxRecDepth 100000
set_option maxHeartbeats 4000000
/-! riddles as they lie in the heap, their data, and what a filling breaks -/
namespace Dt
open PySem PySem.Spec PyProof.Rows L2
/-! ### in, of a tuple of data -/
def rInT (K : PySem.W.Frag) : R2 := fun x y H Q => ∃ d ds, Dp K H x d ∧ Dp K H y (.tuple ds) ∧ SeqAt.shaped d = true ∧ SeqAt.shaped (.tuple ds) = true ∧ Q (.bl (ds.any fun z => PyData.eqv z d)) H
theorem op_inT {X : Cx} (hu : X.A.units + 65 < cLine) : OpR X (compareOp .In) (rInT X.K) := by
  intro pins s σ H x y v u Q I rx ry h
  obtain ⟨d, ds, hd, he, sd, se, q⟩ := h
  obtain ⟨as, r1⟩ := Dp.reads I d x v hd rx
  obtain ⟨bs, r2⟩ := Dp.reads I (.tuple ds) y u he ry
  exact SeqAt.in_tuple_reads r2 r1 (SeqAt.canLay_of_shaped se) (SeqAt.canLay_of_shaped sd) (room_in_shaped sd hu) ⟨.bl _, H, I, rfl, q⟩
/-! ### wishes and riddles -/
abbrev Row := List Int
abbrev WD := List Int × List Row
def IsRow (H : Hp) (r : Addr) (row : Row) : Prop := H r = some (.tup (row.map V.int))
def IsWish (H : Hp) (wa : Addr) (wd : WD) : Prop := ∃ (pa ra : Addr) (rs : List Addr), H wa = some (.tup [.ref pa, .ref ra]) ∧ H pa = some (.tup (wd.1.map V.int)) ∧ H ra = some (.tup (rs.map V.ref)) ∧ Paired (IsRow H) rs wd.2
def IsRid (H : Hp) (ri : Addr) (many hues : Int) (wds : List WD) : Prop := ∃ (wt : Addr) (was : List Addr), H ri = some (.tup [.int many, .int hues, .ref wt]) ∧ H wt = some (.tup (was.map V.ref)) ∧ Paired (IsWish H) was wds
/-- tuples stay -/
def Tups (H H' : Hp) : Prop := ∀ b xs, H b = some (.tup xs) → H' b = some (.tup xs)
theorem Tups.refl (H : Hp) : Tups H H := fun _ _ e => e
theorem Tups.trans {H H1 H2 : Hp} (a : Tups H H1) (b : Tups H1 H2) : Tups H H2 := fun c xs e => b c xs (a c xs e)
theorem tups_same {H H' : Hp} (s : Same H H') : Tups H H' := fun b xs e => s b _ e
theorem tups_upd {H : Hp} {p : Addr} {o : HO} (h : ∀ xs, H p ≠ some (.tup xs)) : Tups H (upd H p o) := fun b xs e => by
  rw [upd_ne (fun z => h xs (by rw [← z]; exact e))]
  exact e
theorem pairedMap {α β : Type} {F G : α → β → Prop} : ∀ {l : List α} {m : List β}, (∀ a b, F a b → G a b) → Paired F l m → Paired G l m
  | _, _, _, .nil => .nil
  | _, _, k, .cons h t => .cons (k _ _ h) (pairedMap k t)
theorem pairedLen {α β : Type} {F : α → β → Prop} : ∀ {l : List α} {m : List β}, Paired F l m → l.length = m.length
  | _, _, .nil => rfl
  | _, _, .cons _ t => by rw [List.length_cons, List.length_cons, pairedLen t]
theorem pairedGet {α β : Type} {F : α → β → Prop} : ∀ {l : List α} {m : List β} {i : Nat} {b : β}, Paired F l m → m[i]? = some b → ∃ a, l[i]? = some a ∧ F a b
  | _, _, _, _, .nil, h => by simp at h
  | _, _, 0, _, .cons h _, e => by cases e; exact ⟨_, rfl, h⟩
  | _, _, i + 1, b, .cons _ t, e => pairedGet (i := i) (b := b) t e
theorem pairedGetL {α β : Type} {F : α → β → Prop} : ∀ {l : List α} {m : List β} {i : Nat} {a : α}, Paired F l m → l[i]? = some a → ∃ b, m[i]? = some b ∧ F a b
  | _, _, _, _, .nil, h => by simp at h
  | _, _, 0, _, .cons h _, e => by cases e; exact ⟨_, rfl, h⟩
  | _, _, i + 1, a, .cons _ t, e => pairedGetL (i := i) (a := a) t e
theorem IsWish.mono {H H' : Hp} {wa : Addr} {wd : WD} (t : Tups H H') (h : IsWish H wa wd) : IsWish H' wa wd := by
  obtain ⟨pa, ra, rs, h1, h2, h3, h4⟩ := h
  exact ⟨pa, ra, rs, t _ _ h1, t _ _ h2, t _ _ h3, pairedMap (fun a b e => t _ _ e) h4⟩
theorem IsRid.mono {H H' : Hp} {ri : Addr} {m h : Int} {wds : List WD} (t : Tups H H') (x : IsRid H ri m h wds) : IsRid H' ri m h wds := by
  obtain ⟨wt, was, h1, h2, h3⟩ := x
  exact ⟨wt, was, t _ _ h1, t _ _ h2, pairedMap (fun _ _ e => IsWish.mono t e) h3⟩
/-- what may come of the law's drawing -/
structure Good (many hues : Int) (wd : WD) : Prop where
  one : 1 ≤ wd.1.length
  three : wd.1.length ≤ 3
  pl : ∀ p ∈ wd.1, 0 ≤ p ∧ p < many
  some_ : 1 ≤ wd.2.length
  few : wd.2.length ≤ 64
  row : ∀ r ∈ wd.2, r.length = wd.1.length ∧ ∀ h ∈ r, 0 ≤ h ∧ h < hues
structure GoodR (many hues : Int) (wds : List WD) : Prop where
  m1 : 1 ≤ many
  m6 : many ≤ 6
  h2 : 2 ≤ hues
  h4 : hues ≤ 4
  eight : wds.length ≤ 8
  each : ∀ wd ∈ wds, Good many hues wd
structure GoodF (many hues : Int) (fs : List Int) : Prop where
  len : (fs.length : Int) = many
  hue : ∀ h ∈ fs, 0 ≤ h ∧ h < hues
/-! ### the data -/
def rowD (r : Row) : PyData := .tuple (r.map .int)
def wishD (wd : WD) : PyData := .tuple [rowD wd.1, .tuple (wd.2.map rowD)]
def ridD (many hues : Int) (wds : List WD) : PyData := .tuple [.int many, .int hues, .tuple (wds.map wishD)]
section
variable {K : PySem.W.Frag} {H : Hp}
theorem dpInts : ∀ ns : List Int, DpAll K H (ns.map V.int) (ns.map PyData.int)
  | [] => .nil
  | n :: r => .cons (.int n) (dpInts r)
theorem dpRow {r : Addr} {row : Row} (h : IsRow H r row) : Dp K H (.ref r) (rowD row) := .tup (.inl (.inl h)) (dpInts row)
theorem dpRows : ∀ {rs : List Addr} {rows : List Row}, Paired (IsRow H) rs rows → DpAll K H (rs.map V.ref) (rows.map rowD)
  | _, _, .nil => .nil
  | _, _, .cons h t => .cons (dpRow h) (dpRows t)
theorem dpWish {wa : Addr} {wd : WD} (h : IsWish H wa wd) : Dp K H (.ref wa) (wishD wd) := by
  obtain ⟨pa, ra, rs, h1, h2, h3, h4⟩ := h
  exact .tup (.inl (.inl h1)) (.cons (dpRow h2) (.cons (.tup (.inl (.inl h3)) (dpRows h4)) .nil))
theorem dpWishes : ∀ {was : List Addr} {wds : List WD}, Paired (IsWish H) was wds → DpAll K H (was.map V.ref) (wds.map wishD)
  | _, _, .nil => .nil
  | _, _, .cons h t => .cons (dpWish h) (dpWishes t)
theorem dpRid {ri : Addr} {m h : Int} {wds : List WD} (x : IsRid H ri m h wds) : Dp K H (.ref ri) (ridD m h wds) := by
  obtain ⟨wt, was, h1, h2, h3⟩ := x
  exact .tup (.inl (.inl h1)) (.cons (.int m) (.cons (.int h) (.cons (.tup (.inl (.inl h2)) (dpWishes h3)) .nil)))
end
/-! ### data of this kind is laid, shallow, light and shown -/
/-- a measure of data: laid, at most so deep, at most so heavy, ints short, no dict -/
structure Fine (d : PyData) (n w : Nat) : Prop where
  lay : d.canLay0 = true
  dep : d.depth ≤ n
  wei : d.weight ≤ w
  sho : d.showable = true
  noD : d.hasDict = false
  sh13 : d.intsShort 13 = true
structure FineAll (ds : List PyData) (n w : Nat) : Prop where
  lay : PyData.canLayAll0 ds = true
  dep : PyData.depthAll ds ≤ n
  wei : PyData.weightAll ds ≤ w
  sho : PyData.showableAll ds = true
  noD : PyData.hasDictAll ds = false
  sh13 : PyData.intsShortAll 13 ds = true
theorem FineAll.nil (n : Nat) : FineAll [] n 0 := ⟨rfl, Nat.zero_le _, Nat.le_refl _, rfl, rfl, rfl⟩
theorem FineAll.cons {d : PyData} {ds : List PyData} {n w u : Nat} (h : Fine d n w) (t : FineAll ds n u) : FineAll (d :: ds) n (w + 1 + u) := by
  refine ⟨?_, ?_, ?_, ?_, ?_, ?_⟩
  · simp only [PyData.canLayAll0, h.lay, t.lay, Bool.and_self]
  · have a := h.dep
    have b := t.dep
    simp only [PyData.depthAll]
    omega
  · have a := h.wei
    have b := t.wei
    simp only [PyData.weightAll]
    omega
  · simp only [PyData.showableAll, h.sho, t.sho, Bool.and_self]
  · simp only [PyData.hasDictAll, h.noD, t.noD, Bool.or_self]
  · simp only [PyData.intsShortAll, h.sh13, t.sh13, Bool.and_self]
theorem Fine.tuple {ds : List PyData} {n w : Nat} (t : FineAll ds n w) : Fine (.tuple ds) (n + 1) w := by
  refine ⟨by simp only [PyData.canLay0]; exact t.lay, ?_, by simp only [PyData.weight]; exact t.wei, by simp only [PyData.showable]; exact t.sho, by simp only [PyData.hasDict]; exact t.noD, by simp only [PyData.intsShort]; exact t.sh13⟩
  have a := t.dep
  simp only [PyData.depth]
  omega
theorem Fine.list {ds : List PyData} {n w : Nat} (t : FineAll ds n w) : Fine (.list ds) (n + 1) w := by
  refine ⟨by simp only [PyData.canLay0]; exact t.lay, ?_, by simp only [PyData.weight]; exact t.wei, by simp only [PyData.showable]; exact t.sho, by simp only [PyData.hasDict]; exact t.noD, by simp only [PyData.intsShort]; exact t.sh13⟩
  have a := t.dep
  simp only [PyData.depth]
  omega
theorem Fine.mono {d : PyData} {n w n' w' : Nat} (h : Fine d n w) (a : n ≤ n') (b : w ≤ w') : Fine d n' w' := ⟨h.lay, Nat.le_trans h.dep a, Nat.le_trans h.wei b, h.sho, h.noD, h.sh13⟩
theorem FineAll.mono {d : List PyData} {n w n' w' : Nat} (h : FineAll d n w) (a : n ≤ n') (b : w ≤ w') : FineAll d n' w' := ⟨h.lay, Nat.le_trans h.dep a, Nat.le_trans h.wei b, h.sho, h.noD, h.sh13⟩
theorem fineAll_map {α : Type} {f : α → PyData} {n w : Nat} : ∀ (l : List α), (∀ x ∈ l, Fine (f x) n w) → FineAll (l.map f) n (l.length * (w + 1))
  | [], _ => FineAll.nil n |>.mono (Nat.le_refl _) (Nat.zero_le _)
  | x :: r, h => by
    have t := fineAll_map r fun y hy => h y (List.mem_cons_of_mem _ hy)
    refine (FineAll.cons (h x List.mem_cons_self) t).mono (Nat.le_refl _) ?_
    rw [List.length_cons, Nat.succ_mul]
    omega
theorem fine_int {i : Int} (h0 : 0 ≤ i) (h1 : i < 64) : Fine (.int i) 1 7 := by
  obtain ⟨n, rfl⟩ : ∃ n : Nat, i = n := ⟨i.toNat, by omega⟩
  have hn : n < 64 := by omega
  have hl : n.log2 ≤ 5 := by
    by_cases e : n = 0
    · subst e; decide
    · have := (Nat.log2_lt e).mpr (show n < 2 ^ 6 by omega)
      omega
  refine ⟨rfl, by simp [PyData.depth], ?_, ?_, rfl, ?_⟩
  · simp only [PyData.weight]
    split
    · omega
    · have e : ((n : Int)).natAbs = n := by omega
      rw [e]
      omega
  · simp only [PyData.showable]
    have e : ((n : Int)).natAbs = n := by omega
    rw [e]
    exact decide_eq_true (by omega)
  · have all : ∀ m : Nat, m < 64 → PyData.intsShort 13 (.int (m : Int)) = true := by decide +kernel
    exact all n hn
theorem Fine.shaped {d : PyData} {n w : Nat} (h : Fine d n w) (hn : n ≤ 64) : SeqAt.shaped d = true := by
  show (d.canLay0 && decide (d.depth ≤ 64)) = true
  rw [h.lay, decide_eq_true (Nat.le_trans h.dep hn)]
  rfl
theorem Fine.shows {d : PyData} {n w : Nat} (h : Fine d n w) (hn : n ≤ 64) (hw : w ≤ 1048576) : d.shown.length ≤ sizeLine := by
  have l : d.layable0 = true := by
    show (d.canLay0 && decide (d.depth ≤ 64) && decide (d.weight ≤ 2 ^ 20)) = true
    rw [h.lay, decide_eq_true (Nat.le_trans h.dep hn), decide_eq_true (show d.weight ≤ 2 ^ 20 from Nat.le_trans h.wei (Nat.le_trans hw (by decide)))]
    rfl
  exact Nat.le_trans (shown_le13 l h.sh13) (by decide)
/-! ### equality of rows -/
theorem eqvAll_ints : ∀ a b : List Int, PyData.eqvAll (a.map .int) (b.map .int) = decide (a = b)
  | [], [] => by simp [PyData.eqvAll]
  | [], _ :: _ => by simp [PyData.eqvAll]
  | _ :: _, [] => by simp [PyData.eqvAll]
  | x :: r, y :: q => by
    simp only [List.map_cons, PyData.eqvAll, PyData.eqv, eqvAll_ints r q]
    by_cases h : x = y
    · subst h; simp
    · simp [h]
theorem eqv_row (a b : Row) : PyData.eqv (rowD a) (rowD b) = decide (a = b) := by
  unfold rowD
  rw [PyData.eqv]
  exact eqvAll_ints a b
theorem anyRows (r : Row) : ∀ rows : List Row, ((rows.map rowD).any fun z => PyData.eqv z (rowD r)) = decide (r ∈ rows)
  | [] => by simp
  | x :: q => by
    rw [List.map_cons, List.any_cons, anyRows r q, eqv_row]
    by_cases h : x = r
    · subst h; simp
    · have h2 : ¬ r = x := fun e => h e.symm
      simp [h, h2]
/-! ### what is broken -/
def atF (fs : List Int) (p : Int) : Int := fs.getD p.toNat 0
def huesA (fs ps : List Int) : List Int := ps.map (atF fs)
def brk (fs : List Int) (wd : WD) : Bool := decide (huesA fs wd.1 ∈ wd.2)
def brkAt (fs : List Int) (wds : List WD) (k : Nat) : Bool := match wds[k]? with
  | some wd => brk fs wd
  | none => false
def broL (fs : List Int) (wds : List WD) (i : Nat) : List Int := ((List.range i).filter (brkAt fs wds)).map fun (k : Nat) => (k : Int)
theorem brkAt_of {fs : List Int} {wds : List WD} {k : Nat} {wd : WD} (h : wds[k]? = some wd) : brkAt fs wds k = brk fs wd := by
  unfold brkAt
  rw [h]
theorem broL_yes {fs : List Int} {wds : List WD} {i : Nat} (h : brkAt fs wds i = true) : broL fs wds (i + 1) = broL fs wds i ++ [(i : Int)] := by
  unfold broL
  rw [List.range_succ, List.filter_append, List.map_append]
  simp [h]
theorem broL_no {fs : List Int} {wds : List WD} {i : Nat} (h : brkAt fs wds i = false) : broL fs wds (i + 1) = broL fs wds i := by
  unfold broL
  rw [List.range_succ, List.filter_append, List.map_append]
  simp [h]
theorem broL_len (fs : List Int) (wds : List WD) (i : Nat) : (broL fs wds i).length ≤ i := by
  unfold broL
  rw [List.length_map]
  have q := List.length_filter_le (brkAt fs wds) (List.range i)
  rw [List.length_range] at q
  exact q
theorem broL_mem {fs : List Int} {wds : List WD} {i : Nat} {z : Int} (h : z ∈ broL fs wds i) : 0 ≤ z ∧ z < i := by
  unfold broL at h
  obtain ⟨k, hk, rfl⟩ := List.mem_map.mp h
  have := List.mem_range.mp (List.mem_filter.mp hk).1
  omega
theorem at_some {fs : List Int} {many hues : Int} {p : Int} (h : GoodF many hues fs) (h0 : 0 ≤ p) (h1 : p < many) : fs[p.toNat]? = some (atF fs p) := by
  have hl := h.len
  have hp : p.toNat < fs.length := by omega
  unfold atF
  rw [List.getD_eq_getElem?_getD, List.getElem?_eq_getElem hp]
  rfl
theorem atI_fs {fs : List Int} {many hues : Int} {p : Int} (h : GoodF many hues fs) (h0 : 0 ≤ p) (h1 : p < many) : atI (fs.map V.int) p = some (.int (atF fs p)) := by
  have e : p = ((p.toNat : Nat) : Int) := by omega
  have g : (fs.map V.int)[p.toNat]? = some (.int (atF fs p)) := by rw [List.getElem?_map, at_some h h0 h1]; rfl
  rw [e]
  rw [← e]
  have q := atI_nat g
  rw [← e] at q
  exact q
/-! ### riddles are fine data -/
theorem fine_row {r : Row} (h : ∀ z ∈ r, 0 ≤ z ∧ z < 64) (hl : r.length ≤ 8) : Fine (rowD r) 2 64 :=
  (Fine.tuple (fineAll_map r fun z hz => fine_int (h z hz).1 (h z hz).2)).mono (by omega) (by omega)
theorem fine_wish {many hues : Int} {wd : WD} (g : Good many hues wd) (hm : many ≤ 6) (hh : hues ≤ 4) : Fine (wishD wd) 4 5000 := by
  have a : Fine (rowD wd.1) 2 64 := fine_row (fun z hz => ⟨(g.pl z hz).1, by have := (g.pl z hz).2; omega⟩) (by have := g.three; omega)
  have b : Fine (.tuple (wd.2.map rowD)) 3 4200 := by
    refine (Fine.tuple (fineAll_map wd.2 fun r hr => fine_row (fun z hz => ⟨((g.row r hr).2 z hz).1, by have := ((g.row r hr).2 z hz).2; omega⟩) (by have := (g.row r hr).1; have := g.three; omega))).mono (Nat.le_refl _) ?_
    have := g.few
    omega
  exact (Fine.tuple (FineAll.cons (a.mono (by omega) (Nat.le_refl _)) (FineAll.cons b (FineAll.nil _)))).mono (Nat.le_refl _) (by omega)
theorem fine_rid {many hues : Int} {wds : List WD} (g : GoodR many hues wds) : Fine (ridD many hues wds) 6 50000 := by
  have c : Fine (.tuple (wds.map wishD)) 5 40100 := by
    refine (Fine.tuple (fineAll_map wds fun wd hw => fine_wish (g.each wd hw) g.m6 g.h4)).mono (Nat.le_refl _) ?_
    have := g.eight
    omega
  have m := fine_int (i := many) (by have := g.m1; omega) (by have := g.m6; omega)
  have h := fine_int (i := hues) (by have := g.h2; omega) (by have := g.h4; omega)
  exact (Fine.tuple (FineAll.cons (m.mono (by omega) (Nat.le_refl _)) (FineAll.cons (h.mono (by omega) (Nat.le_refl _)) (FineAll.cons c (FineAll.nil _))))).mono (Nat.le_refl _) (by omega)
theorem fine_fill {many hues : Int} {fs : List Int} (g : GoodF many hues fs) (hm : many ≤ 6) (hh : hues ≤ 4) : Fine (rowD fs) 2 64 :=
  fine_row (fun z hz => ⟨(g.hue z hz).1, by have := (g.hue z hz).2; omega⟩) (by have := g.len; omega)
theorem fine_bro (fs : List Int) (wds : List WD) {i : Nat} (h : i ≤ 8) : Fine (.list ((broL fs wds i).map .int)) 2 64 := by
  refine (Fine.list (fineAll_map (broL fs wds i) fun z hz => fine_int (broL_mem hz).1 (by have := (broL_mem hz).2; omega))).mono (by omega) ?_
  have := broL_len fs wds i
  omega
end Dt

set_option Elab.async false
set_option linter.all false
set_option maxRecDepth 100000
set_option maxHeartbeats 4000000
/-! sorted(xs) of tuples of small ints, any number of them -/
namespace Tt
open PySem PySem.Spec PyProof.Rows L2
def rk (h : Heap) (B : Int) (v : Value) : Int := TS.code B (TS.intsOf h v)
theorem swo_rk (f : Value → Int) : SrtO.Swo fun v u => decide (f v < f u) := by
  refine ⟨fun x y h => ?_, fun x y z h1 h2 => ?_⟩
  · have a := of_decide_eq_true h
    exact decide_eq_false (by omega)
  · have a := of_decide_eq_false h1
    have b := of_decide_eq_false h2
    exact decide_eq_false (by omega)
section
variable {prog : Program} {w : World} {A : Around} {E : Value → Shared → Prop} {s : Shared}
theorem cmp_tups {d : Nat} {B : Int} {vs : List Value} (x : TS.TupsOk s.heap d B vs) (r : Value → Int) (hr : ∀ v, v ∈ vs → ∀ ns, TS.TupInts s.heap v ns → r v = TS.code B ns) :
    SrtO.Cmp prog w A s (tuples' true) (fun p => p.1 ∈ vs) (SrtO.lt2 fun v u => decide (r v < r u)) := by
  intro p q hp hq
  obtain ⟨ns, tp, lp, bp⟩ := x _ hp
  obtain ⟨ms, tq, lq, bq⟩ := x _ hq
  show wpAny (model prog w) A (keyLt' (tuples' true) p.1 q.1) (fun b s' => s' = s ∧ b = decide (r p.1 < r q.1)) (fun _ _ => False) s
  rw [hr _ hp _ tp, hr _ hq _ tq]
  obtain ⟨a, xs, e1, ⟨o, ho, hc, n, hdt⟩, i⟩ := tp
  obtain ⟨a', ys, e2, ⟨o', ho', hc', n', hdt'⟩, i'⟩ := tq
  rw [e1, e2]
  refine PySem.W.kat_lt ho hdt ho' hdt' ?_
  have l1 := i.length
  have l2 := i'.length
  rw [Array.length_toList] at l1 l2
  rw [show decide (xs.size < ys.size) = false from decide_eq_false (by omega)]
  exact TS.lex_ints 0 i i' (by omega) bp bq ⟨rfl, rfl⟩
theorem sortable {a : Addr} {d : Nat} {B : Int} {vs : List Value} (hd : 1 ≤ d) (h2 : 2 ≤ vs.length) (x : TS.TupsOk s.heap d B vs) (ha : ∀ o, s.heap.get? a = some o → o.cls ≠ .type "tuple") (r : Value → Int) (hr : ∀ v, v ∈ vs → ∀ ns, TS.TupInts s.heap v ns → r v = TS.code B ns) :
    SrtO.SortableO prog w A s a vs fun v u => decide (r v < r u) := by
  intro h' keep
  have k2 : ∀ b o, s.heap.get? b = some o → o.cls = .type "tuple" → h'.get? b = some o := fun b o e c => keep b o (fun z => by subst z; exact ha o e c) e
  have x' := x.keeps k2
  obtain ⟨fs, kt, hl, hi⟩ := TS.firsts_of hd vs x'
  refine ⟨tuples' true, fun Q E hq => ?_, cmp_tups (s := { s with heap := h' }) x' r fun v hv ns t => ?_⟩
  · refine PySem.W.kat_kind (T := .type "int") kt (by omega) (fun f hm => ?_) (by rfl) ?_
    · obtain ⟨n, t, rfl⟩ := hi f hm
      exact PySem.W.Looks.of_pure rfl
    · rw [show (Value.type "int" != Value.type "tuple") = true by decide +kernel]
      exact hq
  · obtain ⟨n0, t0, _⟩ := x v hv
    rw [show ns = n0 from t.ints.symm.trans (t0.keeps k2).ints]
    exact hr v hv n0 t0
end
/-- sorted(xs): ts the tuples' places, k what stands at each -/
def rSortedT (K : PySem.W.Frag) : List V → Hp → VK → Prop := fun vs H Q => ∃ (a : Addr) (ts : List Addr) (k : Addr → List Int) (d : Nat) (B : Int), vs = [.ref a] ∧ SqL K H a (ts.map V.ref) ∧ 1 ≤ d ∧ (∀ t ∈ ts, H t = some (.tup ((k t).map V.int)) ∧ (k t).length = d ∧ TS.Bd B (k t)) ∧
  ∀ (ts' : List Addr) (p : Addr), ts'.Perm ts → ts'.Pairwise (fun u v => TS.code B (k u) ≤ TS.code B (k v)) → H p = none → Q (.ref p) (upd H p (.lst (ts'.map V.ref)))
theorem vals_refs : ∀ {ts : List Addr} {us : List Value}, Vals (ts.map V.ref) us → us = ts.map Value.ref
  | [], _, .nil => rfl
  | t :: r, _, .cons h q => by
    cases h
    rw [vals_refs q]
    rfl
theorem refs_vals : ∀ ts : List Addr, Vals (ts.map V.ref) (ts.map Value.ref)
  | [] => .nil
  | t :: r => .cons rfl (refs_vals r)
theorem cr_sortedT {X : Cx} : CallR X (.builtin "sorted") (rSortedT X.K) := by
  intro pins s σ H vs us Q I r h
  obtain ⟨a, ts, k, d, B, rfl, hs, hd, ht, q⟩ := h
  obtain ⟨its, rv, hl, hz⟩ := I.list hs
  obtain ⟨u, rfl, ru⟩ := vals1 r
  cases (show u = Value.ref a from ru)
  obtain rfl := vals_refs rv
  have tup : ∀ t ∈ ts, TS.TupInts s.heap (.ref t) (k t) := fun t hm => by
    obtain ⟨_, its, rr, hT⟩ := I.hok t _ (ht t hm).1
    exact ⟨t, its.toArray, rfl, hT, by simpa using rr.ints⟩
  have ok : TS.TupsOk s.heap d B (ts.map Value.ref) := fun v hv => by
    obtain ⟨t, hm, rfl⟩ := List.mem_map.mp hv
    exact ⟨k t, tup t hm, (ht t hm).2.1, (ht t hm).2.2⟩
  have rk_at : ∀ v ∈ ts.map Value.ref, ∀ ns, TS.TupInts s.heap v ns → rk s.heap B v = TS.code B ns := fun v _ ns t => by
    unfold rk
    rw [t.ints]
  refine SrtO.sorted_ord (swo_rk (rk s.heap B)) hl.isList (by rw [← rv.length]; exact hz) (fun h2 h₁ a' ha' kk => ?_) fun out so sb => ?_
  · have keep : ∀ b o, s.heap.get? b = some o → o.cls = .type "tuple" → h₁.get? b = some o := fun b o e _ => (kk b o e).2
    refine sortable (s := { s with heap := h₁ }) hd h2 (ok.keeps keep) (fun o e c => ?_) (rk s.heap B) fun v hv ns t => ?_
    · have e' := Option.some.inj (e.symm.trans ha')
      rw [e'] at c
      exact absurd (Value.type.inj c) (by decide)
    · obtain ⟨n0, t0, _⟩ := ok v hv
      rw [show ns = n0 from t.ints.symm.trans (t0.keeps keep).ints]
      exact rk_at v hv n0 t0
  · obtain ⟨ep, he⟩ := PyProof.Rows.sortedAll_at s.heap (ts.map Value.ref) out.toArray
    have pm := sb.perm
    obtain ⟨ts', rfl, pt⟩ : ∃ ts' : List Addr, out = ts'.map Value.ref ∧ ts'.Perm ts := by
      have back : ∀ v ∈ out, ∃ t, v = Value.ref t := fun v hv => by
        obtain ⟨t, _, e⟩ := List.mem_map.mp (pm.mem_iff.mp hv)
        exact ⟨t, e.symm⟩
      have g : ∀ l : List Value, (∀ v ∈ l, ∃ t, v = Value.ref t) → ∃ m : List Addr, l = m.map Value.ref := by
        intro l
        induction l with
        | nil => intro _; exact ⟨[], rfl⟩
        | cons v r ih =>
          intro hv
          obtain ⟨t, rfl⟩ := hv v List.mem_cons_self
          obtain ⟨m, rfl⟩ := ih fun z hz => hv z (List.mem_cons_of_mem _ hz)
          exact ⟨t :: m, rfl⟩
      obtain ⟨m, rfl⟩ := g out back
      let f : Value → Addr := fun v => match v with | .ref t => t | _ => 0
      have q2 := pm.map f
      rw [List.map_map, List.map_map] at q2
      have e1 : (f ∘ Value.ref) = id := by funext z; rfl
      rw [e1, List.map_id, List.map_id] at q2
      exact ⟨m, rfl, q2⟩
    refine ⟨.ref (s.heap.objs.size + 1), _, I.laid (t' := s.toks) (o := .lst (ts'.map V.ref)) (fun _ _ => PyProof.Rows.sortedAll_old) (Nat.le_succ _) ⟨?_, ts'.map Value.ref, ep, refs_vals ts', he⟩, rfl, q ts' _ pt ?_ (I.hok.fresh (Nat.le_succ _))⟩
    · rw [List.length_map, pt.length_eq]
      rw [List.length_map] at hz
      exact hz
    · have so2 := List.pairwise_map.mp so
      refine List.Pairwise.imp_of_mem (fun {x y} hx hy h => ?_) so2
      have h2 := of_decide_eq_false h
      unfold rk at h2
      rw [(tup x (pt.mem_iff.mp hx)).ints, (tup y (pt.mem_iff.mp hy)).ints] at h2
      omega
end Tt

set_option Elab.async false
set_option linter.all false
set_option maxRecDepth 100000
set_option maxHeartbeats 4000000
/-! the law's own call: tables of code objects tracked, and no repr under way around it -/
namespace Lg
open PySem PySem.Spec PyProof.Rows L2
/-- the def's body, run where A stands -/
theorem run_at {P : Program} {w : World} {K : PySem.W.Frag} {mg : Str → Option Value} {base : Heap} {k : Nat} {f : Addr} {x qual : Str} {st : Stmt} {fd : FuncData} {N ps : List Str} {A : Around} {outer : List Env} {s : Shared} {H : Hp} {args : Args} {us : List Value} {vs : List V} {Q : VK} {E : XK}
    (F : Fun K x qual st f fd) (S : FnScope N ps (defScope st)) (hr : Room (k + 1) A) (e0 : Env0 P w K mg base A outer s H) (hb : BindsTo s fd args (ps.zip us)) (r : Vals vs us) (hl : vs.length = ps.length)
    (body : ∀ cdv : Value, Room k (A.deeper (envOfC qual (defScope st) s.heap.objs.size f cdv)) → ∃ t, PSs (cxOf CX0 P w K mg base N qual (defScope st) f cdv A outer s H E).nox (defBody st) t ∧ t { nx := fun _ H' => Q .non H', rt := Q } (start N vs) H) :
    codeAny (model P w) A (.call (.ref f) args) (CR CX0 outer P w H s Q E) s := by
  obtain ⟨oc, od, kV, doc, pm, an, cdv, ct, osl, rfl, lk, hcd⟩ := F.ex
  have old : ∀ b o, base.get? b = some o → s.heap.get? b = some o := fun b o e => (e0.bs b o e).1
  have KX := e0.mod.kin.keeps old
  have lim := e0.mod.nolimit.keeps old
  obtain ⟨t, pt, ht⟩ := body cdv (hr.deeper _)
  refine codeAny_call_function hr.depth (KX _ _ lk) rfl S.co S.gen rfl (PySem.W.codeRec_of KX hcd) (hb _ _ _ _ (wpAny_newFunctionEnv_cells S.kind (fun y hy => ?_) fun env he s1 ic => ?_))
  · rcases S.par y.1 (List.of_mem_zip (show (y.1, y.2) ∈ ps.zip us from hy)).1 with z | z
    · exact .inl z
    · exact .inr ⟨z, PySem.W.cellsFrom_some _ _ _ (.inl z)⟩
  · subst he
    refine ⟨lim.keeps ic.toInCall.keep, codeAny_func (wpAny_mono (pt.nox.run [] s1 (start N vs) H _ (inv_start S hr.hd e0 hl r ic) ht) (fun fl s' q => ?_) fun _ _ q => q)⟩
    cases fl with
    | ret u => obtain ⟨v, σ', H', J, rv, q⟩ := q; exact ⟨v, H', J.os, J.bare, J.base, J.hok, rv, q⟩
    | next => obtain ⟨σ', H', J, q⟩ := q; exact ⟨.non, H', J.os, J.bare, J.base, J.hok, rfl, q⟩
    | brk => obtain ⟨_, _, _, q⟩ := q; exact q.elim
    | cont => obtain ⟨_, _, _, q⟩ := q; exact q.elim
/-- the abstract heap at the law's call: the tables, and the script where the top didn't write it -/
def H0 (K : PySem.W.Frag) (T : List Addr) (a : Addr) (o : Obj) (xs : List V) : Hp := fun b => if b ∈ T then some (.tbl #[]) else if b = a ∧ K.lookup a = none then some (.frz o (.lst xs)) else none
theorem H0_three (K : PySem.W.Frag) (T : List Addr) (a : Addr) (o : Obj) (xs : List V) (b : Addr) : (b ∈ T ∧ H0 K T a o xs b = some (.tbl #[])) ∨ (b = a ∧ K.lookup a = none ∧ H0 K T a o xs b = some (.frz o (.lst xs))) ∨ (H0 K T a o xs b = none ∧ b ∉ T) := by
  unfold H0
  by_cases h : b ∈ T
  · exact .inl ⟨h, if_pos h⟩
  · by_cases h2 : b = a ∧ K.lookup a = none
    · exact .inr (.inl ⟨h2.1, h2.2, by rw [if_neg h, if_pos h2]⟩)
    · exact .inr (.inr ⟨by rw [if_neg h, if_neg h2], h⟩)
theorem law_at {P : Program} {w : World} {K : PySem.W.Frag} {mg mb : Str → Option Value} {k : Nat} {fa a : Addr} {cs : List (Addr × Addr)} {x qual : Str} {st : Stmt} {fd : FuncData} {N : List Str} {par : Str} {s : Shared} {vs : List Value} {ns : List Int}
    (KX : K.In s.heap) (hns : s.heap.Ns mainGlobals mg) (hbl : s.heap.Ns builtinsNs mb) (hbb : ∀ x : Str, x ≠ "__name__" → mb x = bootBuiltins x) (hlim : s.heap.NoLimit) (hg : s.gens = #[])
    (hT : ∀ p ∈ cs, s.heap.get? p.2 = some { cls := .none, data := .fields #[] }) (nT : ∀ p ∈ cs, K.lookup p.2 = none) (hC : ∀ p ∈ cs, PySem.W.CodeHd s.heap p.1 p.2)
    (hbm : ∃ (bm : Addr) (ob : Obj), mg "__builtins__" = some (.ref bm) ∧ bm ≠ builtinsNs ∧ s.heap.get? bm = some ob ∧ ob.cls = .type "module" ∧ ob.dict = some builtinsNs ∧ ob.data = .plain)
    (ha : s.heap.get? a = some { cls := .type "list", data := .seq vs.toArray }) (hi : IntsAre vs ns) (hlen : ns.length ≤ sizeLine) (hr : Room (k + 1) callerA)
    (F : Fun K x qual st fa fd) (S : FnScope N [par] (defScope st)) (hb : ∀ (s : Shared) (u : Value), BindsTo s fd ⟨[u], []⟩ [(par, u)])
    (body : ∀ (base : Heap) (H : Hp) (cdv : Value), K.In base → base.Ns mainGlobals mg → (∀ p ∈ cs, GxR.TabB base mg p.1 p.2) → (∀ p ∈ cs, H p.2 = some (.tbl #[])) → SqL K H a (ns.map V.int) → Room k (callerA.deeper (envOfC qual (defScope st) s.heap.objs.size fa cdv)) →
      ∃ t, PSs (cxOf CX0 P w K mg base N qual (defScope st) fa cdv callerA [] s H (fun _ _ _ => False)).nox (defBody st) t ∧ t { nx := fun _ _ => False, rt := fun v _ => v = .bl true } (start N [.ref a]) H) :
    codeAny (model P w) callerA (.call (.ref fa) ⟨[.ref a], []⟩) (fun r s' => r = .ok (.ret (.bool true)) ∧ OldK s.heap s'.heap ∧ s'.os = s.os ∧ AllBare s'.gens) s := by
  have rv := vals_ints hi
  have lv := hi.length
  generalize hso : ({ cls := .type "list", data := .seq vs.toArray } : Obj) = so at ha
  have inT : ∀ b, b ∈ cs.map (·.2) → s.heap.get? b = some { cls := .none, data := .fields #[] } ∧ K.lookup b = none := fun b h => by
    obtain ⟨p, hp, rfl⟩ := List.mem_map.mp h
    exact ⟨hT p hp, nT p hp⟩
  generalize hH : H0 K (cs.map (·.2)) a so (ns.map V.int) = H
  have three := H0_three K (cs.map (·.2)) a so (ns.map V.int)
  rw [hH] at three
  -- an object of another kind isn't tracked
  have clean : ∀ b o, s.heap.get? b = some o → o.data ≠ .fields #[] → (∀ v n, o.data ≠ .seq v n) → H b = none := fun b o e h1 h2 => by
    rcases three b with ⟨z, _⟩ | ⟨z, _, _⟩ | ⟨z, _⟩
    · rw [(inT b z).1] at e; cases e; exact absurd rfl h1
    · rw [z, ha, ← hso] at e; cases e; exact absurd rfl (h2 _ _)
    · exact z
  have low : ∀ b o, s.heap.get? b = some o → o.data ≠ .fields #[] → (∀ v n, o.data ≠ .seq v n) → (hidT s.heap H).get? b = some o := fun b o e h1 h2 => hidT_get e (clean b o e h1 h2)
  have lowNs : ∀ b m, s.heap.Ns b m → (hidT s.heap H).Ns b m := fun b m ⟨o, es, ep, e, d, q⟩ => ⟨o, es, ep, low b o e (by rw [d]; exact fun z => nomatch z) (by rw [d]; exact fun _ _ z => nomatch z), d, q⟩
  have kb : K.In (hidT s.heap H) := fun b o e => hidT_get (KX b o e) (by
    rcases three b with ⟨z, _⟩ | ⟨z, q, _⟩ | ⟨z, _⟩
    · rw [(inT b z).2] at e; cases e
    · rw [z, q] at e; cases e
    · exact z)
  have hok : HOk P w H s.heap := fun b u e => by
    rcases three b with ⟨z, q⟩ | ⟨z, _, q⟩ | ⟨q, _⟩
    · rw [e] at q; cases q; exact (inT b z).1
    · rw [e] at q; cases q; rw [z]; exact ⟨ha, by rw [List.length_map]; exact hlen, vs, 0, rv, by rw [ha, ← hso]⟩
    · rw [e] at q; cases q
  have tb : ∀ p ∈ cs, GxR.TabB (hidT s.heap H) mg p.1 p.2 := fun p hp => by
    refine ⟨?_, ?_, fun z => ?_⟩
    · obtain ⟨o, us, fl, t1, fg, t2, b1, tx, t3, e1, e2, e3, e4, rest⟩ := hC p hp
      exact ⟨o, us, fl, t1, fg, t2, b1, tx, t3, low _ _ e1 (by rw [e3]; intro z; cases z; simp at e4) (by rw [e3]; exact fun _ _ z => nomatch z), e2, e3, e4, rest⟩
    · obtain ⟨bm, ob, m1, m2, m3, m4, m5, m6⟩ := hbm
      refine ⟨bm, ob, m1, m2, fun z => ?_, fun z => ?_, low _ _ m3 (by rw [m6]; exact fun z => nomatch z) (by rw [m6]; exact fun _ _ z => nomatch z), m4, m5, m6⟩
      · obtain ⟨o, es, ep, e, d, _⟩ := hns
        rw [z, e] at m3; cases m3; rw [d] at m6; cases m6
      · rw [z, hT p hp] at m3; cases m3; cases m6
    · obtain ⟨o, es, ep, e, d, _⟩ := hns
      rw [z, hT p hp] at e; cases e; cases d
  have tabH : ∀ p ∈ cs, H p.2 = some (.tbl #[]) := fun p hp => by
    have hm : p.2 ∈ cs.map (·.2) := List.mem_map.mpr ⟨p, hp, rfl⟩
    rcases three p.2 with ⟨_, q⟩ | ⟨z, _, _⟩ | ⟨_, q⟩
    · exact q
    · have e := (inT _ hm).1
      rw [z, ha, ← hso] at e; cases e
    · exact absurd hm q
  have hS : SqL K H a (ns.map V.int) := by
    rcases three a with ⟨z, _⟩ | ⟨_, _, q⟩ | ⟨q, nt⟩
    · have e := (inT a z).1
      rw [ha, ← hso] at e; cases e
    · exact .inl (.inr ⟨so, q⟩)
    · cases e : K.lookup a with
      | none => rw [← hH] at q; unfold H0 at q; rw [if_neg nt, if_pos ⟨rfl, e⟩] at q; cases q
      | some o =>
        have e2 := KX a o e
        rw [ha, ← hso] at e2; cases e2
        exact .inr ⟨_, vs.toArray, _, e, rfl, rfl, rfl, by rw [List.size_toArray, lv]; exact hlen, by simpa using rv⟩
  have e0 : Env0 P w K mg (hidT s.heap H) callerA [] s H := ⟨rfl, ⟨kb, lowNs _ _ hns, ⟨mb, lowNs _ _ hbl, hbb⟩, let ⟨mc, q1, q2⟩ := hlim; ⟨mc, lowNs _ _ q1, q2⟩⟩, fun b o e => of_hidT e, Nat.le_of_eq (hidT_size _ _), trivial, (fun b z => nomatch z), hok, .of_eq hg⟩
  refine codeAny_mono (run_at (vs := [.ref a]) (us := [.ref a]) (Q := fun v _ => v = .bl true) (E := fun _ _ _ => False) F S hr e0 (hb s (.ref a)) (.cons rfl .nil) rfl fun cdv hrm => ?_) fun r s' h => ?_
  · obtain ⟨t, p1, p2⟩ := body _ H cdv kb (lowNs _ _ hns) tb tabH hS hrm
    refine ⟨t, p1, ?_⟩
    have e : (fun (_ : L2.St) (H' : Hp) => (fun (v : V) (_ : Hp) => v = V.bl true) V.non H') = fun _ _ => False := by
      funext _ _
      exact propext ⟨(fun z => nomatch z), fun z => z.elim⟩
    rw [e]
    exact p2
  · match r, h with
    | .ok (.ret u), h =>
      obtain ⟨v, H', os, bare, un, hok', r', q⟩ := h
      obtain rfl : v = .bl true := q
      obtain rfl : u = Value.bool true := r'
      have grown : ∀ p ∈ cs, ∃ more : Array Value, s'.heap.get? p.2 = some { cls := .none, data := .fields more } := fun p hp => by
        obtain ⟨more, z⟩ := un.tbls p.2 #[] (tabH p hp)
        exact ⟨_, hok' p.2 _ z⟩
      have kept : ∀ b o, b ∉ cs.map (·.2) → s.heap.get? b = some o → s'.heap.get? b = some o := fun b o nb e => by
        rcases three b with ⟨z, _⟩ | ⟨z, _, q⟩ | ⟨q, _⟩
        · exact absurd z nb
        · have z2 := hok' b _ (un.frzs b so _ q)
          rw [z, ha] at e
          cases e
          exact z2.1
        · exact un.keep b o e q (by intro z; cases z) (by intro z; cases z)
      refine ⟨rfl, ⟨fun b o e => ?_, fun b o e => ?_⟩, os, bare⟩
      · by_cases hm : b ∈ cs.map (·.2)
        · obtain ⟨p, hp, rfl⟩ := List.mem_map.mp hm
          obtain ⟨more, z⟩ := grown p hp
          rw [hT p hp] at e
          cases e
          exact .inr (.inl ⟨((hC p hp).tab (hT p hp)).isCodeTable, rfl, #[], more, rfl, by rw [Array.empty_append]; exact z⟩)
        · exact .inl (kept b o hm e)
      · by_cases hm : b ∈ cs.map (·.2)
        · obtain ⟨p, hp, rfl⟩ := List.mem_map.mp hm
          obtain ⟨more, z⟩ := grown p hp
          exact ⟨_, z⟩
        · exact ⟨o, kept b o hm e⟩
/-! ### repr of data -/
/-- repr(x), x data -/
theorem call_repr {X : Cx} (hg : X.A.guards = some []) (hu : X.A.units + 64 < cLine) : CallR X (.builtin "repr") (fun xs H Q => ∃ (a : Addr) (d : PyData), xs = [.ref a] ∧ Dp X.K H (.ref a) d ∧ d.showable = true ∧ d.hasDict = false ∧ d.depth < 63 ∧ d.shown.length ≤ sizeLine ∧ Q (.str d.shown) H) := by
  intro pins s σ H xs us Q I r h
  obtain ⟨a, d, rfl, hd, h1, h2, h3, h4, q⟩ := h
  obtain ⟨u, rfl, ru⟩ := vals1 r
  obtain ⟨as, rd⟩ := Dp.reads I d _ u hd ru
  cases (show u = Value.ref a from ru)
  refine repr_of_reads' rd h1 (fun e => by rw [h2] at e; cases e) hg (by omega) (fun _ _ e => e) (fun h' u tk hk => ?_) h4
  exact ⟨.str d.shown, H, I.kept (t' := _) hk, ⟨_, rfl⟩, q⟩
end Lg

set_option Elab.async false
set_option linter.all false
set_option maxRecDepth 100000
set_option maxHeartbeats 4000000
namespace Lg
open PySem PySem.Spec PyProof.Rows L2
/-- the code object and the table of the def named x -/
def TabOf (mg : Str → Option Value) (h : Heap) (x : Str) (p : Addr × Addr) : Prop :=
  ∃ (a : Addr) (o : Obj) (fd : FuncData), mg x = some (.ref a) ∧ h.get? a = some o ∧ o.data = .func fd ∧ fd.code = .ref p.1 ∧ PySem.W.CodeHd h p.1 p.2 ∧ h.get? p.2 = some { cls := .none, data := .fields #[] }
theorem TabOf.code {K : PySem.W.Frag} {mg : Str → Option Value} {h : Heap} {x : Str} {p : Addr × Addr} {f : Addr} {cl : Value} {dd : Option Addr} {fd : FuncData} {sl : Array (Option Value)} (T : TabOf mg h x p) (X : K.In h) (hf : mg x = some (.ref f)) (l : K.lookup f = some ⟨cl, dd, .func fd, sl⟩) : fd.code = .ref p.1 := by
  obtain ⟨a, o, fd', h1, h2, h3, h4, _⟩ := T
  rw [hf] at h1
  cases h1
  rw [X _ _ l] at h2
  cases h2
  cases h3
  exact h4
theorem no_tab {K : PySem.W.Frag} {h : Heap} {P : Addr} (X : K.In h) (hK : PySem.W.noTabs K = true) (e : h.get? P = some { cls := .none, data := .fields #[] }) : K.lookup P = none := by
  cases z : K.lookup P with
  | none => rfl
  | some o =>
    have z2 := X _ _ z
    rw [e] at z2
    cases z2
    exact absurd (show false = true from List.all_eq_true.mp hK (P, _) (PySem.W.mem_of_lookupK z)) Bool.false_ne_true
theorem walk_of {l : PySem.W.OpenLaw} {n k : Nat} {q : Program} {loose : List Str} {XP : (Str → Option Value) → Heap → Prop} {YP : World → Heap → Prop} {d : DefRec} {K : Params → PySem.W.Frag} {x qual par : Str} {st : Stmt} {N : List Str} (names : List Str)
    (hn : l.most = some n) (hn2 : n ≤ sizeLine) (hdf : d.params.defaults = []) (hr : Room (k + 1) callerA) (hrec : (names.all fun y => (recsOf q).any fun e => e.name == y) = true) (hK : ∀ w : World, PySem.W.noTabs (K w.params) = true) (hY : ∀ (w : World) (h : Heap), YP w h → (K w.params).In h) (S : FnScope N [par] (defScope st))
    (F : ∀ (w : World) (mg : Str → Option Value) (fa : Addr) (h : Heap) (tb : Str → Addr × Addr), (K w.params).In h → h.Ns mainGlobals mg → mg d.name = some (.ref fa) → (∀ y ∈ names, TabOf mg h y (tb y)) →
      ∃ fd : FuncData, Fun (K w.params) x qual st fa fd ∧ (∀ (s : Shared) (u : Value), BindsTo s fd ⟨[u], []⟩ [(par, u)]) ∧ ∀ (base : Heap) (H : Hp) (cdv : Value) (a : Addr) (ns : List Int) (s : Shared), (K w.params).In base → base.Ns mainGlobals mg → (∀ y ∈ names, GxR.TabB base mg (tb y).1 (tb y).2) → (∀ y ∈ names, H (tb y).2 = some (.tbl #[])) → ns.length ≤ n → (∀ z ∈ ns, Builtin.Int.intBits z ≤ 1048576) → SqL (K w.params) H a (ns.map V.int) → Room k (callerA.deeper (envOfC qual (defScope st) s.heap.objs.size fa cdv)) →
        ∃ t, PSs (cxOf CX0 l.prog w (K w.params) mg base N qual (defScope st) fa cdv callerA [] s H (fun _ _ _ => False)).nox (defBody st) t ∧ t { nx := fun _ _ => False, rt := fun v _ => v = .bl true } (start N [.ref a]) H) :
    PySem.W.WalkO q loose XP YP l.row.toRowW d [] (fun f vs => PySem.call f vs) := by
  refine Att.attach_callB hn hdf fun w s₀ s₁ mg mb fa o pm cd doc a vs ns G Y ho hd hcd hmg hobj hints hlen hbits hg => ?_
  have KX := hY w _ Y
  have ex : ∀ y : Str, ∃ p : Addr × Addr, y ∈ names → TabOf mg s₁.heap y p := fun y => by
    by_cases hy : y ∈ names
    · obtain ⟨dL, hm, hn1⟩ := List.any_eq_true.mp (List.all_eq_true.mp hrec y hy)
      have hn2 : dL.name = y := beq_iff_eq.mp hn1
      obtain ⟨a', o', fd', c', P', h1, h2, h3, h4, h5, h6⟩ := G.T.tab dL hm
      rw [hn2] at h1
      exact ⟨(c', P'), fun _ => ⟨a', o', fd', h1, h2, h3, h4, PySem.W.CodeHd.of h5 h6, h6.2⟩⟩
    · exact ⟨(0, 0), fun z => absurd z hy⟩
  have tbx : ∃ tb : Str → Addr × Addr, ∀ y ∈ names, TabOf mg s₁.heap y (tb y) := ⟨fun y => Classical.choose (ex y), fun y => Classical.choose_spec (ex y)⟩
  obtain ⟨tb, ht⟩ := tbx
  obtain ⟨fd, hF, hb, body⟩ := F w mg fa _ tb KX G.T.g hmg ht
  have cm : ∀ p ∈ names.map tb, ∃ y ∈ names, tb y = p := fun p hp => List.mem_map.mp hp
  refine law_at (cs := names.map tb) KX G.T.g G.T.b G.T.builtins G.T.nolimit hg (fun p hp => ?_) (fun p hp => ?_) (fun p hp => ?_) G.T.bmain hobj hints (Nat.le_trans hlen hn2) hr hF S hb fun base H cdv kb gn tB tH hS hrm => body base H cdv a ns s₁ kb gn (fun y hy => tB _ (List.mem_map_of_mem hy)) (fun y hy => tH _ (List.mem_map_of_mem hy)) hlen hbits hS hrm
  · obtain ⟨y, hy, rfl⟩ := cm p hp
    obtain ⟨_, _, _, _, _, _, _, _, z⟩ := ht y hy
    exact z
  · obtain ⟨y, hy, rfl⟩ := cm p hp
    obtain ⟨_, _, _, _, _, _, _, _, z⟩ := ht y hy
    exact no_tab KX (hK w) z
  · obtain ⟨y, hy, rfl⟩ := cm p hp
    obtain ⟨_, _, _, _, _, _, _, z, _⟩ := ht y hy
    exact z
end Lg

set_option Elab.async false
set_option linter.all false
set_option maxRecDepth 100000
set_option maxHeartbeats 4000000
/-! fillings, counts, clashes: the data -/
namespace Dt
open PySem PySem.Spec PyProof.Rows L2
def longer (hues : Nat) (f : List Int) : List (List Int) := (List.range hues).map fun (h : Nat) => f ++ [(h : Int)]
def fillL (hues : Nat) : Nat → List (List Int)
  | 0 => [[]]
  | n + 1 => (fillL hues n).flatMap (longer hues)
theorem fill_good {hues : Nat} : ∀ {n : Nat} {f : List Int}, f ∈ fillL hues n → f.length = n ∧ ∀ h ∈ f, 0 ≤ h ∧ h < (hues : Int)
  | 0, f, h => by
    cases List.mem_singleton.mp h
    exact ⟨rfl, fun _ z => nomatch z⟩
  | n + 1, f, h => by
    obtain ⟨g, hg, hf⟩ := List.mem_flatMap.mp h
    obtain ⟨k, hk, rfl⟩ := List.mem_map.mp hf
    obtain ⟨l, a⟩ := fill_good hg
    have hk := List.mem_range.mp hk
    refine ⟨by simp [l], fun z hz => ?_⟩
    rcases List.mem_append.mp hz with q | q
    · exact a z q
    · cases List.mem_singleton.mp q
      omega
theorem longer_len (hues : Nat) (f : List Int) : (longer hues f).length = hues := by simp [longer]
theorem flat_len {hues : Nat} : ∀ l : List (List Int), (l.flatMap (longer hues)).length = l.length * hues
  | [] => by simp
  | f :: r => by rw [List.flatMap_cons, List.length_append, longer_len, flat_len r, List.length_cons, Nat.succ_mul, Nat.add_comm]
theorem fill_len (hues : Nat) : ∀ n : Nat, (fillL hues n).length = hues ^ n
  | 0 => by simp [fillL]
  | n + 1 => by rw [fillL, flat_len, fill_len hues n, Nat.pow_succ]
theorem fill_goodF {many hues : Int} (m0 : 0 ≤ many) (h0 : 0 ≤ hues) {f : List Int} (h : f ∈ fillL hues.toNat many.toNat) : GoodF many hues f := by
  obtain ⟨a, b⟩ := fill_good h
  exact ⟨by omega, fun z hz => by have := b z hz; omega⟩
theorem pow_le_4096 {h n : Nat} (hh : h ≤ 4) (hn : n ≤ 6) : h ^ n ≤ 4096 := by
  have a : h ^ n ≤ 4 ^ n := Nat.pow_le_pow_left hh n
  have b : 4 ^ n ≤ 4 ^ 6 := Nat.pow_le_pow_right (by decide) hn
  have c : (4 : Nat) ^ 6 = 4096 := by decide
  omega
/-! ### counts -/
def bump (ns : List Int) (i : Nat) : List Int := ns.set i (ns.getD i 0 + 1)
def cnt0 (wds : List WD) : List Int := List.replicate (wds.length + 1) 0
def cntL (wds : List WD) (fss : List (List Int)) : List Int := fss.foldl (fun ns f => bump ns (broL f wds wds.length).length) (cnt0 wds)
theorem cnt_snoc (wds : List WD) (fss : List (List Int)) (f : List Int) : cntL wds (fss ++ [f]) = bump (cntL wds fss) (broL f wds wds.length).length := by
  unfold cntL
  rw [List.foldl_append]
  rfl
theorem bump_len (ns : List Int) (i : Nat) : (bump ns i).length = ns.length := by simp [bump]
theorem foldl_len (wds : List WD) : ∀ (fss : List (List Int)) (ns : List Int), (fss.foldl (fun ns f => bump ns (broL f wds wds.length).length) ns).length = ns.length
  | [], _ => rfl
  | f :: r, ns => by rw [List.foldl_cons, foldl_len wds r, bump_len]
theorem cnt_len (wds : List WD) (fss : List (List Int)) : (cntL wds fss).length = wds.length + 1 := by
  unfold cntL
  rw [foldl_len]
  simp [cnt0]
theorem bump_mem {ns : List Int} {i : Nat} {b : Int} (h : ∀ z ∈ ns, 0 ≤ z ∧ z ≤ b) (hb : 0 ≤ b) : ∀ z ∈ bump ns i, 0 ≤ z ∧ z ≤ b + 1 := fun z hz => by
  unfold bump at hz
  rcases List.mem_or_eq_of_mem_set hz with q | q
  · have := h z q; omega
  · subst q
    rw [List.getD_eq_getElem?_getD]
    cases e : ns[i]? with
    | none => simp; omega
    | some x => have := h x (List.mem_of_getElem? e); simp; omega
theorem foldl_mem (wds : List WD) : ∀ (fss : List (List Int)) (ns : List Int) (b : Int), 0 ≤ b → (∀ z ∈ ns, 0 ≤ z ∧ z ≤ b) → ∀ z ∈ fss.foldl (fun ns f => bump ns (broL f wds wds.length).length) ns, 0 ≤ z ∧ z ≤ b + fss.length
  | [], _, b, _, h => fun z hz => by have := h z hz; simp; omega
  | f :: r, ns, b, hb, h => fun z hz => by
    have := foldl_mem wds r (bump ns (broL f wds wds.length).length) (b + 1) (by omega) (bump_mem h hb) z hz
    rw [List.length_cons]
    omega
theorem cnt_mem (wds : List WD) (fss : List (List Int)) : ∀ z ∈ cntL wds fss, 0 ≤ z ∧ z ≤ fss.length := fun z hz => by
  have := foldl_mem wds fss (cnt0 wds) 0 (by omega) (fun z hz => by
    have := List.eq_of_mem_replicate hz
    omega) z hz
  omega
theorem bump_eq {ns : List Int} {i : Nat} {x : Int} (h : ns[i]? = some x) : bump ns i = ns.set i (x + 1) := by
  unfold bump
  rw [List.getD_eq_getElem?_getD, h]
  rfl
/-! ### clashes -/
def clB (a b : WD) : Bool := a.1.any fun p => decide (p ∈ b.1)
theorem clB_comm (a b : WD) : clB a b = clB b a := by
  rw [Bool.eq_iff_iff]
  unfold clB
  simp only [List.any_eq_true, decide_eq_true_eq]
  exact ⟨fun ⟨x, h1, h2⟩ => ⟨x, h2, h1⟩, fun ⟨x, h1, h2⟩ => ⟨x, h2, h1⟩⟩
def clAt (wds : List WD) (a : WD) (k : Nat) : Bool := match wds[k]? with
  | some wd => clB a wd
  | none => false
def clsL (wds : List WD) (a : WD) (i : Nat) : List Int := ((List.range i).filter (clAt wds a)).map fun (k : Nat) => (k : Int)
theorem clAt_of {wds : List WD} {a wd : WD} {k : Nat} (h : wds[k]? = some wd) : clAt wds a k = clB a wd := by
  unfold clAt
  rw [h]
theorem clsL_yes {wds : List WD} {a : WD} {i : Nat} (h : clAt wds a i = true) : clsL wds a (i + 1) = clsL wds a i ++ [(i : Int)] := by
  unfold clsL
  rw [List.range_succ, List.filter_append, List.map_append]
  simp [h]
theorem clsL_no {wds : List WD} {a : WD} {i : Nat} (h : clAt wds a i = false) : clsL wds a (i + 1) = clsL wds a i := by
  unfold clsL
  rw [List.range_succ, List.filter_append, List.map_append]
  simp [h]
theorem clsL_len (wds : List WD) (a : WD) (i : Nat) : (clsL wds a i).length ≤ i := by
  unfold clsL
  rw [List.length_map]
  have q := List.length_filter_le (clAt wds a) (List.range i)
  rw [List.length_range] at q
  exact q
theorem clsL_mem {wds : List WD} {a : WD} {i : Nat} {z : Int} (h : z ∈ clsL wds a i) : 0 ≤ z ∧ z < i := by
  unfold clsL at h
  obtain ⟨k, hk, rfl⟩ := List.mem_map.mp h
  have := List.mem_range.mp (List.mem_filter.mp hk).1
  omega
def clsAll (wds : List WD) : List (List Int) := wds.map fun wd => clsL wds wd wds.length
/-! ### fine data -/
theorem short_int (m : Nat) (h : m < 10 ^ 10) : PyData.intsShort 13 (.int (m : Int)) = true := by
  have e := (Nat.length_repr_le_iff (n := m) (by decide : 0 < 10)).mpr h
  show decide ((Str.ofString (Nat.repr m)).length ≤ 13) = true
  rw [decide_eq_true_eq, Str.ofString_eq_toList]
  have z : (Str.mk ((Nat.repr m).toList.map Char.toNat).toArray).length = (Nat.repr m).length := by
    show ((Nat.repr m).toList.map Char.toNat).toArray.size = _
    rw [List.size_toArray, List.length_map, String.length_toList]
  omega
theorem fine_intM {i : Int} (h0 : 0 ≤ i) (h1 : i < 5000) : Fine (.int i) 1 14 := by
  obtain ⟨n, rfl⟩ : ∃ n : Nat, i = n := ⟨i.toNat, by omega⟩
  have hn : n < 5000 := by omega
  have hl : n.log2 ≤ 12 := by
    by_cases e : n = 0
    · subst e; decide
    · have := (Nat.log2_lt e).mpr (show n < 2 ^ 13 by omega)
      omega
  refine ⟨rfl, by simp [PyData.depth], ?_, ?_, rfl, short_int n (by omega)⟩
  · simp only [PyData.weight]
    split
    · omega
    · have e : ((n : Int)).natAbs = n := by omega
      rw [e]
      omega
  · simp only [PyData.showable]
    have e : ((n : Int)).natAbs = n := by omega
    rw [e]
    exact decide_eq_true (by omega)
theorem fine_ints {ns : List Int} (h : ∀ z ∈ ns, 0 ≤ z ∧ z < 5000) : Fine (.list (ns.map .int)) 2 (ns.length * 15) :=
  (Fine.list (fineAll_map ns fun z hz => fine_intM (h z hz).1 (h z hz).2)).mono (by omega) (by omega)
def listsD (ls : List (List Int)) : PyData := .list (ls.map fun l => .list (l.map .int))
theorem fine_lists {ls : List (List Int)} (hl : ls.length ≤ 300) (h : ∀ l ∈ ls, l.length ≤ 20 ∧ ∀ z ∈ l, 0 ≤ z ∧ z < 5000) : Fine (listsD ls) 3 100000 := by
  refine (Fine.list (fineAll_map (n := 2) (w := 300) ls fun l hl => (fine_ints (h l hl).2).mono (Nat.le_refl _) (by have := (h l hl).1; omega))).mono (by omega) (by omega)
end Dt

set_option Elab.async false
set_option linter.all false
set_option maxRecDepth 100000
set_option maxHeartbeats 4000000
/-! elements of generator expressions: x in f[0] -/
namespace Gv
open PySem PySem.Spec PyProof.Rows L2
variable {X : Cx} {pins : List (Addr × Obj)} {σ : L2.St}
theorem reads_ints (h : Heap) : ∀ (ns : List Int) (us : List Value), Vals (ns.map V.int) us → ∃ as, ReadsAll h us (ns.map PyData.int) as
  | [], _, r => by cases r; exact ⟨_, .nil⟩
  | n :: q, _, r => by
    cases r with
    | cons r1 r2 =>
      obtain ⟨as, z⟩ := reads_ints h q _ r2
      obtain ⟨t, rfl⟩ := r1
      exact ⟨_, .cons (.int n t) z⟩
theorem canAll_ints : ∀ ns : List Int, PyData.canLayAll0 (ns.map PyData.int) = true
  | [] => rfl
  | n :: q => by simp only [List.map_cons, PyData.canLayAll0, PyData.canLay0, canAll_ints q, Bool.and_self]
theorem any_ints (n : Int) : ∀ ns : List Int, ((ns.map PyData.int).any fun y => PyData.eqv y (.int n)) = decide (n ∈ ns)
  | [] => by simp
  | m :: q => by
    rw [List.map_cons, List.any_cons, any_ints n q]
    by_cases e : m = n
    · subst e; simp [PyData.eqv]
    · have e2 : ¬ n = m := fun z => e z.symm
      simp [PyData.eqv, e, e2]
theorem elt_in0 {f x : Str} {scope : Scope} {P fa pa : Addr} {H1 : Hp} {xs ys zs : List V} {ns : List Int} {j jj : Nat} {p1 p2 p3 p4 p5 : Pos} (hk : scope.kind = .function) (hx : scope.names.lookup x = some .local) (hf : scope.names.lookup f = some .free)
    (hcl : (cloFrom X.env.cells scope.names []).lookup f = some ((X.env.cells.lookup f).getD 0)) (hj : X.N[j]? = some f) (hkf : X.env.kindOf f = some .cell) (hσ : σ[j]? = some (some (.ref fa))) (hq : SqT X.K H1 fa (.ref pa :: zs)) (hp : SqT X.K H1 pa (ns.map V.int)) (hT : GxR.TabG H1 P) (hu : X.A.units + 64 < cLine)
    (hv : ∀ (i : Nat) x0, xs[i]? = some x0 → ∃ (n : Int), x0 = .int n ∧ ys[i]? = some (.bl (decide (n ∈ ns)))) (hdf : (f == ("__debug__" : Str)) = false := by decide) (hdx : (x == ("__debug__" : Str)) = false := by decide) (hcf : (f == ("__classdict__" : Str)) = false := by decide) :
    EltV X pins σ scope x (.Compare (.Name x p1) [.In] [.Subscript (.Name f p2) (.Constant (.int 0) jj p3) p4] p5) P H1 xs ys := by
  intro s1 t C code bi A' E' i x0 u m I hA hU hx0 ru hn hm hkp
  obtain ⟨n, rfl, hy⟩ := hv i x0 hx0
  obtain ⟨tk, rfl⟩ := (show ∃ t, u = Value.int n t from ru)
  obtain ⟨ps, hP, _⟩ := hT
  have tabS : s1.heap.get? P = some { cls := .none, data := .fields ps } := I.hok P _ hP
  obtain ⟨m1, _, hl⟩ := I.loc
  obtain ⟨uf, rf, lk⟩ := hl j f _ hj hσ (.inr (.inl hkf))
  cases (show uf = Value.ref fa from rf)
  obtain ⟨c, hc, ic⟩ : ∃ c, X.env.cells.lookup f = some c ∧ s1.heap.IsCell c (some (.ref fa)) := by
    rcases lk with ⟨z, _⟩ | ⟨_, c, hc, ic⟩
    · rw [hkf] at z; cases z
    · exact ⟨c, hc, ic⟩
  have ic2 : t.heap.IsCell c (some (.ref fa)) := by
    obtain ⟨o, ho, hd⟩ := ic
    refine ⟨o, hkp c o (fun z => ?_) ho, hd⟩
    rw [z, tabS] at ho
    cases ho
    cases hd
  have tup2 : ∀ {a : Addr} {its : Array Value}, IsTup s1.heap a its → IsTup t.heap a its := fun {a its} pl => by
    obtain ⟨o, ho, hcl', nn, hd⟩ := pl
    refine ⟨o, hkp a o (fun z => ?_) ho, hcl', nn, hd⟩
    rw [z, tabS] at ho
    cases ho
    cases hd
  obtain ⟨its, rv, pl, hz⟩ := I.tuple hq
  have pl2 := tup2 pl
  obtain ⟨its2, rv2, plb, hz2⟩ := I.tuple hp
  have plb2 := tup2 plb
  have clf : (genEnv scope (cloFrom X.env.cells scope.names []) C code bi X.env).cells.lookup f = some c := by
    show (cloFrom X.env.cells scope.names []).lookup f = some c
    rw [hcl, hc]
    rfl
  have hat0 : atI (.ref pa :: zs) 0 = some (.ref pa) := atI_nat (j := 0) rfl
  obtain ⟨j2, h1, h2, h3, h4, h5⟩ := atI_get hat0
  obtain ⟨wv, ew, rw'⟩ := rv.get h2
  cases (show wv = Value.ref pa from rw')
  have hlen := rv.length
  refine wpAny_Compare1 ?_
  refine wpAny_Name (wpAny_loadName_local hk hx hn hm ?_) hdx
  refine Subscript_ (wpAny_Name (wpAny_loadName_free hk hf clf ic2 ?_ hcf) hdf)
  refine wpAny_Constant_int ?_
  refine subscriptTail_builtinR (x := Value.ref pa) (show IsTup { t with toks := t.toks + 1 }.heap fa its.toArray from pl2).typeIs slot_tuple_getitem.lookup
    (getItem_tuple (j := j2) (show IsTup { t with toks := t.toks + 1 }.heap fa its.toArray from pl2) (by decide) (by decide) (by rw [List.size_toArray, ← hlen]; exact h1) (by simpa using ew) ⟨rfl, ?_⟩) (by rfl)
  obtain ⟨as, ra⟩ := reads_ints t.heap ns its2 rv2
  obtain ⟨o, ho, hcl', nn, hd⟩ := plb2
  refine PySem.SeqAt.in_tuple_reads (xs := ns.map PyData.int) (d := .int n) (.tuple (h := t.heap) ho hcl' hd (by simpa using ra)) (.int n tk) (canAll_ints ns) rfl ?_ ⟨⟨_, hy, ?_⟩, GxR.keeps_tok _ _⟩
  · have : min (PyData.depthAll (ns.map PyData.int)) (PyData.int n).depth ≤ 1 := Nat.le_trans (Nat.min_le_right _ _) (by simp [PyData.depth])
    omega
  · rw [any_ints]
    rfl
end Gv

set_option Elab.async false
set_option linter.all false
set_option maxRecDepth 100000
set_option maxHeartbeats 4000000
/-! comprehensions with two fors: the loops; an item of a list, by values -/
namespace Cp
open PySem PySem.Spec PyProof.Rows L2
theorem lc2_list {K : PySem.W.Frag} {a : Addr} {xs : List V} {g : TG} {tt : TT} {B : L2.St → Hp → (Hp → Prop) → Prop} {vs : List Nat} {σ : L2.St} {H1 : Hp} {D : Addr} {Qd : Hp → Prop} (Pv : Nat → Hp → Prop) (h0 : Pv 0 (upd H1 D (.lst []))) (hl : ∀ i H, i ≤ xs.length → Pv i H → SqL K H a xs)
    (hs : ∀ i x H, xs[i]? = some x → Pv i H → g x (wipe σ vs) H fun σ2 H2 => wipe σ2 vs = wipe σ vs ∧ tt σ2 H2 fun b H3 => if b = true then B σ2 H3 (Pv (i + 1)) else Pv (i + 1) H3) (hd : ∀ H, Pv xs.length H → Qd H) :
    ∃ W : Nat → Nat → Hp → Prop, (∃ m, W 0 m (upd H1 D (.lst []))) ∧ ∀ i m H, W i m H →
      ((Itl K a).stop i H ∧ Qd H) ∨ ((Itl K a).go i H ∧ ∃ Nx : Hp → Prop, (∀ H', Nx H' → ∃ m', m' < m ∧ W (i + 1) m' H') ∧ ∀ x H', (Itl K a).yld i H x H' → g x (wipe σ vs) H' fun σ2 H2 => wipe σ2 vs = wipe σ vs ∧ tt σ2 H2 fun b H3 => if b = true then B σ2 H3 Nx else Nx H3) := by
  refine ⟨fun i m H => m = xs.length - i ∧ i ≤ xs.length ∧ Pv i H, ⟨xs.length, by simp, Nat.zero_le _, h0⟩, ?_⟩
  rintro i m H ⟨rfl, hi, p⟩
  have q := hl i H hi p
  by_cases hlt : i < xs.length
  · refine .inr ⟨⟨xs, xs[i], q, by simp [hlt]⟩, Pv (i + 1), fun H' p' => ⟨xs.length - (i + 1), by omega, rfl, hlt, p'⟩, fun x H' y => ?_⟩
    obtain ⟨e, y⟩ := y
    subst e
    exact hs i x _ (y xs q) p
  · have e : i = xs.length := by omega
    subst e
    exact .inl ⟨⟨xs, q, by simp⟩, hd H p⟩
theorem lcin_range {lo : Int} {n : Nat} {g : TG} {tt : TT} {te : TE} {vs : List Nat} {σ : L2.St} {H4 : Hp} {D : Addr} {Qd : Hp → Prop} (Pv : Nat → Hp → Prop) (h0 : Pv 0 H4)
    (hs : ∀ i H, i < n → Pv i H → g (.int (lo + i)) (wipe σ vs) H fun σ2 H2 => wipe σ2 vs = wipe σ vs ∧ tt σ2 H2 fun b H3 =>
      if b = true then te σ2 H3 fun y H4 => ∃ acc, H4 D = some (.lst acc) ∧ acc.length < sizeLine ∧ Pv (i + 1) (upd H4 D (.lst (acc ++ [y]))) else Pv (i + 1) H3) (hd : ∀ H, Pv n H → Qd H) :
    ∃ W : Nat → Nat → Hp → Prop, (∃ m, W 0 m H4) ∧ ∀ i m H, W i m H →
      ((Itr lo n).stop i H ∧ Qd H) ∨ ((Itr lo n).go i H ∧ ∃ Nx : Hp → Prop, (∀ H', Nx H' → ∃ m', m' < m ∧ W (i + 1) m' H') ∧ ∀ x H', (Itr lo n).yld i H x H' → g x (wipe σ vs) H' fun σ2 H2 => wipe σ2 vs = wipe σ vs ∧ tt σ2 H2 fun b H3 =>
        if b = true then te σ2 H3 fun y H4 => ∃ acc, H4 D = some (.lst acc) ∧ acc.length < sizeLine ∧ Nx (upd H4 D (.lst (acc ++ [y]))) else Nx H3) := by
  refine ⟨fun i m H => m = n - i ∧ i ≤ n ∧ Pv i H, ⟨n, by simp, Nat.zero_le _, h0⟩, ?_⟩
  rintro i m H ⟨rfl, hi, p⟩
  by_cases hlt : i < n
  · refine .inr ⟨hlt, Pv (i + 1), fun H' p' => ⟨n - (i + 1), by omega, rfl, hlt, p'⟩, fun x H' y => ?_⟩
    obtain ⟨e, y⟩ := y
    subst e y
    exact hs i _ hlt p
  · have e : i = n := by omega
    subst e
    exact .inl ⟨Nat.le_refl _, hd H p⟩
/-- xs[k], k from 0 on -/
def rIxN (K : PySem.W.Frag) : V → V → Hp → VK → Prop := fun x y H Q => ∃ (p : Addr) (xs : List V) (k : Nat) (v : V), x = .ref p ∧ y = .int k ∧ SqL K H p xs ∧ xs[k]? = some v ∧ Q v H
theorem pget_list {X : Cx} : PGet X (rIxN X.K) := by
  intro pins s σ H o i ov iv Q I ro ri h
  obtain ⟨p, xs, k, z, rfl, rfl, hq, he, q⟩ := h
  cases ro
  obtain ⟨t, rfl⟩ := ri
  obtain ⟨its, r, pl, hz⟩ := I.list hq
  obtain ⟨w, ew, rw'⟩ := r.get he
  have hl := r.length
  have hn := line63
  have hk := (List.getElem?_eq_some_iff.mp he).1
  exact wpAny_getItem_list pl.isList (by omega) (by omega) (by simpa using ew) ⟨z, H, I, rw', q⟩
end Cp

set_option Elab.async false
set_option linter.all false
set_option maxRecDepth 100000
set_option maxHeartbeats 4000000
/-! all(..) and any(..) of a generator expression: any source, any target, any element -/
namespace Gx
open PySem PySem.Spec PyProof.Rows L2 GenW
/-- the element's context: a frame of its own over the def's -/
abbrev gcx (X : Cx) (A : Around) (s : Shared) (H : Hp) (cenv : Env) (fp : List Addr) : Cx :=
  { X with A := A, s_0 := s, H_0 := H, env := cenv, outer := X.stack, stack := cenv :: X.stack, ex := fp, fn := fun _ => false, pn := [], xe := fun _ _ => False }
structure GenK (scope : Scope) : Prop where
  co : scope.isCoroutine = false
  cell : ∀ y ∈ scope.names, y.2 ≠ .cell
  dot : scope.names.lookup (".0" : Str) = some NameKind.local
/-- nothing but the generators' own table has turned -/
structure Kept (s s' : Shared) : Prop where
  os : s'.os = s.os
  bare : AllBare s'.gens
  keep : ∀ b o, s.heap.get? b = some o → s'.heap.get? b = some o
theorem Inv.keptS {X : Cx} {pins : List (Addr × Obj)} {σ : L2.St} {H : Hp} {s s' : Shared} (I : Inv X pins σ H s) (k : Kept s s') : Inv X pins σ H s' :=
  I.call' (ch := []) k.os (Un.kept k.keep) (I.hok.kept k.keep) k.bare fun b z => by simp at z
section
variable {X : Cx} {pins : List (Addr × Obj)} {σ : L2.St} {H : Hp} {s : Shared}
theorem gen_start {scope : Scope} {own : List (Str × Nat)} {fp : List Addr} {code : Value} {A : Around} {s' : Shared} {m : Str → Option Value} (I : Inv X pins σ H s) (ok : BlkOk X.N X.env.scope scope own) (S : GenK scope) (hN : X.N.Nodup) (hfp : ∀ b ∈ fp, FpOk X pins H b ∧ b < s.heap.objs.size)
    (hA : A.handled = none) (hfr : A.frames = some (genEnv scope (cloFrom X.env.cells scope.names []) s.heap.objs.size code builtinsNs X.env :: X.stack))
    (k : Kept s s') (hns : s'.heap.Ns s.heap.objs.size m) :
    Inv (gcx X A s H (genEnv scope (cloFrom X.env.cells scope.names []) s.heap.objs.size code builtinsNs X.env) fp) [] (wipe σ (own.map (·.2))) H s' := by
  have hfree : ∀ y ∈ scope.names, y.2 = .free → ∃ c, X.env.cells.lookup y.1 = some c := fun y hy e => by
    rcases ok.free y hy e with k | k
    · exact I.ok.has _ (.inl k)
    · exact I.ok.has _ (.inr k)
  generalize hcenv : genEnv scope (cloFrom X.env.cells scope.names []) s.heap.objs.size code builtinsNs X.env = cenv at hfr
  have hL : cenv.locals = s.heap.objs.size := by rw [← hcenv]; rfl
  have hcl : cenv.cells = cloFrom X.env.cells scope.names [] := by rw [← hcenv]; rfl
  have hsc : cenv.scope = scope := by rw [← hcenv]; rfl
  have mem : ∀ {y c}, cenv.cells.lookup y = some c → X.env.cells.lookup y = some c ∧ c < s.heap.objs.size := fun {y c} e => by
    rw [hcl] at e
    rcases cloFrom_mem (PySem.mem_of_lookup e) with hm | ⟨h1, rfl⟩
    · cases hm
    · obtain ⟨c, hc⟩ := hfree _ h1 rfl
      rw [hc]
      obtain ⟨w, z⟩ := I.cell _ _ hc
      exact ⟨rfl, z.lt⟩
  have look : ∀ {y}, scope.names.lookup y = some .free → ∃ c, cenv.cells.lookup y = some c ∧ X.env.cells.lookup y = some c := fun {y} hl => by
    have hy : (y, NameKind.free) ∈ scope.names := PySem.mem_of_lookup hl
    obtain ⟨c', e'⟩ := mem_lookup (cloFrom_has (cells := X.env.cells) (acc := []) hy)
    rw [← hcl] at e'
    exact ⟨c', e', (mem e').1⟩
  have okB : (gcx X A s H cenv fp).Ok := by
    refine ⟨I.ok.mod, by show cenv.scope.kind = _; rw [hsc]; exact ok.kind, by show cenv.globals = _; rw [← hcenv]; exact I.ok.glob, by show cenv.builtins = _; rw [← hcenv]; rfl, by show s.heap.objs.size ≤ cenv.locals; rw [hL]; exact Nat.le_refl _,
      fun y z c e1 e2 => I.ok.inj y z c (mem e1).1 (mem e2).1, fun y hy => ?_, (fun y c z e => nomatch z), fun _ => hA, hfr, .inr ⟨rfl, ?_⟩, fun b hb => ⟨?_, fun y c e z => ?_⟩, I.bs, Nat.le_trans I.ok.bsz I.sz, fun b o e hb => ?_, fun b hb z => ?_, I.stack, I.stkFree⟩
    · show ∃ c, cenv.cells.lookup y = some c
      rcases hy with hy | hy
      · have e : scope.names.lookup y = some .cell := by rw [← hsc]; exact hy
        exact absurd rfl (S.cell _ (PySem.mem_of_lookup e))
      · have e : scope.names.lookup y = some .free := by rw [← hsc]; exact hy
        obtain ⟨c, h1, _⟩ := look e
        exact ⟨c, h1⟩
    · show cenv.frame = some cenv.locals
      rw [← hcenv]
      rfl
    · show b ≠ cenv.locals
      rw [hL]; exact Nat.ne_of_lt (hfp b hb).2
    · exact (hfp b hb).1.2.2.2.2.1 y c (mem e).1 z
    · rcases (hfp b hb).1.2.2.2.1 with z | z
      · exact I.ok.noex b o e z
      · exact absurd (Nat.lt_of_lt_of_le (Heap.lt_size e) (Nat.le_trans I.ok.bsz z)) (Nat.lt_irrefl _)
    · rcases List.mem_cons.mp (I.stkSub b z) with z | z
      · exact (hfp b hb).1.2.1 z
      · exact (hfp b hb).1.2.2.1 z
  refine ⟨okB, k.os, k.bare, Un.kept k.keep, ⟨m, ?_, fun i y av e1 e2 e3 => ?_⟩, fun y c e => ?_, ?_, fun y c e => I.freeC y c (mem e).1, fun p hp => ?_, I.hok.kept k.keep, by rw [wipe_length]; exact I.len⟩
  · show Heap.Ns _ cenv.locals _
    rw [hL]
    exact hns
  · obtain ⟨e2, hne⟩ := wipe_some e2
    have hfr : scope.names.lookup y = some .free := by
      have key : ∀ k, scope.names.lookup y = some k → k = .local ∨ k = .cell ∨ k = .free → scope.names.lookup y = some .free := fun k e hk' => by
        have no : ¬ (k = .local ∨ k = .cell) := fun hh => by
          rcases ok.own _ (PySem.mem_of_lookup e) hh with e' | e'
          · obtain ⟨p, hp, hpy⟩ := List.mem_map.mp e'
            have e3 := ok.ix p hp
            have : p.1 = y := hpy
            rw [this] at e3
            exact hne (List.mem_map.mpr ⟨p, hp, nodup_ix hN e3 e1⟩)
          · exact e' (List.mem_of_getElem? e1)
        rcases hk' with rfl | rfl | rfl
        · exact absurd (.inl rfl) no
        · exact absurd (.inr rfl) no
        · exact e
      have e3 : Vis cenv.scope y := e3
      rw [hsc] at e3
      rcases e3 with e3 | e3 | e3
      · exact key _ e3 (.inl rfl)
      · exact key _ e3 (.inr (.inl rfl))
      · exact key _ e3 (.inr (.inr rfl))
    obtain ⟨m2, hn, hl⟩ := I.loc
    have hvis : Vis X.env.scope y := (ok.free _ (PySem.mem_of_lookup hfr) rfl).elim (fun k => .inr (.inl k)) (fun k => .inr (.inr k))
    obtain ⟨w, r, q⟩ := hl i y av e1 e2 hvis
    refine ⟨w, r, .inr ⟨.inr (by show cenv.scope.names.lookup y = _; rw [hsc]; exact hfr), ?_⟩⟩
    obtain ⟨c, h1, h2⟩ := look hfr
    rcases q with ⟨k, _⟩ | ⟨_, c', e', z⟩
    · have k : X.env.scope.names.lookup y = some .local := k
      rcases ok.free _ (PySem.mem_of_lookup hfr) rfl with k' | k' <;> rw [show X.env.scope.names.lookup y = _ from k'] at k <;> cases k
    · rw [h2] at e'; cases e'
      exact ⟨c, h1, z.keeps k.keep⟩
  · obtain ⟨w, z⟩ := I.cell y c (mem e).1
    exact ⟨w, z.keeps k.keep⟩
  · show H cenv.locals = none
    rw [hL]; exact I.hok.fresh (Nat.le_refl _)
  · exact absurd (show p ∈ ([] : List (Addr × Obj)) ++ [] from hp) (by simp)
end
end Gx

set_option Elab.async false
set_option linter.all false
set_option maxRecDepth 100000
set_option maxHeartbeats 4000000
namespace Gx
open PySem PySem.Spec PyProof.Rows L2 GenW
/-- the end of the walk -/
def RG (X : Cx) (pz : List (Addr × Obj)) (σ0 : L2.St) (QT : Hp → Prop) : GenEnd := fun _ _ r s₁ => ((r = .ok (.ret .none) ∨ r = .ok .next) ∧ ∃ H', Inv X pz σ0 H' s₁ ∧ QT H') ∨ ∃ e, r = .error e ∧ False
/-- a truth is handed out: by d it goes on -/
def YG (X : Cx) (pz : List (Addr × Obj)) (d : Bool) (QF : Hp → Prop) : Protocol := fun _ _ v s kap => ∃ (c : Bool) (σ' : L2.St) (H' : Hp), v = .bool c ∧ Inv X pz σ' H' s ∧ (if c = d then ∀ s', Kept s s' → kap (.send .none) s' else QF H')
/-- the source's turns, the target, the tests, the element -/
def Turns (J : It) (g : TG) (tt : TT) (te : TE) (vs : List Nat) (σ : L2.St) (d : Bool) (QT QF : Hp → Prop) (W : Nat → Nat → Hp → Prop) : Prop := ∀ i m H, W i m H →
  (J.stop i H ∧ QT H) ∨ (J.go i H ∧ ∃ Nx : Hp → Prop, (∀ H', Nx H' → ∃ m', m' < m ∧ W (i + 1) m' H') ∧ ∀ x H', J.yld i H x H' → g x (wipe σ vs) H' fun σ2 H2 => wipe σ2 vs = wipe σ vs ∧ tt σ2 H2 fun b H3 =>
    if b = true then te σ2 H3 fun y H4 => ∃ c, y = .bl c ∧ (if c = d then Nx H4 else QF H4) else Nx H3)
section
variable {X : Cx} {A B : Around} {s3 : Shared} {H3 : Hp} {cenv : Env} {fp : List Addr} {σ : L2.St}
theorem seg_loop {elt tg iter : Expr} {ifs : List Expr} {scope : Scope} {pos : Pos} {it : Addr} {J : It} {tn : Nat → Heap → Prop} {g : TG} {tt : TT} {te : TE} {vs : List Nat} {d : Bool} {QT QF : Hp → Prop} {W : Nat → Nat → Hp → Prop} {pz : List (Addr × Obj)}
    (T : Turn X.prog X.w X.K tg J fp it tn) (hc : X.calm = true) (hov : B.over (.compLoop (.GeneratorExp elt [⟨tg, iter, ifs, 0⟩] scope pos) 0 (.ref it) .none cenv) [] = A) (hco : cenv.scope.isCoroutine = false) (hpz : ∀ p ∈ pz, p.1 ∉ fp)
    (pg : PG (gcx X A s3 H3 cenv fp) tg g) (pt : PTs (gcx X A s3 H3 cenv fp) ifs tt) (pe : PE (gcx X A s3 H3 cenv fp) elt te) (turn : Turns J g tt te vs σ d QT QF W) :
    ∀ (m n i : Nat) (s₀ s : Shared) (H : Hp), m < n → Inv (gcx X A s3 H3 cenv fp) pz (wipe σ vs) H s → tn i s.heap → (∀ b ∈ fp, H b = none) → W i m H →
      Seg (model X.prog X.w) B (RG (gcx X A s3 H3 cenv fp) pz (wipe σ vs) QT) (YG (gcx X A s3 H3 cenv fp) pz d QF) n s₀
        (.compLoop (.GeneratorExp elt [⟨tg, iter, ifs, 0⟩] scope pos) 0 (.ref it) .none cenv)
        ((model X.prog X.w).den (.compLoop (.GeneratorExp elt [⟨tg, iter, ifs, 0⟩] scope pos) 0 (.ref it) .none cenv)) [] s := by
  have stat : ∀ {σ' : L2.St} {H' : Hp} {s' : Shared}, Inv (gcx X A s3 H3 cenv fp) pz σ' H' s' → (∀ b ∈ fp, H' b = none) → ∀ b ∈ fp, FpOk (gcx X A s3 H3 cenv fp) pz H' b := fun {σ' H' s'} I' hn b hb =>
    ⟨hn b hb, (I'.ok.exf b hb).1, I'.ok.exfs b hb, .inl hb, fun x c e => (I'.ok.exf b hb).2 x c e, fun p hp z => hpz p (by simpa using hp) (by rw [z]; exact hb)⟩
  intro m
  induction m using Nat.strongRecOn with
  | ind m ih =>
    intro n i s₀ s H hmn I st nf w
    show Seg _ B _ _ _ s₀ _ ((compTurn (.GeneratorExp elt [⟨tg, iter, ifs, 0⟩] scope pos) 0 (.ref it) .none cenv).onRaise (leaving cenv)) [] s
    rw [compTurn_gen, Sem.onRaise_eq_wrap]
    refine seg_bind_wrap (wpAny_standAt ?_)
    rcases turn i m H w with ⟨stop, qq⟩ | ⟨go, Nx, hNx, step⟩
    · refine seg_bind_wrap ?_
      rw [hov]
      refine wpAny_mono (T.done (gcx X A s3 H3 cenv fp) rfl rfl rfl hc i pz s _ H (fun _ _ => False) I (stat I nf) st stop) (fun r s6 hx => ?_) fun _ _ e => e.elim
      obtain ⟨rfl, I6⟩ := hx
      exact seg_end (.ok .next) (.inl ⟨.inr rfl, H, I6, qq⟩)
    · refine seg_bind_wrap ?_
      rw [hov]
      refine wpAny_mono (T.item (gcx X A s3 H3 cenv fp) rfl rfl rfl hc i pz s _ H (fun _ _ => False) I (stat I nf) st go) (fun r s6 hx => ?_) fun _ _ e => e.elim
      obtain ⟨u, rfl, h6⟩ := hx
      refine seg_bind_wrap ?_
      rw [hov]
      refine wpAny_mono h6 (fun _ s7 hx => ?_) fun _ _ e => e.elim
      obtain ⟨x, H7, I7, r7, y7, st7, n7⟩ := hx
      have I7' := I7.pinned (stat I7 n7) (T.obj _ _ st7)
      refine seg_bind_wrap ?_
      rw [hov]
      refine wpAny_mono (pg.run _ s7 _ H7 x u _ I7' r7 (step x H7 y7)) (fun _ s8 hx => ?_) fun _ _ e => e.elim
      obtain ⟨σ8, H8, I8, hw8, q8⟩ := hx
      refine seg_bind_wrap ?_
      rw [hov]
      refine wpAny_mono (pt.run _ s8 σ8 H8 _ I8 q8) (fun b s9 hx => ?_) fun _ _ e => e.elim
      obtain ⟨H9, I9, q9⟩ := hx
      -- the turn's end
      have fin : ∀ {s' : Shared} {H' : Hp} {m' : Nat}, Inv (gcx X A s3 H3 cenv fp) (pz ++ pinsAt fp s7.heap) σ8 H' s' → Inv (gcx X A s3 H3 cenv fp) pz (wipe σ vs) H' s' ∧ tn (i + 1) s'.heap ∧ ∀ b ∈ fp, H' b = none := fun {s' H' m'} I' => by
        have pin' : ∀ b ∈ fp, ∀ o, s7.heap.get? b = some o → s'.heap.get? b = some o ∧ H' b = none := fun b hb o e =>
          let z := I'.pin (b, o) (List.mem_append_right _ (List.mem_append_right _ (mem_pinsAt hb e)))
          ⟨z.1, z.2.1⟩
        have hl : (wipe σ vs).length = σ8.length := by rw [← hw8, wipe_length]
        refine ⟨(I'.unpinned (pins := pz)).weak hl (fun j v e => ?_), T.keep _ _ _ st7 fun b hb o e => (pin' b hb o e).1, fun b hb => ?_⟩
        · rw [← hw8] at e
          exact (wipe_some e).1
        · obtain ⟨o, e, _⟩ := T.obj _ _ st7 b hb
          exact (pin' b hb o e).2
      cases b with
      | false =>
        simp only [Bool.false_eq_true, if_false] at q9 ⊢
        obtain ⟨m', hm, w'⟩ := hNx H9 q9
        obtain ⟨f1, f2, f3⟩ := fin (m' := m') I9
        exact seg_again rfl (ih m' hm n (i + 1) s₀ _ H9 (by omega) f1 f2 f3 w')
      | true =>
        simp only [if_true] at q9 ⊢
        have hy : ∀ v, yieldOut cenv v = yieldValue v := fun v => by simp only [yieldOut, hco, Bool.false_eq_true, if_false]
        simp only [hy]
        rw [Sem.bind_eq_wrap', Sem.bind_eq_wrap', Sem.wrap_wrap, Sem.wrap_wrap]
        refine seg_wrap ?_
        rw [hov]
        refine wpAny_mono (pe.run _ s9 σ8 H9 _ I9 q9) (fun z s10 hx => ?_) fun _ _ e => e.elim
        obtain ⟨yv, H10, I10, r10, c, rfl, nx⟩ := hx
        cases (show z = Value.bool c from r10)
        obtain ⟨n, rfl⟩ : ∃ n', n = n' + 1 := ⟨n - 1, by omega⟩
        refine seg_at (seg_yield rfl rfl rfl ⟨c, σ8, H10, rfl, I10.unpinned, ?_⟩)
        by_cases hcd : c = d
        · rw [if_pos hcd] at nx ⊢
          intro s'' hk
          obtain ⟨m', hm, w'⟩ := hNx H10 nx
          obtain ⟨f1, f2, f3⟩ := fin (m' := m') (Inv.keptS I10 hk)
          exact seg_again rfl (ih m' hm n (i + 1) s'' s'' H10 (by omega) f1 f2 f3 w')
        · rw [if_neg hcd] at nx ⊢
          exact nx
theorem seg_start {elt tg iter : Expr} {ifs : List Expr} {scope : Scope} {pos : Pos} {it : Addr} {J : It} {tn : Nat → Heap → Prop} {R : GenEnd} {Y : Protocol} {n : Nat} {s₀ s : Shared}
    (T : Turn X.prog X.w X.K tg J fp it tn) (st : tn 0 s.heap)
    (loop : Seg (model X.prog X.w) B R Y n s₀ (.compLoop (.GeneratorExp elt [⟨tg, iter, ifs, 0⟩] scope pos) 0 (.ref it) .none cenv) ((model X.prog X.w).den (.compLoop (.GeneratorExp elt [⟨tg, iter, ifs, 0⟩] scope pos) 0 (.ref it) .none cenv)) [] s) :
    Seg (model X.prog X.w) B R Y n s₀ (.compStart (.GeneratorExp elt [⟨tg, iter, ifs, 0⟩] scope pos) 0 (.ref it) .none cenv) ((model X.prog X.w).den (.compStart (.GeneratorExp elt [⟨tg, iter, ifs, 0⟩] scope pos) 0 (.ref it) .none cenv)) [] s := by
  show Seg _ B _ _ _ s₀ _ ((compStart (.GeneratorExp elt [⟨tg, iter, ifs, 0⟩] scope pos) 0 (.ref it) .none cenv).onRaise (leaving cenv)) [] s
  unfold compStart
  rw [Sem.onRaise_eq_wrap]
  show Seg _ B _ _ _ s₀ _ ((ask >>= _).wrap _ _ _ _) [] s
  refine seg_bind_wrap (wpAny_askSetting ?_)
  split
  · exact seg_again rfl loop
  · first
      | exact seg_bind_wrap (wpAny_rule (seg_bind_wrap (wpAny_standAt (seg_bind_wrap (T.self _ 0 s _ _ st (seg_again rfl loop))))))
      | (refine seg_bind_wrap (wpAny_rule ?_); show Seg _ B _ _ _ s₀ _ ((standAt iter.pos >>= _).wrap _ _ _ _) [] s; exact seg_bind_wrap (wpAny_standAt (seg_bind_wrap (T.self _ 0 s _ _ st (seg_again rfl loop)))))
end
/-- the consumer: all's loop by d = true, any's by d = false -/
def loopId (d : Bool) : String := if d then "all.loop" else "any.loop"
theorem walk_loop {X : Cx} {pz : List (Addr × Obj)} {σ0 : L2.St} {QT QF : Hp → Prop} {A : Around} {a : Addr} {g : Nat} {go : Obj} (d : Bool) {R : Result → Shared → Prop} (hpz : (a, go) ∈ pz) (hgo : ∀ h : Heap, h.get? a = some go → h.IsGen a g)
    (hh : A.handled = none) (hd : A.depth < recursionLimit)
    (hT : ∀ H' s1 s', Inv X pz σ0 H' s1 → QT H' → Kept s1 s' → R (.ok (.ret (.bool d))) s') (hF : ∀ σ' H' s1 s', Inv X pz σ' H' s1 → QF H' → Kept s1 s' → R (.ok (.ret (.bool (!d)))) s') :
    ∀ (n : Nat) (s : Shared), s.heap.IsGen a g → s.heap.NoLimit →
      (∃ gs, s.gens[g]? = some gs ∧ gs.Goes (model X.prog X.w) A.in1.in1 (RG X pz σ0 QT) (YG X pz d QF) n (.send .none) (s.setGen g .running)) →
      codeAny (model X.prog X.w) A (.builtin (loopId d) ⟨[.ref a], []⟩) R s := by
  intro n
  induction n with
  | zero =>
    intro s hg hl ⟨gs, hgs, hgo'⟩
    cases d
    · show codeAny (model X.prog X.w) A (.builtin "any.loop" ⟨[.ref a], []⟩) R s
      refine codeAny_builtin F.entry_any_loop ?_
      rw [Around.under_plainId F.plain_any_loop _]
      show wpAny _ A.in1 (pyNext (.ref a) >>= _) _ _ s
      refine wpAny_bind (next_genG (A := A.in1) (Er := fun _ _ => False) hh hl hd hg hgs hgo' (fun v s₁ gs' hbare hv => ?_) (fun s₁ hp h' hk => ?_) fun e s₁ he => he.elim)
      · obtain ⟨c, σ', H', rfl, I, hq⟩ := hv
        by_cases hcd : c = false
        · rw [if_pos hcd] at hq
          exact (hq s₁ ⟨rfl, I.bare, fun _ _ e => e⟩).elim
        · rw [if_neg hcd] at hq
          have hc : c = true := by cases c <;> simp at hcd ⊢
          subst hc
          refine wpAny_bind (wpAny_holding (wpAny_truthy_bool ?_))
          refine wpAny_bind (wpAny_letGo ?_)
          simp only [if_true]
          refine wpAny_bind (wpAny_rule (wpAny_pure ?_))
          exact hF σ' H' s₁ _ I hq ⟨rfl, allBare_setGen I.bare hbare, fun _ _ e => e⟩
      · obtain ⟨H', I, q⟩ := hp
        refine wpAny_bind (wpAny_rule (wpAny_pure ?_))
        exact hT H' s₁ _ I q ⟨rfl, allBare_setGen I.bare rfl, hk⟩
    · show codeAny (model X.prog X.w) A (.builtin "all.loop" ⟨[.ref a], []⟩) R s
      refine codeAny_builtin F.entry_all_loop ?_
      rw [Around.under_plainId F.plain_all_loop _]
      show wpAny _ A.in1 (pyNext (.ref a) >>= _) _ _ s
      refine wpAny_bind (next_genG (A := A.in1) (Er := fun _ _ => False) hh hl hd hg hgs hgo' (fun v s₁ gs' hbare hv => ?_) (fun s₁ hp h' hk => ?_) fun e s₁ he => he.elim)
      · obtain ⟨c, σ', H', rfl, I, hq⟩ := hv
        by_cases hcd : c = true
        · rw [if_pos hcd] at hq
          exact (hq s₁ ⟨rfl, I.bare, fun _ _ e => e⟩).elim
        · rw [if_neg hcd] at hq
          have hc : c = false := by cases c <;> simp at hcd ⊢
          subst hc
          refine wpAny_bind (wpAny_holding (wpAny_truthy_bool ?_))
          refine wpAny_bind (wpAny_letGo ?_)
          simp only [Bool.false_eq_true, if_false]
          refine wpAny_bind (wpAny_rule (wpAny_pure ?_))
          exact hF σ' H' s₁ _ I hq ⟨rfl, allBare_setGen I.bare hbare, fun _ _ e => e⟩
      · obtain ⟨H', I, q⟩ := hp
        refine wpAny_bind (wpAny_rule (wpAny_pure ?_))
        exact hT H' s₁ _ I q ⟨rfl, allBare_setGen I.bare rfl, hk⟩
  | succ n ih =>
    intro s hg hl ⟨gs, hgs, hgo'⟩
    have hgl : g < s.gens.size := (Array.getElem?_eq_some_iff.mp hgs).1
    have again : ∀ (σ' : L2.St) (H' : Hp) (s₁ : Shared) (gs' : GenState), gs'.bare = true → Inv X pz σ' H' s₁ → g + 1 ≤ (s₁.setGen g gs').gens.size → (∀ s', Kept s₁ s' → gs'.Goes (model X.prog X.w) A.in1.in1 (RG X pz σ0 QT) (YG X pz d QF) n (.send .none) s') →
        codeAny (model X.prog X.w) A (.builtin (loopId d) ⟨[.ref a], []⟩) R (s₁.setGen g gs') := fun σ' H' s₁ gs' hbare I hsz hq => by
      have hsz1 : g < s₁.gens.size := by
        have q : (s₁.setGen g gs').gens.size = s₁.gens.size := setGen_size _ _ _
        omega
      refine ih (s₁.setGen g gs') (hgo _ (I.pin (a, go) (List.mem_append_right _ hpz)).1) I.nolimit ⟨gs', setGen_at hsz1, hq _ ⟨rfl, allBare_setGen (s := s₁.setGen g gs') (allBare_setGen I.bare hbare) rfl, fun _ _ e => e⟩⟩
    cases d
    · show codeAny (model X.prog X.w) A (.builtin "any.loop" ⟨[.ref a], []⟩) R s
      refine codeAny_builtin F.entry_any_loop ?_
      rw [Around.under_plainId F.plain_any_loop _]
      show wpAny _ A.in1 (pyNext (.ref a) >>= _) _ _ s
      refine wpAny_bind (wpAny_gsz (n := g + 1) hgl (next_genG (A := A.in1) (Er := fun _ _ => False) hh hl hd hg hgs hgo' (fun v s₁ gs' hbare hv => ?_) (fun s₁ hp h' hk => ?_) fun e s₁ he => he.elim))
      · intro hsz
        obtain ⟨c, σ', H', rfl, I, hq⟩ := hv
        refine wpAny_bind (wpAny_holding (wpAny_truthy_bool ?_))
        refine wpAny_bind (wpAny_letGo ?_)
        cases c with
        | false =>
          rw [if_pos rfl] at hq
          simp only [Bool.false_eq_true, if_false]
          exact wpAny_pure ⟨plainId_quiet F.plain_any_loop _, again σ' H' s₁ gs' hbare I hsz hq⟩
        | true =>
          rw [if_neg (by decide)] at hq
          simp only [if_true]
          refine wpAny_bind (wpAny_rule (wpAny_pure ?_))
          exact hF σ' H' s₁ _ I hq ⟨rfl, allBare_setGen I.bare hbare, fun _ _ e => e⟩
      · intro hsz
        obtain ⟨H', I, q⟩ := hp
        refine wpAny_bind (wpAny_rule (wpAny_pure ?_))
        exact hT H' s₁ _ I q ⟨rfl, allBare_setGen I.bare rfl, hk⟩
    · show codeAny (model X.prog X.w) A (.builtin "all.loop" ⟨[.ref a], []⟩) R s
      refine codeAny_builtin F.entry_all_loop ?_
      rw [Around.under_plainId F.plain_all_loop _]
      show wpAny _ A.in1 (pyNext (.ref a) >>= _) _ _ s
      refine wpAny_bind (wpAny_gsz (n := g + 1) hgl (next_genG (A := A.in1) (Er := fun _ _ => False) hh hl hd hg hgs hgo' (fun v s₁ gs' hbare hv => ?_) (fun s₁ hp h' hk => ?_) fun e s₁ he => he.elim))
      · intro hsz
        obtain ⟨c, σ', H', rfl, I, hq⟩ := hv
        refine wpAny_bind (wpAny_holding (wpAny_truthy_bool ?_))
        refine wpAny_bind (wpAny_letGo ?_)
        cases c with
        | true =>
          rw [if_pos rfl] at hq
          simp only [if_true]
          exact wpAny_pure ⟨plainId_quiet F.plain_all_loop _, again σ' H' s₁ gs' hbare I hsz hq⟩
        | false =>
          rw [if_neg (by decide)] at hq
          simp only [Bool.false_eq_true, if_false]
          refine wpAny_bind (wpAny_rule (wpAny_pure ?_))
          exact hF σ' H' s₁ _ I hq ⟨rfl, allBare_setGen I.bare hbare, fun _ _ e => e⟩
      · intro hsz
        obtain ⟨H', I, q⟩ := hp
        refine wpAny_bind (wpAny_rule (wpAny_pure ?_))
        exact hT H' s₁ _ I q ⟨rfl, allBare_setGen I.bare rfl, hk⟩
end Gx

set_option Elab.async false
set_option linter.all false
set_option maxRecDepth 100000
set_option maxHeartbeats 4000000
namespace Gx
open PySem PySem.Spec PyProof.Rows L2 GenW
theorem over_gen {B : Around} {elt : Expr} {gens : List Comprehension} {scope : Scope} {pos : Pos} {it acc : Value} {env : Env} {st : List Env} (h : B.frames = some st) :
    (B.over (.compLoop (.GeneratorExp elt gens scope pos) 0 it acc env) []).frames = some (env :: st) := by
  have e1 : (B.over (.compLoop (.GeneratorExp elt gens scope pos) 0 it acc env) []).frames = pushEnvs (Code.envs (.compLoop (.GeneratorExp elt gens scope pos) 0 it acc env)) (pushEnvs (envsOf (([] : List Frame).map Frame.where_)) B.frames) := rfl
  rw [e1, h]
  rfl
/-- the reading: by d the walk goes on -/
def tQX (d : Bool) (wi : TI) (g : TG) (tt : TT) (te : TE) (vs : List Nat) (P : Addr) : TE := fun σ H Q => wi σ H fun J H1 => GxR.TabG H1 P ∧ ∀ H2, GxR.Tabbed P H1 H2 → ∃ W : Nat → Nat → Hp → Prop, (∃ m, W 0 m H2) ∧
  Turns J g tt te vs σ d (fun H => Q (.bl d) H) (fun H => Q (.bl (!d)) H) W
section
variable {X : Cx} {pins : List (Addr × Obj)} {σ : L2.St} {H : Hp} {s : Shared}
theorem gen_core {c P : Addr} {elt tg iter : Expr} {ifs : List Expr} {gpos : Pos} {scope : Scope} {own : List (Str × Nat)} {wi : TI} {g : TG} {tt : TT} {te : TE} {k : Nat} {d : Bool} {Q : VK}
    (hr : Room (k + 1) X.A) (hc : X.calm = true) (hN : X.N.Nodup) (TB : GxR.TabB X.base X.mg c P) (hcode : X.env.code = .ref c) (ok : BlkOk X.N X.env.scope scope own) (S : GenK scope) (hi : PI X tg iter wi) (hs : ∀ v, genFold iter X.env v = pure v)
    (hg : ∀ (A : Around) (s : Shared) (H : Hp) (C : Addr) (code : Value) (fp : List Addr), Room k A → PG (gcx X A s H (genEnv scope (cloFrom X.env.cells scope.names []) C code builtinsNs X.env) fp) tg g)
    (ht : ∀ (A : Around) (s : Shared) (H : Hp) (C : Addr) (code : Value) (fp : List Addr), Room k A → PTs (gcx X A s H (genEnv scope (cloFrom X.env.cells scope.names []) C code builtinsNs X.env) fp) ifs tt)
    (he : ∀ (A : Around) (s : Shared) (H : Hp) (C : Addr) (code : Value) (fp : List Addr), Room k A → PE (gcx X A s H (genEnv scope (cloFrom X.env.cells scope.names []) C code builtinsNs X.env) fp) elt te)
    (I : Inv X pins σ H s) (h : tQX d wi g tt te (own.map (·.2)) P σ H Q) :
    wpAny (model X.prog X.w) X.A (eval (.GeneratorExp elt [⟨tg, iter, ifs, 0⟩] scope gpos) X.env) (fun v s5 => ∃ (a : Addr) (gn : Nat), v = .ref a ∧ s5.heap.IsGen a gn ∧
      codeAny (model X.prog X.w) X.A (.builtin (loopId d) ⟨[.ref a], []⟩) (fun r s' => ∃ b, r = .ok (.ret (.bool b)) ∧ EP X pins σ Q (.bool b) s') s5) X.xe s := by
  have hfree : ∀ y ∈ scope.names, y.2 = .free → ∃ c, X.env.cells.lookup y.1 = some c := fun y hy e => by
    rcases ok.free y hy e with k | k
    · exact I.ok.has _ (.inl k)
    · exact I.ok.has _ (.inr k)
  refine wpAny_GeneratorExp_make S.co (closure_ok hfree) S.cell S.dot ok.kind hr.depth (wpAny_mono (hi.run pins s σ H _ I h) (fun xv s1 h1 => wpAny_mono h1 (fun itv s2 h2 => ?_) fun _ _ e => e) fun _ _ e => e) hs
  obtain ⟨it, fp, tn, J, H1, rfl, I2, T, st2, f2, ⟨ps, hP, htr⟩, hW⟩ := h2
  refine ⟨I2.nolimit, ?_⟩
  have tabS : s2.heap.get? P = some { cls := .none, data := .fields ps } := I2.hok P _ hP
  have hd : PySem.W.CodeHd s2.heap c P := TB.code.keeps fun b u e => I2.bk b u e
  have key : ∀ (REST : Value → Shared → Prop), (∀ (cv : Value) (h3 : Heap) (tk : Nat) (more : Array Value), Heap.ExtBut P s2.heap h3 → s2.heap.objs.size ≤ h3.objs.size → h3.get? P = some { cls := .none, data := .fields (ps ++ more) } → TriplesOk (ps ++ more).toList → REST cv { s2 with heap := h3, toks := tk }) →
      wpAny (model X.prog X.w) X.A (genexprCode X.env gpos (X.env.qual ++ "<genexpr>") scope) REST X.xe s2 := fun REST fin => by
    cases hf : codeAmong gpos ps.toList with
    | some cv =>
      have e : ps = ps ++ #[] := by simp
      exact wpAny_genexprCode_hit hcode (hd.code tabS htr) hf (fin cv _ s2.toks #[] (Heap.ExtBut.refl _ _) (Nat.le_refl _) (e ▸ tabS) (e ▸ htr))
    | none =>
      refine wpAny_genexprCodeX hcode (hd.code tabS htr) (hd.tab tabS) hf fun c' h3 tk ex ge lt ic _ ta _ => ?_
      obtain ⟨_, _, _, _, _, _, _, _, _, _, _, _, _, _, _, _, _, _, _, tr, _⟩ := ic
      exact fin _ h3 tk _ ex (Nat.le_trans ge (Nat.le_of_lt lt)) ta.2 tr
  refine key _ fun cv h3 tk more ex ge tab3 tr3 => ?_
  obtain ⟨bm, ob, b1, b2, b3, b4, b5, b6, b7, b8⟩ := TB.bm
  refine wpAny_builtinsFor (m := X.mg) (by rw [I2.ok.glob]; exact (I2.mod.glob.keeps I2.bk).extBut ex TB.gP) b1 b2 (ex _ _ b4 (I2.bk _ _ b5)) b6 b7 b8 ?_
  intro h' hn' hs'
  generalize hs3 : ({ s2 with heap := h3, toks := tk } : Shared) = s3 at hn' hs' ⊢
  have e3 : s3.heap = h3 := by rw [← hs3]
  have I3 : Inv X pins σ (upd H1 P (.tbl (ps ++ more))) s3 := by
    rw [← hs3]
    exact GxR.inv_tab (more := more) (h' := h3) (g' := s2.gens) (d' := s2.drawn) (t' := tk) I2 hP (fun b o n e => ex b o n e) tab3 I2.bare
  obtain ⟨W, ⟨m0, w0⟩, turn⟩ := hW _ ⟨⟨ps ++ more, upd_same, tr3⟩, fun b hb => upd_ne hb⟩
  have neP : ∀ b ∈ fp, b ≠ P := fun b hb z => by
    have := (f2 b hb).1
    rw [z, hP] at this
    cases this
  have f3 : ∀ b ∈ fp, FpOk X pins (upd H1 P (.tbl (ps ++ more))) b ∧ b < s3.heap.objs.size := fun b hb => by
    obtain ⟨o, e, _⟩ := T.obj _ _ st2 b hb
    refine ⟨⟨?_, (f2 b hb).2⟩, by rw [e3]; exact Nat.lt_of_lt_of_le (Heap.lt_size e) ge⟩
    rw [upd_ne (neP b hb)]
    exact (f2 b hb).1
  have st3 : tn 0 s3.heap := T.keep _ _ _ st2 fun b hb o e => by rw [e3]; exact ex b o (neP b hb) e
  generalize hH3 : upd H1 P (.tbl (ps ++ more)) = H3 at I3 w0 f3
  have nf : ∀ b ∈ fp, H3 b = none := fun b hb => (f3 b hb).1.1
  -- the generator's object
  generalize hgo : ({ cls := .type "generator", data := .fields #[.int s3.gens.size 0, .str "<genexpr>" (s3.toks + 1), .str (X.env.qual ++ "<genexpr>") (s3.toks + 1 + 1)] } : Obj) = go
  have sz' : h'.objs.size = s3.heap.objs.size + 1 := by rw [hs'.1, Heap.size_push]
  generalize hs5 : ({ s3 with gens := s3.gens.push (.fresh (.compStart (.GeneratorExp elt [⟨tg, iter, ifs, 0⟩] scope gpos) 0 (.ref it) .none (genEnv scope (cloFrom X.env.cells scope.names []) s3.heap.objs.size cv builtinsNs X.env))), toks := s3.toks + 1 + 1 + 1, heap := h'.push go } : Shared) = s5
  have h5 : s5.heap = h'.push go := by rw [← hs5]
  have kp : Kept s3 s5 := by
    refine ⟨by rw [← hs5], by rw [← hs5]; exact AllBare.push I3.bare rfl, fun b o e => ?_⟩
    rw [h5]
    exact Heap.get?_push_of_some _ (hs'.extBut b o (Nat.ne_of_lt (Heap.lt_size e)) (Heap.get?_push_of_some _ e))
  have hga : s5.heap.get? h'.objs.size = some go := by rw [h5, ← hgo]; exact Heap.get?_push_size _ rfl
  have isg : ∀ h : Heap, h.get? h'.objs.size = some go → h.IsGen h'.objs.size s3.gens.size := fun h e => ⟨go, _, _, e, by rw [← hgo], by rw [← hgo], by rw [← hgo]⟩
  have hgs : s5.gens[s3.gens.size]? = some (.fresh (.compStart (.GeneratorExp elt [⟨tg, iter, ifs, 0⟩] scope gpos) 0 (.ref it) .none (genEnv scope (cloFrom X.env.cells scope.names []) s3.heap.objs.size cv builtinsNs X.env))) := by
    rw [← hs5]
    exact Array.getElem?_push_size ..
  have hns : s5.heap.Ns s3.heap.objs.size (fun y => if y = ".0" then some (.ref it) else none) := by rw [h5]; exact hn'.push _
  have hfrX : X.A.frames = some X.stack := I3.ok.frames
  have rm : Room k (X.A.in1.in1.over (.compLoop (.GeneratorExp elt [⟨tg, iter, ifs, 0⟩] scope gpos) 0 (.ref it) .none (genEnv scope (cloFrom X.env.cells scope.names []) s3.heap.objs.size cv builtinsNs X.env)) []) := by
    have h1 := hr.dp
    have h2 := hr.un
    refine ⟨hr.hd, ?_, ?_⟩
    · show X.A.depth + 0 + 1 + 3 * k + 5 < _
      omega
    · show X.A.units + 1 + 1 + 0 + 3 + 16 * k + 200 < _
      omega
  have Ig := gen_start I3 ok S hN f3 rm.hd (over_gen (show X.A.in1.in1.frames = some X.stack from hfrX)) kp hns
  have aC : h'.objs.size ≠ s3.heap.objs.size := by omega
  have Ig2 : Inv (gcx X (X.A.in1.in1.over (.compLoop (.GeneratorExp elt [⟨tg, iter, ifs, 0⟩] scope gpos) 0 (.ref it) .none (genEnv scope (cloFrom X.env.cells scope.names []) s3.heap.objs.size cv builtinsNs X.env)) []) s3 H3 (genEnv scope (cloFrom X.env.cells scope.names []) s3.heap.objs.size cv builtinsNs X.env) fp) [(h'.objs.size, go)] (wipe σ (own.map (·.2))) H3 s5 := by
    refine Ig.pins_of fun p hp => ?_
    rw [List.mem_singleton.mp hp]
    refine ⟨hga, I3.hok.fresh (by omega), aC, fun z => ?_, fun v q => by rw [← hgo] at q; cases q⟩
    rcases List.mem_cons.mp (I3.stkSub _ z) with z | z
    · have z : h'.objs.size = X.env.locals := z
      have q : h'.objs.size < s3.heap.objs.size := by rw [z]; exact I3.lt
      omega
    · exact I3.nofs (by omega) z
  have hpz : ∀ p ∈ [(h'.objs.size, go)], p.1 ∉ fp := fun p hp z => by
    rw [List.mem_singleton.mp hp] at z
    have q : h'.objs.size < s3.heap.objs.size := (f3 _ z).2
    omega
  have back : ∀ (σ' : L2.St) (H' : Hp) (s1 s' : Shared), Inv (gcx X (X.A.in1.in1.over (.compLoop (.GeneratorExp elt [⟨tg, iter, ifs, 0⟩] scope gpos) 0 (.ref it) .none (genEnv scope (cloFrom X.env.cells scope.names []) s3.heap.objs.size cv builtinsNs X.env)) []) s3 H3 (genEnv scope (cloFrom X.env.cells scope.names []) s3.heap.objs.size cv builtinsNs X.env) fp) [(h'.objs.size, go)] σ' H' s1 → Kept s1 s' → Inv X pins σ H' s' := fun σ' H' s1 s' J1 k1 => by
    have J := Inv.keptS J1 k1
    exact I3.call' (ch := fp) J.os J.base J.hok J.bare fun b hb => ⟨(f3 b hb).1.2.2.2.1, (f3 b hb).1.2.1, (f3 b hb).1.2.2.2.2.1, (f3 b hb).1.2.2.2.2.2⟩
  refine ⟨_, s3.gens.size, rfl, isg _ hga, walk_loop (X := gcx X (X.A.in1.in1.over (.compLoop (.GeneratorExp elt [⟨tg, iter, ifs, 0⟩] scope gpos) 0 (.ref it) .none (genEnv scope (cloFrom X.env.cells scope.names []) s3.heap.objs.size cv builtinsNs X.env)) []) s3 H3 (genEnv scope (cloFrom X.env.cells scope.names []) s3.heap.objs.size cv builtinsNs X.env) fp) (pz := [(h'.objs.size, go)]) (σ0 := wipe σ (own.map (·.2))) (QT := fun H => Q (.bl d) H) (QF := fun H => Q (.bl (!d)) H) d (List.mem_singleton.mpr rfl) isg hr.hd hr.depth (fun H' s1 s' J1 q k1 => ⟨d, rfl, .bl d, H', back _ H' s1 s' J1 k1, rfl, q⟩) (fun σ' H' s1 s' J1 q k1 => ⟨!d, rfl, .bl (!d), H', back σ' H' s1 s' J1 k1, rfl, q⟩) (m0 + 1) s5 (isg _ hga) Ig2.nolimit ⟨_, hgs, rfl, ?_⟩⟩
  have k6 : Kept s5 (s5.setGen s3.gens.size .running) := ⟨rfl, allBare_setGen kp.bare rfl, fun _ _ e => e⟩
  have st5 : tn 0 (s5.setGen s3.gens.size .running).heap := T.keep _ _ _ st3 fun b hb o e => kp.keep b o e
  exact seg_start T st5 (seg_loop T hc rfl S.co hpz (hg _ _ _ _ _ _ rm) (ht _ _ _ _ _ _ rm) (he _ _ _ _ _ _ rm) turn m0 (m0 + 1) 0 _ _ H3 (Nat.lt_succ_self _) (Inv.keptS Ig2 k6) st5 nf w0)
theorem pe_allX {c P : Addr} {elt tg iter : Expr} {ifs : List Expr} {gpos p pos : Pos} {scope : Scope} {own : List (Str × Nat)} {wi : TI} {g : TG} {tt : TT} {te : TE} {k : Nat}
    (hr : Room (k + 1) X.A) (hgl : Gl X "all") (hm : X.mg "all" = none) (hc : X.calm = true) (hN : X.N.Nodup) (TB : GxR.TabB X.base X.mg c P) (hcode : X.env.code = .ref c) (ok : BlkOk X.N X.env.scope scope own) (S : GenK scope) (hi : PI X tg iter wi)
    (hg : ∀ (A : Around) (s : Shared) (H : Hp) (C : Addr) (code : Value) (fp : List Addr), Room k A → PG (gcx X A s H (genEnv scope (cloFrom X.env.cells scope.names []) C code builtinsNs X.env) fp) tg g)
    (ht : ∀ (A : Around) (s : Shared) (H : Hp) (C : Addr) (code : Value) (fp : List Addr), Room k A → PTs (gcx X A s H (genEnv scope (cloFrom X.env.cells scope.names []) C code builtinsNs X.env) fp) ifs tt)
    (he : ∀ (A : Around) (s : Shared) (H : Hp) (C : Addr) (code : Value) (fp : List Addr), Room k A → PE (gcx X A s H (genEnv scope (cloFrom X.env.cells scope.names []) C code builtinsNs X.env) fp) elt te)
    (hs : ∀ v, genFold iter X.env v = pure v := by intro _; rfl)
    (hst : starEach [.GeneratorExp elt [⟨tg, iter, ifs, 0⟩] scope gpos] X.env = (false, eval (.GeneratorExp elt [⟨tg, iter, ifs, 0⟩] scope gpos) X.env) :: starEach [] X.env := by rfl) :
    PE X (.Call (.Name "all" p) [.GeneratorExp elt [⟨tg, iter, ifs, 0⟩] scope gpos] [] pos) (tQX true wi g tt te (own.map (·.2)) P) := by
  refine ⟨fun pins s σ H Q I h => ?_⟩
  refine wpAny_Call_Name_kw (ld_blt I hgl hm boot_all (PyProof.Rows.callWith_builtin1 ?_ hst (by rfl)))
  rw [hst]
  show wpAny _ _ (spliced ((false, _) :: backTo pos (starEach [] X.env))) _ _ s
  refine Calls.spliced_cons (wpAny_mono (gen_core hr hc hN TB hcode ok S hi hs hg ht he I h) (fun v s5 hx => ?_) fun _ _ e => e)
  obtain ⟨a, gn, rfl, hgn, hcd⟩ := hx
  refine Calls.spliced_nil ?_
  refine call_function_tree F.kind_all F.plain_all F.entry_all (F.args_all1 _) ?_
  unfold Builtin.«all»
  refine wpAny_bind (m := oneArg "all" _) (wpAny_pure ?_)
  refine wpAny_bind (wpAny_pyIter_gen hgn ?_)
  exact wpAny_pure ⟨plainId_quiet F.plain_all_loop _, codeAny_mono hcd fun r s' hx => by obtain ⟨b, rfl, q⟩ := hx; exact q⟩
theorem pe_anyX {c P : Addr} {elt tg iter : Expr} {ifs : List Expr} {gpos p pos : Pos} {scope : Scope} {own : List (Str × Nat)} {wi : TI} {g : TG} {tt : TT} {te : TE} {k : Nat}
    (hr : Room (k + 1) X.A) (hgl : Gl X "any") (hm : X.mg "any" = none) (hc : X.calm = true) (hN : X.N.Nodup) (TB : GxR.TabB X.base X.mg c P) (hcode : X.env.code = .ref c) (ok : BlkOk X.N X.env.scope scope own) (S : GenK scope) (hi : PI X tg iter wi)
    (hg : ∀ (A : Around) (s : Shared) (H : Hp) (C : Addr) (code : Value) (fp : List Addr), Room k A → PG (gcx X A s H (genEnv scope (cloFrom X.env.cells scope.names []) C code builtinsNs X.env) fp) tg g)
    (ht : ∀ (A : Around) (s : Shared) (H : Hp) (C : Addr) (code : Value) (fp : List Addr), Room k A → PTs (gcx X A s H (genEnv scope (cloFrom X.env.cells scope.names []) C code builtinsNs X.env) fp) ifs tt)
    (he : ∀ (A : Around) (s : Shared) (H : Hp) (C : Addr) (code : Value) (fp : List Addr), Room k A → PE (gcx X A s H (genEnv scope (cloFrom X.env.cells scope.names []) C code builtinsNs X.env) fp) elt te)
    (hs : ∀ v, genFold iter X.env v = pure v := by intro _; rfl)
    (hst : starEach [.GeneratorExp elt [⟨tg, iter, ifs, 0⟩] scope gpos] X.env = (false, eval (.GeneratorExp elt [⟨tg, iter, ifs, 0⟩] scope gpos) X.env) :: starEach [] X.env := by rfl) :
    PE X (.Call (.Name "any" p) [.GeneratorExp elt [⟨tg, iter, ifs, 0⟩] scope gpos] [] pos) (tQX false wi g tt te (own.map (·.2)) P) := by
  refine ⟨fun pins s σ H Q I h => ?_⟩
  refine wpAny_Call_Name_kw (ld_blt I hgl hm boot_any (PyProof.Rows.callWith_builtin1 ?_ hst (by rfl)))
  rw [hst]
  show wpAny _ _ (spliced ((false, _) :: backTo pos (starEach [] X.env))) _ _ s
  refine Calls.spliced_cons (wpAny_mono (gen_core hr hc hN TB hcode ok S hi hs hg ht he I h) (fun v s5 hx => ?_) fun _ _ e => e)
  obtain ⟨a, gn, rfl, hgn, hcd⟩ := hx
  refine Calls.spliced_nil ?_
  refine call_function_tree F.kind_any F.plain_any F.entry_any (F.args_any1 _) ?_
  unfold Builtin.«any»
  refine wpAny_bind (m := oneArg "any" _) (wpAny_pure ?_)
  refine wpAny_bind (wpAny_pyIter_gen hgn ?_)
  exact wpAny_pure ⟨plainId_quiet F.plain_any_loop _, codeAny_mono hcd fun r s' hx => by obtain ⟨b, rfl, q⟩ := hx; exact q⟩
end
end Gx

set_option Elab.async false
set_option linter.all false
set_option maxRecDepth 100000
set_option maxHeartbeats 4000000
/-! the turns, by source -/
namespace Gx
open PySem PySem.Spec PyProof.Rows L2
theorem all_range {lo : Int} {n : Nat} {g : TG} {tt : TT} {te : TE} {vs : List Nat} {σ : L2.St} {d : Bool} {QT QF : Hp → Prop} {H2 : Hp} (Pv : Nat → Hp → Prop) (h0 : Pv 0 H2)
    (hs : ∀ i H, i < n → Pv i H → g (.int (lo + i)) (wipe σ vs) H fun σ2 H2 => wipe σ2 vs = wipe σ vs ∧ tt σ2 H2 fun b H3 => if b = true then te σ2 H3 fun y H4 => ∃ c, y = .bl c ∧ (if c = d then Pv (i + 1) H4 else QF H4) else Pv (i + 1) H3) (hd : ∀ H, Pv n H → QT H) :
    ∃ W : Nat → Nat → Hp → Prop, (∃ m, W 0 m H2) ∧ Turns (Itr lo n) g tt te vs σ d QT QF W := by
  refine ⟨fun i m H => m = n - i ∧ i ≤ n ∧ Pv i H, ⟨n, by simp, Nat.zero_le _, h0⟩, ?_⟩
  rintro i m H ⟨rfl, hi, p⟩
  by_cases hlt : i < n
  · refine .inr ⟨hlt, Pv (i + 1), fun H' p' => ⟨n - (i + 1), by omega, rfl, hlt, p'⟩, fun x H' y => ?_⟩
    obtain ⟨e, y⟩ := y
    subst e y
    exact hs i _ hlt p
  · have e : i = n := by omega
    subst e
    exact .inl ⟨Nat.le_refl _, hd H p⟩
theorem all_tup {K : PySem.W.Frag} {a : Addr} {xs : List V} {g : TG} {tt : TT} {te : TE} {vs : List Nat} {σ : L2.St} {d : Bool} {QT QF : Hp → Prop} {H2 : Hp} (Pv : Nat → Hp → Prop) (h0 : Pv 0 H2) (hl : ∀ i H, i ≤ xs.length → Pv i H → SqT K H a xs)
    (hs : ∀ i x H, xs[i]? = some x → Pv i H → g x (wipe σ vs) H fun σ2 H2 => wipe σ2 vs = wipe σ vs ∧ tt σ2 H2 fun b H3 => if b = true then te σ2 H3 fun y H4 => ∃ c, y = .bl c ∧ (if c = d then Pv (i + 1) H4 else QF H4) else Pv (i + 1) H3) (hd : ∀ H, Pv xs.length H → QT H) :
    ∃ W : Nat → Nat → Hp → Prop, (∃ m, W 0 m H2) ∧ Turns (Itt K a) g tt te vs σ d QT QF W := by
  refine ⟨fun i m H => m = xs.length - i ∧ i ≤ xs.length ∧ Pv i H, ⟨xs.length, by simp, Nat.zero_le _, h0⟩, ?_⟩
  rintro i m H ⟨rfl, hi, p⟩
  have q := hl i H hi p
  by_cases hlt : i < xs.length
  · refine .inr ⟨⟨xs, xs[i], q, by simp [hlt]⟩, Pv (i + 1), fun H' p' => ⟨xs.length - (i + 1), by omega, rfl, hlt, p'⟩, fun x H' y => ?_⟩
    obtain ⟨e, y⟩ := y
    subst e
    exact hs i x _ (y xs q) p
  · have e : i = xs.length := by omega
    subst e
    exact .inl ⟨⟨xs, q, Nat.le_refl _⟩, hd H p⟩
theorem all_list {K : PySem.W.Frag} {a : Addr} {xs : List V} {g : TG} {tt : TT} {te : TE} {vs : List Nat} {σ : L2.St} {d : Bool} {QT QF : Hp → Prop} {H2 : Hp} (Pv : Nat → Hp → Prop) (h0 : Pv 0 H2) (hl : ∀ i H, i ≤ xs.length → Pv i H → SqL K H a xs)
    (hs : ∀ i x H, xs[i]? = some x → Pv i H → g x (wipe σ vs) H fun σ2 H2 => wipe σ2 vs = wipe σ vs ∧ tt σ2 H2 fun b H3 => if b = true then te σ2 H3 fun y H4 => ∃ c, y = .bl c ∧ (if c = d then Pv (i + 1) H4 else QF H4) else Pv (i + 1) H3) (hd : ∀ H, Pv xs.length H → QT H) :
    ∃ W : Nat → Nat → Hp → Prop, (∃ m, W 0 m H2) ∧ Turns (Itl K a) g tt te vs σ d QT QF W := by
  refine ⟨fun i m H => m = xs.length - i ∧ i ≤ xs.length ∧ Pv i H, ⟨xs.length, by simp, Nat.zero_le _, h0⟩, ?_⟩
  rintro i m H ⟨rfl, hi, p⟩
  have q := hl i H hi p
  by_cases hlt : i < xs.length
  · refine .inr ⟨⟨xs, xs[i], q, by simp [hlt]⟩, Pv (i + 1), fun H' p' => ⟨xs.length - (i + 1), by omega, rfl, hlt, p'⟩, fun x H' y => ?_⟩
    obtain ⟨e, y⟩ := y
    subst e
    exact hs i x _ (y xs q) p
  · have e : i = xs.length := by omega
    subst e
    exact .inl ⟨⟨xs, q, by simp⟩, hd H p⟩
end Gx

set_option Elab.async false
set_option linter.all false
set_option maxRecDepth 100000
set_option maxHeartbeats 4000000
namespace Rd
open PySem PySem.Spec PyProof.Rows L2
def topS (i : Nat) : Stmt := PySem.Challenge.pw_redraw_k07_greatest_riddles.main.body.getD i (.Pass ⟨0, 0, 0, 0⟩)
abbrev sWell : Stmt := topS 24
abbrev sDraw : Stmt := topS 25
abbrev nWell : List Str := ["script", "seed", "cell"]
abbrev nDraw : List Str := ["well", "many", "cell", "found"]
theorem scWell : FnScope nWell ["script"] (defScope sWell) := ⟨rfl, rfl, rfl, by decide +kernel, rfl, by decide +kernel, by decide +kernel⟩
theorem scDraw : FnScope nDraw ["well", "many"] (defScope sDraw) := ⟨rfl, rfl, rfl, by decide +kernel, rfl, by decide +kernel, by decide +kernel⟩

/-! ### numbers -/
def CPowW (i j : Int) : Prop := 0 ≤ j ∧ (Builtin.Int.intBits i : Int) * j ≤ 2 ^ 27
theorem op_powW {X : Cx} : OpR X (binaryOp .Pow) (rI CPowW fun i j => .int (i ^ j.toNat)) := opI fun _ _ _ _ _ _ _ hc q => pow_int hc.1 hc.2 q
theorem abs_of_bits {a : Int} {n : Nat} (h : Builtin.Int.intBits a ≤ n) : a.natAbs < 2 ^ n := by
  unfold Builtin.Int.intBits at h
  by_cases e : a = 0
  · subst e
    exact Nat.two_pow_pos n
  · have e2 : a.natAbs ≠ 0 := by omega
    have h2 : a.natAbs.log2 + 1 ≤ n := by
      split at h
      · rename_i q
        simp at q
        exact absurd q e
      · exact h
    exact Nat.lt_of_lt_of_le Nat.lt_log2_self (Nat.pow_le_pow_right (by decide) h2)
theorem mix_bits {sd c : Int} {n : Nat} (h0 : 0 ≤ sd) (h1 : sd ≤ 2147483629) (hc : Builtin.Int.intBits c ≤ n) (hn : 47 ≤ n) : Builtin.Int.intBits (sd * 50021 + c) ≤ n + 1 := by
  refine intBits_le ?_
  have a := abs_of_bits hc
  have b : (140737488355328 : Nat) ≤ 2 ^ n := Nat.le_trans (by decide : (140737488355328 : Nat) ≤ 2 ^ 47) (Nat.pow_le_pow_right (by decide) hn)
  rw [Nat.pow_succ]
  generalize (2 : Nat) ^ n = m at a b
  omega

/-! ### the well -/
structure WellC (cs : List Int) (b c : Int) : Prop where
  b0 : 0 ≤ b
  c0 : 0 ≤ c
  c1 : c ≤ 2147483647
  nn : ∀ x ∈ cs, 0 ≤ x
def Well (H : Hp) (wl cl : Addr) : Prop := ∃ (cs : List Int) (b c : Int), H wl = some (.lst [.ref cl, .int b, .int c]) ∧ H cl = some (.lst (cs.map V.int)) ∧ WellC cs b c
theorem Well.ne {H : Hp} {wl cl : Addr} (h : Well H wl cl) : wl ≠ cl := by
  obtain ⟨cs, b, c, h1, h2, _⟩ := h
  refine ne_of h1 h2 fun e => ?_
  cases cs with
  | nil => cases e
  | cons x r => cases e
/-- H' is H but for the well -/
def Drawn (wl cl : Addr) (H H' : Hp) : Prop := (∀ b o, b ≠ wl → b ≠ cl → H b = some o → H' b = some o) ∧ Well H' wl cl
theorem same_upd {H : Hp} {p : Addr} {o : HO} (h : H p = none) : Same H (upd H p o) := fun b x e => by
  rw [upd_ne (ne_of_none e h)]
  exact e
def spWell (K : PySem.W.Frag) : Sp := fun vs H Q _ => ∃ (a : Addr) (ns : List Int), vs = [.ref a] ∧ SqL K H a (ns.map V.int) ∧ ns.length ≤ 63 ∧ (∀ z ∈ ns, Builtin.Int.intBits z ≤ 1048576) ∧
  ∀ H' wl cl, Same H H' → H wl = none → H cl = none → Well H' wl cl → Q (.ref wl) H'
def spDraw : Sp := fun vs H Q _ => ∃ (wl cl : Addr) (m : Int), vs = [.ref wl, .int m] ∧ Well H wl cl ∧ 1 ≤ m ∧ m.natAbs.log2 < 9000 ∧
  ∀ H' d, Drawn wl cl H H' → 0 ≤ d → d < m → Q (.int d) H'
section
variable {P : Program} {w : World} {K : PySem.W.Frag} {mg : Str → Option Value} {base : Heap}
theorem ok_well {f : Addr} {fd : FuncData} {k : Nat} (F : Fun K "_law_well" "_law_well" sWell f fd) (mabs : mg "abs" = none) : FnOk P w K mg base CX0 (k + 1) f fd ["script"] (spWell K) := by
  refine F.ok scWell (fun vs H Q E h => ?_) (fun cdv A outer s H vs Q E hr h => ?_)
  · obtain ⟨a, ns, rfl, _⟩ := h
    rfl
  · obtain ⟨a, ns, rfl, hS, hlen, hbits, q⟩ := h
    refine ⟨_, pss_cons (ps_set (i := 1) scWell.nd rfl (.inl rfl) pe_int)
      (pss_cons (ps_for PassesOwn.never rfl (pi_list (pv 0)) (pg_name (i := 2) scWell.nd rfl (.inl rfl))
        (pss_one (ps_set (i := 1) scWell.nd rfl (.inl rfl) (pe_op op_add (pe_op op_mod (pe_op op_powW (pe_op op_add (pe_op op_mul (pv 1) pe_int) (pv 2)) pe_int) pe_int) pe_int))))
      (pss_one (ps_ret (pe_lst (pa_cons (pe_lc (own := [("cell", 2)]) (g := gName 2) (tt := tYes) rfl scWell.nd (pi_list (pv 0)) (blkOk_by (own := [("cell", 2)]) (N := nWell) (sc := defScope sWell) (by decide +kernel))
          (fun _ _ _ _ _ => pg_name (i := 2) scWell.nd rfl (Or.inl rfl)) (fun _ _ _ _ _ => pts_nil) (fun _ _ _ _ _ => pe_callB call_abs (by rfl) mabs (by decide +kernel) (pa_cons (pv 2) pa_nil)))
        (pa_cons pe_int (pa_cons (pv 1) pa_nil))))))), ?_⟩
    refine ⟨.ref a, rfl, a, rfl, ⟨_, hS⟩, for_list (xs := ns.map V.int) (fun i σ H' => ∃ y2 sd, σ = [some (.ref a), some (.int sd), y2] ∧ 0 ≤ sd ∧ sd ≤ 2147483629 ∧ H' = H) ⟨none, 1, rfl, by decide, by decide, rfl⟩ (fun i σ H' _ p => ?_) (fun i x σ H' hx p => ?_) (fun σ H' p => ?_)⟩
    · obtain ⟨_, _, _, _, _, rfl⟩ := p
      exact hS
    · obtain ⟨y2, sd, rfl, h0, h1, rfl⟩ := p
      rw [List.getElem?_map] at hx
      obtain ⟨z, hz, rfl⟩ : ∃ z, ns[i]? = some z ∧ V.int z = x := by
        cases e : ns[i]? with
        | none => rw [e] at hx; cases hx
        | some z => rw [e] at hx; exact ⟨z, rfl, Option.some.inj hx⟩
      have hb := hbits z (List.mem_of_getElem? hz)
      have hm := mix_bits h0 h1 hb (by decide)
      refine ⟨_, rfl, sd, 50021, rfl, rfl, .inl ⟨by omega, by omega⟩, _, rfl, _, _, rfl, rfl, _, _, rfl, rfl, ⟨by decide, by omega⟩, _, _, rfl, rfl, (by show (0 : Int) < 2147483629; decide), _, _, rfl, rfl, ?_⟩
      have g1 := Int.emod_nonneg ((sd * 50021 + z) ^ (3 : Int).toNat) (by decide : (2147483629 : Int) ≠ 0)
      have g2 := Int.emod_lt_of_pos ((sd * 50021 + z) ^ (3 : Int).toNat) (by decide : (0 : Int) < 2147483629)
      exact ⟨_, _, rfl, by omega, by omega, rfl⟩
    · obtain ⟨y2, sd, rfl, h0, h1, rfl⟩ := p
      refine ⟨.ref a, rfl, a, rfl, ⟨_, hS⟩, fun D hD => lc_list (K := K) (a := a) (xs := ns.map V.int) (fun i H1 => H1 D = some (.lst (((ns.take i).map fun z => if z < 0 then -z else z).map V.int)) ∧ Same H' H1 ∧ ∀ b, b ≠ D → H1 b = H' b) ⟨upd_same, same_upd hD, fun b hb => upd_ne hb⟩ (fun i H1 _ p => p.2.1.seq hS) (fun i x H1 hx p => ?_) (fun H1 p => ?_)⟩
      · rw [List.getElem?_map] at hx
        obtain ⟨z, hz, rfl⟩ : ∃ z, ns[i]? = some z ∧ V.int z = x := by
          cases e : ns[i]? with
          | none => rw [e] at hx; cases hx
          | some z => rw [e] at hx; exact ⟨z, rfl, Option.some.inj hx⟩
        refine ⟨rfl, ?_⟩
        dsimp only [tYes]
        rw [if_pos rfl]
        refine ⟨.int z, rfl, z, rfl, _, p.1, ?_, ?_, ?_, ?_⟩
        · rw [List.length_map, List.length_map, List.length_take]
          exact small1000 (by omega)
        · rw [upd_same, List.take_add_one, hz, List.map_append, List.map_append]
          rfl
        · intro b o e
          rw [upd_ne (ne_of_none e hD)]
          exact p.2.1 b o e
        · intro b hb
          rw [upd_ne hb]
          exact p.2.2 b hb
      · obtain ⟨p1, p2, p3⟩ := p
        rw [List.length_map, List.take_length] at p1
        refine ⟨.int sd, rfl, (by show 3 ≤ sizeLine; decide), fun l hl => ?_⟩
        have ne : D ≠ l := ne_of_none p1 hl
        refine q _ l D (p2.trans (same_upd hl)) ?_ hD ⟨_, 0, sd, upd_same, by rw [upd_ne ne]; exact p1, by decide, h0, by omega, ?_⟩
        · exact p2.free hl
        · intro x hx
          obtain ⟨z, _, rfl⟩ := List.mem_map.mp hx
          split <;> omega
theorem dpInts {K : PySem.W.Frag} {H : Hp} : ∀ ns : List Int, DpAll K H (ns.map V.int) (ns.map PyData.int)
  | [] => .nil
  | n :: r => .cons (.int n) (dpInts r)
theorem eqv_nil_cons (z : Int) (r : List Int) : PyData.eqv (.list ((z :: r).map PyData.int)) (.list []) = false := by
  simp [PyData.eqv, PyData.eqvAll]
theorem eqv_nil_nil : PyData.eqv (.list (([] : List Int).map PyData.int)) (.list []) = true := by
  simp [PyData.eqv, PyData.eqvAll]
theorem Well.mk {H : Hp} {wl cl : Addr} {cs : List Int} {b c : Int} (h1 : H wl = some (.lst [.ref cl, .int b, .int c])) (h2 : H cl = some (.lst (cs.map V.int))) (h : WellC cs b c) : Well H wl cl := ⟨cs, b, c, h1, h2, h⟩
theorem ok_draw {f : Addr} {fd : FuncData} {k : Nat} (F : Fun K "_law_draw" "_law_draw" sDraw f fd) : FnOk P w K mg base CX0 (k + 1) f fd ["well", "many"] spDraw := by
  refine F.ok scDraw (fun vs H Q E h => ?_) (fun cdv A outer s H vs Q E hr h => ?_)
  · obtain ⟨wl, cl, m, rfl, _⟩ := h
    rfl
  · obtain ⟨wl, cl, m, rfl, hW, hm, hlog, q⟩ := h
    have hwc := hW.ne
    have pix : ∀ {X : Cx} {a b : Expr} {pos : Pos} {ta tb : TE}, PE X a ta → PE X b tb → PlainIx b → PE X (.Subscript a b pos) (tOp (rIxL X.K) ta tb) := fun ha hb hs => pe_ix ix_list ha hb hs
    refine ⟨_, C8.pss_cut (ps_if (PW.pt (pw_and (pt_cmpR op_eq (pe_ix ix_list (pv 0) pe_int (fun _ _ => rfl)) pe_int (nomark _)) (pw_and1 (pt_cmpR (op_neD hr.units) (pe_ix ix_list (pv 0) pe_int (fun _ _ => rfl)) (pe_lst pa_nil) (nomark _)))))
        (pss_cons (ps_set (i := 2) scDraw.nd rfl (.inl rfl) (pe_bm PySem.F.plainAttrs_list PySem.F.slot_list_pop PySem.F.type_list_pop mt_popAt (pe_ix ix_list (pv 0) pe_int (fun _ _ => rfl)) (pa_cons pe_int pa_nil)))
        (pss_cons (ps_if (pt_cmpR op_lt (pv 2) (pe_op op_pow pe_int pe_int) (nomark _)) (pss_one (ps_ret (pe_op op_mod (pv 2) (pv 1)))) pss_nil)
        (pss_one (ps_asg (pv 2) (pg_sub (pv 0) pe_int set_list))))) pss_nil)
      (pss_cons (ps_if (pt_cmpR op_gt (pe_ix ix_list (pv 0) pe_int (fun _ _ => rfl)) pe_int (nomark _))
        (pss_cons (ps_set (i := 3) scDraw.nd rfl (.inl rfl) (pe_op op_mod (pe_ix ix_list (pv 0) pe_int (fun _ _ => rfl)) (pv 1)))
        (pss_cons (ps_asg (pe_op op_fdivW (pe_ix ix_list (pv 0) pe_int (fun _ _ => rfl)) (pv 1)) (pg_sub (pv 0) pe_int set_list))
        (pss_one (ps_ret (pv 3))))) pss_nil)
      (pss_cons (ps_asg (pe_op op_mod (pe_op op_add (pe_op op_mul (pe_ix ix_list (pv 0) pe_int (fun _ _ => rfl)) pe_int) pe_int) pe_int) (pg_sub (pv 0) pe_int set_list))
      (pss_one (ps_ret (pe_op op_mod (pe_op op_fdiv (pe_op op_mod (pe_op op_pow (pe_op op_mod (pe_op op_pow (pe_ix ix_list (pv 0) pe_int (fun _ _ => rfl)) pe_int) pe_int) pe_int) pe_int) pe_int) (pv 1)))))), ?_⟩
    refine ⟨fun σ H' => Drawn wl cl H H' ∧ ∃ y2 y3, σ = [some (.ref wl), some (.int m), y2, y3], ?_, ?_⟩
    · obtain ⟨cs, b, c, h1, h2, hc⟩ := hW
      refine ⟨.ref wl, rfl, wl, _, 1, _, rfl, rfl, .inl (.inl h1), rfl, rfl, _, rfl, ?_⟩
      refine ite2 (fun e => ?_) (fun e => ?_)
      · refine ⟨.ref wl, rfl, wl, _, 0, _, rfl, rfl, .inl (.inl h1), rfl, (by show 0 ≤ sizeLine; decide), fun p hp => ?_⟩
        have np1 : wl ≠ p := ne_of_none h1 hp
        have np2 : cl ≠ p := ne_of_none h2 hp
        have g1 : upd H p (.lst []) wl = some (.lst [.ref cl, .int b, .int c]) := by rw [upd_ne np1]; exact h1
        have g2 : upd H p (.lst []) cl = some (.lst (cs.map V.int)) := by rw [upd_ne np2]; exact h2
        refine ⟨.list (cs.map .int), .list [], .lst (.inl (.inl g2)) (dpInts cs), .lst (.inl (.inl upd_same)) .nil, PySem.W.shaped_ints cs, PySem.W.shaped_ints [], _, rfl, ?_⟩
        cases cs with
        | nil =>
          rw [eqv_nil_nil]
          refine iteF ?_
          exact ⟨⟨fun b' o n1 n2 e => same_upd hp _ _ e, [], b, c, g1, g2, hc⟩, none, none, rfl⟩
        | cons z r =>
          rw [eqv_nil_cons]
          refine iteT ?_
          have hz : 0 ≤ z := hc.nn z List.mem_cons_self
          refine ⟨.ref wl, rfl, wl, _, 0, _, rfl, rfl, .inl (.inl g1), rfl, .inl ⟨rfl, _, .inl (.inl g2)⟩, cl, _, 0, 0, .int z, rfl, rfl, g2, by decide, by decide, seqIndex_of (by decide) (by simp <;> omega), rfl, ?_⟩
          refine ⟨.int z, rfl, 10, 18, rfl, rfl, ⟨by decide, by decide, by decide⟩, _, _, rfl, rfl, _, rfl, ?_⟩
          have k1 : ∀ o, upd (upd H p (.lst [])) cl o wl = some (.lst [.ref cl, .int b, .int c]) := fun o => by rw [upd_ne hwc]; exact g1
          have kd : ∀ o b' o', b' ≠ wl → b' ≠ cl → H b' = some o' → upd (upd H p (.lst [])) cl o b' = some o' := fun o b' o' n1 n2 e => by rw [upd_ne n2]; exact same_upd hp _ _ e
          refine ite2 (fun e2 => ?_) (fun e2 => ?_)
          · refine ⟨.int z, rfl, .int m, rfl, z, m, rfl, rfl, (by show 0 < m; omega), q _ _ ⟨kd _, r, b, c, k1 _, upd_same, hc.b0, hc.c0, hc.c1, fun x hx => hc.nn x (List.mem_cons_of_mem _ hx)⟩ (Int.emod_nonneg _ (by omega)) (Int.emod_lt_of_pos _ (by omega))⟩
          · refine ⟨.int z, rfl, .ref wl, rfl, wl, _, 1, 1, rfl, rfl, k1 _, rfl, ?_⟩
            refine ⟨⟨fun b' o n1 n2 e => ?_, r, z, c, upd_same, ?_, hz, hc.c0, hc.c1, fun x hx => hc.nn x (List.mem_cons_of_mem _ hx)⟩, some (.int z), none, rfl⟩
            · rw [upd_ne n1]; exact kd _ b' o n1 n2 e
            · rw [upd_ne hwc.symm]; exact upd_same
      · exact ⟨⟨fun _ _ _ _ e => e, cs, b, c, h1, h2, hc⟩, none, none, rfl⟩
    · intro σ H1 hM
      obtain ⟨⟨hD, hW1⟩, y2, y3, rfl⟩ := hM
      obtain ⟨cs, b, c, h1, h2, hc⟩ := hW1
      have q2 : ∀ (o : List V) (b' c' d : Int), o = [.ref cl, .int b', .int c'] → 0 ≤ b' → 0 ≤ c' → c' ≤ 2147483647 → 0 ≤ d → d < m → Q (.int d) (upd H1 wl (.lst o)) := fun o b' c' d eo x1 x2 x3 x4 x5 =>
        q _ _ ⟨fun a o' n1 n2 e => by rw [upd_ne n1]; exact hD a o' n1 n2 e, cs, b', c', by rw [eo]; exact upd_same, by rw [upd_ne hwc.symm]; exact h2, x1, x2, x3, hc.nn⟩ x4 x5
      refine ⟨.ref wl, rfl, wl, _, 1, _, rfl, rfl, .inl (.inl h1), rfl, b, 0, rfl, rfl, _, rfl, ?_⟩
      refine ite2 (fun e => ?_) (fun e => ?_)
      · have hb0 := hc.b0
        refine ⟨.ref wl, rfl, wl, _, 1, _, rfl, rfl, .inl (.inl h1), rfl, .int m, rfl, b, m, rfl, rfl, (by show 0 < m; omega), ?_⟩
        refine ⟨.ref wl, rfl, wl, _, 1, _, rfl, rfl, .inl (.inl h1), rfl, .int m, rfl, b, m, rfl, rfl, ⟨by omega, hlog⟩, .ref wl, rfl, wl, _, 1, 1, rfl, rfl, h1, rfl, ?_⟩
        exact ⟨.int (b % m), rfl, q2 _ (b / m) c _ rfl (Int.ediv_nonneg hb0 (by omega)) hc.c0 hc.c1 (Int.emod_nonneg _ (by omega)) (Int.emod_lt_of_pos _ (by omega))⟩
      · have hc0 := hc.c0
        have hc1 := hc.c1
        refine ⟨.ref wl, rfl, wl, _, 2, _, rfl, rfl, .inl (.inl h1), rfl, c, 48271, rfl, rfl, .inl ⟨by omega, by omega⟩, _, _, rfl, rfl, _, _, rfl, rfl, (by show (0 : Int) < 2147483647; decide), .ref wl, rfl, wl, _, 2, 2, rfl, rfl, h1, rfl, ?_⟩
        have n1 := Int.emod_nonneg (c * 48271 + 12345) (by decide : (2147483647 : Int) ≠ 0)
        have n2 := Int.emod_lt_of_pos (c * 48271 + 12345) (by decide : (0 : Int) < 2147483647)
        generalize ec : (c * 48271 + 12345) % 2147483647 = c' at n1 n2
        have n3 := Int.emod_nonneg (c' ^ (3 : Int).toNat) (by decide : (2147483629 : Int) ≠ 0)
        have n4 := Int.emod_lt_of_pos (c' ^ (3 : Int).toNat) (by decide : (0 : Int) < 2147483629)
        refine ⟨.ref wl, rfl, wl, _, 2, _, rfl, rfl, .inl (.inl upd_same), rfl, c', 3, by rw [← ec], rfl, ⟨by decide, by decide, by omega⟩, _, _, rfl, rfl, (by show (0 : Int) < 2147483629; decide), _, 5, rfl, rfl, ⟨by decide, by decide, by omega⟩, _, _, rfl, rfl, (by show (0 : Int) < 1000000007; decide), _, 7, rfl, rfl, ⟨by decide, by decide⟩, .int m, rfl, _, m, rfl, rfl, (by show 0 < m; omega), ?_⟩
        exact q2 _ b c' _ (by rw [← ec]; rfl) hc.b0 n1 (by omega) (Int.emod_nonneg _ (by omega)) (Int.emod_lt_of_pos _ (by omega))
end
end Rd

set_option Elab.async false
set_option linter.all false
set_option maxRecDepth 100000
set_option maxHeartbeats 4000000
namespace Rd
open PySem PySem.Spec PyProof.Rows L2 Dt
abbrev sHue : Stmt := topS 16
abbrev sIsB : Stmt := topS 17
abbrev sBro : Stmt := topS 18
abbrev sLbr : Stmt := topS 28
abbrev nHue : List Str := ["filling", "places", "place"]
abbrev nIsB : List Str := ["wish", "filling", "places", "rows"]
abbrev nBro : List Str := ["riddle", "filling", "number", "wish"]
abbrev nLbr : List Str := ["riddle", "filling", "found", "k", "places", "rows", "place"]
theorem scHue : FnScope nHue ["filling", "places"] (defScope sHue) := ⟨rfl, rfl, rfl, by decide +kernel, rfl, by decide +kernel, by decide +kernel⟩
theorem scIsB : FnScope nIsB ["wish", "filling"] (defScope sIsB) := ⟨rfl, rfl, rfl, by decide +kernel, rfl, by decide +kernel, by decide +kernel⟩
theorem scBro : FnScope nBro ["riddle", "filling"] (defScope sBro) := ⟨rfl, rfl, rfl, by decide +kernel, rfl, by decide +kernel, by decide +kernel⟩
theorem scLbr : FnScope nLbr ["riddle", "filling"] (defScope sLbr) := ⟨rfl, rfl, rfl, by decide +kernel, rfl, by decide +kernel, by decide +kernel⟩
/-! ### calls of defs, short -/
def Cal (P : Program) (w : World) (K : PySem.W.Frag) (mg : Str → Option Value) (base : Heap) (k : Nat) (x : Str) (ps : List Str) (sp : Sp) : Prop :=
  ∃ (f : Addr) (fd : FuncData), FnOk P w K mg base CX0 k f fd ps sp ∧ mg x = some (.ref f) ∧ PySem.W.keepIn K (.ref f) = true ∧ Binds K fd ps []
theorem pe_cal {X : Cx} {k : Nat} {x : Str} {ps : List Str} {sp : Sp} {p pos : Pos} {e : Expr} {es : List Expr} {t : TA} (C : Cal X.prog X.w X.K X.mg X.base k x ps sp) (hr : Room k X.A) (hg : Gl X x)
    (ha : PA X (e :: es) t) (hdb : (x == ("__debug__" : Str)) = false := by decide) (he : starEach (e :: es) X.env = (false, eval e X.env) :: starEach es X.env := by rfl) (hpl : (backTo pos (starEach es X.env)).any (·.1) = false := by rfl) :
    PE X (.Call (.Name x p) (e :: es) [] pos) (tCall sp [] E0 t) := by
  obtain ⟨f, fd, F, hm, hk, hb⟩ := C
  exact pe_call F hr hg hm hk hb .nil pass0 ha hdb he hpl
/-- a def whose code object is known -/
structure FunC (K : PySem.W.Frag) (x qual : Str) (st : Stmt) (f : Addr) (fd : FuncData) (cdv : Value) : Prop where
  ex : ∃ (oc : Value) (od : Option Addr) (kV doc pm : Value) (an : Option Addr) (ct : Value) (osl : Array (Option Value)),
    fd = PySem.W.fnOf x qual (defArgs st) (defBody st) (defScope st) .none kV doc pm an cdv ct ∧ K.lookup f = some ⟨oc, od, .func fd, osl⟩ ∧ PySem.W.codeIn K cdv qual = true
theorem FunC.ok {P : Program} {w : World} {K : PySem.W.Frag} {mg : Str → Option Value} {base : Heap} {x qual : Str} {st : Stmt} {f : Addr} {fd : FuncData} {cdv : Value} {N ps : List Str} {k : Nat} {sp : Sp} (F : FunC K x qual st f fd cdv) (S : FnScope N ps (defScope st)) (len : ∀ vs H Q E, sp vs H Q E → vs.length = ps.length)
    (body : ∀ (A : Around) (outer : List Env) (s : Shared) (H : Hp) (vs : List V) (Q : VK) (E : XK), Room k (A.deeper (envOfC qual (defScope st) s.heap.objs.size f cdv)) → sp vs H Q E →
      ∃ t, PSs (cxOf CX0 P w K mg base N qual (defScope st) f cdv A outer s H E).nox (defBody st) t ∧ t { nx := fun _ H' => Q .non H', rt := Q } (start N vs) H) : FnOk P w K mg base CX0 (k + 1) f fd ps sp := by
  obtain ⟨oc, od, kV, doc, pm, an, ct, osl, rfl, lk, hcd⟩ := F.ex
  refine fn_of lk hcd S len fun A outer s H vs Q E hr hsp => ?_
  obtain ⟨t, h, q⟩ := body A outer s H vs Q E hr hsp
  exact ⟨t, h.nox, q⟩
theorem units65 {A : Around} {k : Nat} (hr : Room k A) : A.units + 65 < cLine := by have := hr.un; omega
/-- all is kept but the table at P, which is one -/
def Fr1 (P : Addr) (H H' : Hp) : Prop := (∀ b o, b ≠ P → H b = some o → H' b = some o) ∧ GxR.TabG H' P
theorem Fr1.tups {P : Addr} {H H' : Hp} (f : Fr1 P H H') (t : GxR.TabG H P) : Tups H H' := fun b xs e => f.1 b _ (fun z => by
  obtain ⟨ps, hp, _⟩ := t
  rw [z, hp] at e
  cases e) e
theorem Fr1.same {P : Addr} {H H1 H2 : Hp} (f : Fr1 P H H1) (s : Same H1 H2) : Fr1 P H H2 := ⟨fun b o n e => s _ _ (f.1 b o n e), let ⟨ps, h, t⟩ := f.2; ⟨ps, s _ _ h, t⟩⟩
theorem Fr1.trans {P : Addr} {H H1 H2 : Hp} (f : Fr1 P H H1) (s : Fr1 P H1 H2) : Fr1 P H H2 := ⟨fun b o n e => s.1 _ _ n (f.1 b o n e), s.2⟩
theorem Fr1.of {P : Addr} {H H' : Hp} (t : GxR.TabG H P) (s : Same H H') : Fr1 P H H' := ⟨fun b o _ e => s b o e, let ⟨ps, h, t⟩ := t; ⟨ps, s _ _ h, t⟩⟩
theorem Fr1.free {P : Addr} {H H' : Hp} {b : Addr} (t : GxR.TabG H P) (f : Fr1 P H H') (h : H' b = none) : H b = none := by
  cases e : H b with
  | none => rfl
  | some o =>
    by_cases z : b = P
    · obtain ⟨ps, q, _⟩ := f.2
      rw [z, q] at h
      cases h
    · rw [f.1 b o z e] at h
      cases h
def spHues (P : Addr) : Sp := fun vs H Q _ => ∃ (fa pa : Addr) (fs ps : List Int) (many hues : Int), vs = [.ref fa, .ref pa] ∧ H fa = some (.tup (fs.map V.int)) ∧ H pa = some (.tup (ps.map V.int)) ∧ GoodF many hues fs ∧ (∀ p ∈ ps, 0 ≤ p ∧ p < many) ∧ GxR.TabG H P ∧
  ∀ H' t, Fr1 P H H' → H t = none → H' t = some (.tup ((huesA fs ps).map V.int)) → Q (.ref t) H'
def spIsB (P : Addr) : Sp := fun vs H Q _ => ∃ (wa fa : Addr) (fs : List Int) (wd : WD) (many hues : Int), vs = [.ref wa, .ref fa] ∧ IsWish H wa wd ∧ H fa = some (.tup (fs.map V.int)) ∧ GoodF many hues fs ∧ Good many hues wd ∧ many ≤ 6 ∧ hues ≤ 4 ∧ GxR.TabG H P ∧
  ∀ H', Fr1 P H H' → Q (.bl (brk fs wd)) H'
def spBro (P : Addr) : Sp := fun vs H Q _ => ∃ (ri fa : Addr) (fs : List Int) (wds : List WD) (many hues : Int), vs = [.ref ri, .ref fa] ∧ IsRid H ri many hues wds ∧ H fa = some (.tup (fs.map V.int)) ∧ GoodF many hues fs ∧ GoodR many hues wds ∧ GxR.TabG H P ∧
  ∀ H' t, Fr1 P H H' → H t = none → H' t = some (.lst ((broL fs wds wds.length).map V.int)) → Q (.ref t) H'
def spLbr : Sp := fun vs H Q _ => ∃ (ri fa : Addr) (fs : List Int) (wds : List WD) (many hues : Int), vs = [.ref ri, .ref fa] ∧ IsRid H ri many hues wds ∧ H fa = some (.tup (fs.map V.int)) ∧ GoodF many hues fs ∧ GoodR many hues wds ∧
  ∀ H' t, Same H H' → H t = none → H' t = some (.lst ((broL fs wds wds.length).map V.int)) → Q (.ref t) H'
section
variable {P : Program} {w : World} {K : PySem.W.Frag} {mg : Str → Option Value} {base : Heap}
theorem ok_hues {f c Pt : Addr} {fd : FuncData} {k : Nat} (F : FunC K "hues_at" "hues_at" sHue f fd (.ref c)) (TB : GxR.TabB base mg c Pt) (mt : mg "tuple" = none) : FnOk P w K mg base CX0 (k + 1) f fd ["filling", "places"] (spHues Pt) := by
  refine F.ok scHue (fun vs H Q E h => ?_) (fun A outer s H vs Q E hr h => ?_)
  · obtain ⟨fa, pa, fs, ps, many, hues, rfl, _⟩ := h
    rfl
  · obtain ⟨fa, pa, fs, ps, many, hues, rfl, hf, hp, gf, hpl, hT, q⟩ := h
    refine ⟨_, pss_one (ps_ret (Gv.pe_tupG (x := "place") hr (by rfl) mt TB rfl ⟨rfl, rfl, by decide +kernel, rfl, rfl, fun y hy e => ?_⟩ (pv 1) (fun _ => rfl))), ?_⟩
    · match y, hy, e with
      | _, .head _, e => exact nomatch e
      | _, .tail _ (.head _), e => exact nomatch e
      | _, .tail _ (.tail _ (.head _)), _ => exact ⟨_, rfl⟩
    refine ⟨.ref pa, rfl, pa, ps.map V.int, (huesA fs ps).map V.int, rfl, .inr (.inl (.inl hp)), by simp [huesA], fun pins => Gv.elt_item (j := 0) rfl rfl rfl rfl rfl rfl rfl (.inl (.inl hf)) hT fun i x0 hx => ?_, hT, fun H2 hb p np => ?_⟩
    · rw [List.getElem?_map] at hx
      cases e : ps[i]? with
      | none => rw [e] at hx; cases hx
      | some n =>
        rw [e] at hx
        cases hx
        have hn := hpl n (List.mem_of_getElem? e)
        refine ⟨n, .int (atF fs n), rfl, atI_fs gf hn.1 hn.2, ?_⟩
        rw [List.getElem?_map, huesA, List.getElem?_map, e]
        rfl
    · have fr : Fr1 Pt H H2 := ⟨fun b o n e => by rw [hb.2 b n]; exact e, hb.1⟩
      exact q _ p (fr.same (same_upd np)) (fr.free hT np) upd_same
theorem ok_isB {f Pt : Addr} {fd : FuncData} {k : Nat} (F : Fun K "is_broken" "is_broken" sIsB f fd) (C : Cal P w K mg base 1 "hues_at" ["filling", "places"] (spHues Pt)) : FnOk P w K mg base CX0 (k + 2) f fd ["wish", "filling"] (spIsB Pt) := by
  refine F.ok scIsB (fun vs H Q E h => ?_) (fun cdv A outer s H vs Q E hr h => ?_)
  · obtain ⟨wa, fa, fs, wd, many, hues, rfl, _⟩ := h
    rfl
  · obtain ⟨wa, fa, fs, wd, many, hues, rfl, hw, hf, gf, gw, hm, hh, hT, q⟩ := h
    refine ⟨_, (pss_cons (ps_asg (pv 0) (pg_tup rfl (pgs_cons (pg_name (i := 2) scIsB.nd rfl (Or.inl rfl)) (pgs_cons (pg_name (i := 3) scIsB.nd rfl (Or.inl rfl)) pgs_nil))))
      (pss_one (ps_ret (pe_cmpR (Dt.op_inT (units65 hr)) (pe_cal C (hr.mono (by omega)) (by rfl) (pa_cons (pv 1) (pa_cons (pv 2) pa_nil))) (pv 3) (by rfl))))), ?_⟩
    obtain ⟨pa, ra, rs, h1, h2, h3, h4⟩ := id hw
    refine ⟨.ref wa, rfl, wa, _, rfl, .inl (.inl h1), rfl, .ref pa, [.ref ra], rfl, .ref ra, [], rfl, rfl, ?_⟩
    refine ⟨.ref fa, rfl, .ref pa, rfl, fa, pa, fs, wd.1, many, hues, rfl, hf, h2, gf, gw.pl, hT, fun H' t fr nt ht => ?_⟩
    have tp := fr.tups hT
    refine ⟨.ref ra, rfl, rowD (huesA fs wd.1), wd.2.map rowD, .tup (.inl (.inl ht)) (dpInts _), .tup (.inl (.inl (tp _ _ h3))) (dpRows (pairedMap (fun _ _ e => tp _ _ e) h4)), ?_, ?_, ?_⟩
    · refine (fine_row (fun z hz => ?_) ?_).shaped (by decide)
      · obtain ⟨p, hp, rfl⟩ := List.mem_map.mp hz
        have hpp := gw.pl p hp
        have e := List.mem_of_getElem? (at_some gf hpp.1 hpp.2)
        have := gf.hue _ e
        omega
      · have := gw.three
        simp [huesA]
        omega
    · refine (Fine.tuple (fineAll_map wd.2 (n := 2) (w := 64) fun r hr => fine_row (fun z hz => ?_) ?_)).shaped (by decide)
      · have := (gw.row r hr).2 z hz
        omega
      · have := (gw.row r hr).1
        have := gw.three
        omega
    · rw [anyRows]
      exact q H' fr
theorem ok_bro {f Pt : Addr} {fd : FuncData} {k : Nat} (F : Fun K "broken" "broken" sBro f fd) (me : mg "enumerate" = none) (C : Cal P w K mg base 2 "is_broken" ["wish", "filling"] (spIsB Pt)) : FnOk P w K mg base CX0 (k + 3) f fd ["riddle", "filling"] (spBro Pt) := by
  refine F.ok scBro (fun vs H Q E h => ?_) (fun cdv A outer s H vs Q E hr h => ?_)
  · obtain ⟨ri, fa, fs, wds, many, hues, rfl, _⟩ := h
    rfl
  · obtain ⟨ri, fa, fs, wds, many, hues, rfl, hrd, hf, gf, gr, hT, q⟩ := h
    refine ⟨_, (pss_one (ps_ret (pe_lc (own := [("number", 2), ("wish", 3)]) (g := gTup K 2 (gCons (gName 2) (gCons (gName 3) gNil))) rfl scBro.nd  (Et.pi_enumT (by rfl) me (pa_cons (pe_ix ix_tup (pv 0) pe_int (fun _ _ => rfl)) pa_nil)) (blkOk_by (own := [("number", 2), ("wish", 3)]) (N := nBro) (sc := defScope sBro) (by decide +kernel))
      (fun _ _ _ _ _ => (pg_tup rfl (pgs_cons (pg_name (i := 2) scBro.nd rfl (Or.inl rfl)) (pgs_cons (pg_name (i := 3) scBro.nd rfl (Or.inl rfl)) pgs_nil)))) (fun _ _ _ _ _ => pts_one (pt_val (pe_cal C (hr.mono (by omega)) (by rfl) (pa_cons (pv 3) (pa_cons (pv 1) pa_nil))))) (fun _ _ _ _ _ => (pv 2))))), ?_⟩
    obtain ⟨wt, was, h1, h2, h3⟩ := id hrd
    have hl : was.length = wds.length := pairedLen h3
    refine ⟨.ref ri, rfl, ri, _, 2, _, rfl, rfl, .inl (.inl h1), rfl, wt, was.map V.ref, rfl, .inl (.inl h2), fun D nD => ?_⟩
    refine Et.lc_enumT (K := K) (a := wt) (xs := was.map V.ref) (fun i H3 => Fr1 Pt H H3 ∧ H3 D = some (.lst ((broL fs wds i).map V.int))) ⟨Fr1.of hT (same_upd nD), upd_same⟩ (fun i H3 _ p => .inl (.inl (p.1.tups hT _ _ h2))) (fun i x H3 T hx p nT => ?_) (fun H3 p => ?_)
    · obtain ⟨fr, hD⟩ := p
      rw [List.getElem?_map] at hx
      cases ew : was[i]? with
      | none => rw [ew] at hx; cases hx
      | some wa =>
        rw [ew] at hx
        cases hx
        obtain ⟨wd, hwd, isw⟩ := pairedGetL h3 ew
        have gw := gr.each wd (List.mem_of_getElem? hwd)
        have hi : i < was.length := (List.getElem?_eq_some_iff.mp ew).1
        have nDP : D ≠ Pt := fun z => by
          obtain ⟨ps, e, _⟩ := fr.2
          rw [← z, hD] at e
          cases e
        have sT := same_upd (o := .tup [.int (i : Nat), .ref wa]) nT
        have fr2 : Fr1 Pt H (upd H3 T (.tup [.int (i : Nat), .ref wa])) := fr.same sT
        refine ⟨T, [.int i, .ref wa], rfl, .inl (.inl upd_same), rfl, .int i, [.ref wa], rfl, .ref wa, [], rfl, rfl, rfl, ?_⟩
        refine ⟨.ref wa, rfl, .ref fa, rfl, wa, fa, fs, wd, many, hues, rfl, isw.mono (fr2.tups hT), fr2.tups hT _ _ hf, gf, gw, gr.m6, gr.h4, fr2.2, fun H4 fr3 => ⟨_, rfl, ?_⟩⟩
        have fr4 := fr2.trans fr3
        have hD4 : H4 D = some (.lst ((broL fs wds i).map V.int)) := fr3.1 D _ nDP (sT _ _ hD)
        have eb := brkAt_of (fs := fs) hwd
        refine ite2 (fun e => ?_) (fun e => ?_)
        · refine ⟨.int i, rfl, _, hD4, ?_, ⟨fun b o n eb2 => ?_, ?_⟩, ?_⟩
          · rw [List.length_map]
            have := broL_len fs wds i
            have := gr.eight
            exact small1000 (by omega)
          · rw [upd_ne (ne_of_none eb2 nD)]
            exact fr4.1 b o n eb2
          · obtain ⟨ps, e1, e2⟩ := fr4.2
            exact ⟨ps, by rw [upd_ne (Ne.symm nDP)]; exact e1, e2⟩
          · rw [upd_same, broL_yes (eb.trans e), List.map_append]
            rfl
        · refine ⟨fr4, ?_⟩
          rw [broL_no (eb.trans (by simpa using e))]
          exact hD4
    · obtain ⟨fr, hD⟩ := p
      rw [List.length_map, hl] at hD
      exact q H3 D fr nD hD
theorem ok_lbr {f : Addr} {fd : FuncData} {k : Nat} (F : Fun K "_law_broken" "_law_broken" sLbr f fd) (me : mg "enumerate" = none) (mt : mg "tuple" = none) : FnOk P w K mg base CX0 (k + 1) f fd ["riddle", "filling"] spLbr := by
  refine F.ok scLbr (fun vs H Q E h => ?_) (fun cdv A outer s H vs Q E hr h => ?_)
  · obtain ⟨ri, fa, fs, wds, many, hues, rfl, _⟩ := h
    rfl
  · obtain ⟨ri, fa, fs, wds, many, hues, rfl, hrd, hf, gf, gr, q⟩ := h
    refine ⟨_, (pss_cons (ps_set (i := 2) scLbr.nd rfl (Or.inl rfl) (pe_lst pa_nil))
      (pss_cons (ps_for PassesOwn.never rfl (Et.pi_enumT (by rfl) me (pa_cons (pe_ix ix_tup (pv 0) pe_int (fun _ _ => rfl)) pa_nil)) (pg_tup rfl (pgs_cons (pg_name (i := 3) scLbr.nd rfl (Or.inl rfl)) (pgs_cons (pg_tup rfl (pgs_cons (pg_name (i := 4) scLbr.nd rfl (Or.inl rfl)) (pgs_cons (pg_name (i := 5) scLbr.nd rfl (Or.inl rfl)) pgs_nil))) pgs_nil)))
      (pss_one (ps_if (pt_cmpR (Dt.op_inT (units65 hr)) (pe_callTy call_tuple_of (by rfl) mt (by decide +kernel) (pa_cons (pe_lc (own := [("place", 6)]) (te := tOp (rIxT K) (tVar 1) (tVar 6)) rfl scLbr.nd  (pi_tup (pv 4)) (blkOk_by (own := [("place", 6)]) (N := nLbr) (sc := defScope sLbr) (by decide +kernel))
        (fun _ _ _ _ _ => (pg_name (i := 6) scLbr.nd rfl (Or.inl rfl))) (fun _ _ _ _ _ => pts_nil) (fun _ _ _ _ _ => (pe_ix ix_tup (pv 1) (pv 6) (fun _ _ => rfl)))) pa_nil)) (pv 5) (by rfl))
      (pss_one (ps_expr (pe_bm PySem.F.plainAttrs_list PySem.F.slot_list_append PySem.F.type_list_append mt_append (pv 2) (pa_cons (pv 3) pa_nil)))) pss_nil)))
      (pss_one (ps_ret (pv 2))))), ?_⟩
    obtain ⟨wt, was, h1, h2, h3⟩ := id hrd
    have hl : was.length = wds.length := pairedLen h3
    refine ⟨(by show 0 ≤ sizeLine; decide), fun l nl => ?_⟩
    have sl := same_upd (o := .lst []) nl
    refine ⟨.ref ri, rfl, ri, _, 2, _, rfl, rfl, .inl (.inl (sl _ _ h1)), rfl, wt, was.map V.ref, rfl, .inl (.inl (sl _ _ h2)), ?_⟩
    refine Et.for_enumT (K := K) (a := wt) (xs := was.map V.ref) (fun i σ H3 => Same H H3 ∧ H3 l = some (.lst ((broL fs wds i).map V.int)) ∧ ∃ y3 y4 y5 y6, σ = [some (.ref ri), some (.ref fa), some (.ref l), y3, y4, y5, y6]) ⟨sl, upd_same, none, none, none, none, rfl⟩ (fun i σ H3 _ p => .inl (.inl (p.1 _ _ h2))) (fun i x σ H3 T hx p nT => ?_) (fun σ H3 p => ?_)
    · obtain ⟨sm, hL, y3, y4, y5, y6, rfl⟩ := p
      rw [List.getElem?_map] at hx
      cases ew : was[i]? with
      | none => rw [ew] at hx; cases hx
      | some wa =>
        rw [ew] at hx
        cases hx
        obtain ⟨wd, hwd, isw⟩ := pairedGetL h3 ew
        have gw := gr.each wd (List.mem_of_getElem? hwd)
        have sT := same_upd (o := .tup [.int (i : Nat), .ref wa]) nT
        have s2 := sm.trans sT
        obtain ⟨pa, ra, rs, w1, w2, w3, w4⟩ := isw.mono (tups_same s2)
        refine ⟨T, [.int i, .ref wa], rfl, .inl (.inl upd_same), rfl, .int i, [.ref wa], rfl, .ref wa, [], rfl, ⟨wa, _, rfl, .inl (.inl w1), rfl, .ref pa, [.ref ra], rfl, .ref ra, [], rfl, rfl, rfl, ?_⟩⟩
        refine ⟨.ref pa, rfl, pa, rfl, ⟨_, .inl (.inl w2)⟩, fun D nD => lc_tup (K := K) (a := pa) (xs := wd.1.map V.int) (fun j H5 => Same (upd H3 T (.tup [.int (i : Nat), .ref wa])) H5 ∧ H5 D = some (.lst ((huesA fs (wd.1.take j)).map V.int))) ⟨same_upd nD, upd_same⟩ (fun j H5 _ pp => .inl (.inl (pp.1 _ _ w2))) (fun j x H5 hx pp => ?_) (fun H5 pp => ?_)⟩
        · rw [List.getElem?_map] at hx
          cases ep : wd.1[j]? with
          | none => rw [ep] at hx; cases hx
          | some p =>
            rw [ep] at hx
            cases hx
            have hp := gw.pl p (List.mem_of_getElem? ep)
            refine ⟨rfl, ?_⟩
            dsimp only [tYes]
            rw [if_pos rfl]
            refine ⟨.ref fa, rfl, .int p, rfl, fa, _, p, _, rfl, rfl, .inl (.inl (pp.1 _ _ (s2 _ _ hf))), atI_fs gf hp.1 hp.2, _, pp.2, ?_, ?_, ?_⟩
            · have := gw.three
              simp [huesA]
              exact small1000 (by omega)
            · intro b o e
              rw [upd_ne (ne_of_none e nD)]
              exact pp.1 b o e
            · rw [upd_same, List.take_add_one, ep]
              simp [huesA]
        · have hD := pp.2
          rw [List.length_map, List.take_length] at hD
          refine ⟨D, _, rfl, .inl ⟨.inl (.inl hD), fun t nt => ?_⟩⟩
          have s3 := pp.1.trans (same_upd (o := .tup ((huesA fs wd.1).map V.int)) nt)
          refine ⟨.ref ra, rfl, rowD (huesA fs wd.1), wd.2.map rowD, .tup (.inl (.inl upd_same)) (dpInts _), .tup (.inl (.inl (s3 _ _ w3))) (dpRows (pairedMap (fun _ _ e => s3 _ _ e) w4)), ?_, ?_, ?_⟩
          · refine (fine_row (fun z hz => ?_) ?_).shaped (by decide)
            · obtain ⟨p, hp, rfl⟩ := List.mem_map.mp hz
              have hpp := gw.pl p hp
              have e := List.mem_of_getElem? (at_some gf hpp.1 hpp.2)
              have := gf.hue _ e
              have := gr.h4
              omega
            · have := gw.three
              simp [huesA]
              omega
          · refine (Fine.tuple (fineAll_map wd.2 (n := 2) (w := 64) fun r hr => fine_row (fun z hz => ?_) ?_)).shaped (by decide)
            · have := (gw.row r hr).2 z hz
              have := gr.h4
              omega
            · have := (gw.row r hr).1
              have := gw.three
              omega
          · rw [anyRows]
            have eb := brkAt_of (fs := fs) hwd
            have hLT := s3 _ _ (sT _ _ hL)
            have s4 := s2.trans s3
            refine ⟨_, rfl, ite2 (fun e => ?_) (fun e => ?_)⟩
            · refine ⟨.ref l, rfl, .inl ⟨rfl, _, .inl (.inl hLT)⟩, .int i, rfl, l, _, _, rfl, rfl, hLT, ?_, ?_, ?_, ?_⟩
              · rw [List.length_map]
                have := broL_len fs wds i
                have := gr.eight
                have := (List.getElem?_eq_some_iff.mp ew).1
                exact small1000 (by omega)
              · intro b o e2
                rw [upd_ne (ne_of_none e2 nl)]
                exact s4 b o e2
              · rw [upd_same, broL_yes (eb.trans e), List.map_append]
                rfl
              · exact ⟨_, _, _, _, rfl⟩
            · refine ⟨s4, ?_, _, _, _, _, rfl⟩
              rw [broL_no (eb.trans (by simpa [brk] using e))]
              exact hLT
    · obtain ⟨sm, hL, y3, y4, y5, y6, rfl⟩ := p
      rw [List.length_map, hl] at hL
      exact ⟨.ref l, rfl, q H3 l sm nl hL⟩
end
end Rd

set_option Elab.async false
set_option linter.all false
set_option maxRecDepth 100000
set_option maxHeartbeats 4000000
namespace Rd
open PySem PySem.Spec PyProof.Rows L2 Dt
abbrev sPow : Stmt := topS 26
abbrev nPow : List Str := ["number", "many", "found", "turn"]
theorem scPow : FnScope nPow ["number", "many"] (defScope sPow) := ⟨rfl, rfl, rfl, by decide +kernel, rfl, by decide +kernel, by decide +kernel⟩
theorem Well.same {H H' : Hp} {wl cl : Addr} (h : Well H wl cl) (s : Same H H') : Well H' wl cl := by
  obtain ⟨cs, b, c, h1, h2, hc⟩ := h
  exact ⟨cs, b, c, s _ _ h1, s _ _ h2, hc⟩
theorem Well.new {H : Hp} {wl cl b : Addr} (h : Well H wl cl) (n : H b = none) : b ≠ wl ∧ b ≠ cl := by
  obtain ⟨cs, x, c, h1, h2, hc⟩ := h
  exact ⟨(ne_of_none h1 n).symm, (ne_of_none h2 n).symm⟩
theorem Well.put {H : Hp} {wl cl b : Addr} {o : HO} (h : Well H wl cl) (n : b ≠ wl ∧ b ≠ cl) : Well (upd H b o) wl cl := by
  obtain ⟨cs, x, c, h1, h2, hc⟩ := h
  exact ⟨cs, x, c, by rw [upd_ne n.1.symm]; exact h1, by rw [upd_ne n.2.symm]; exact h2, hc⟩
theorem Drawn.refl {H : Hp} {wl cl : Addr} (h : Well H wl cl) : Drawn wl cl H H := ⟨fun _ _ _ _ e => e, h⟩
theorem Drawn.trans {H H1 H2 : Hp} {wl cl : Addr} (a : Drawn wl cl H H1) (b : Drawn wl cl H1 H2) : Drawn wl cl H H2 := ⟨fun x o n1 n2 e => b.1 x o n1 n2 (a.1 x o n1 n2 e), b.2⟩
theorem Drawn.same {H H1 H2 : Hp} {wl cl : Addr} (a : Drawn wl cl H H1) (s : Same H1 H2) : Drawn wl cl H H2 := ⟨fun x o n1 n2 e => s _ _ (a.1 x o n1 n2 e), a.2.same s⟩
/-- a store at a place that wasn't there at first -/
theorem Drawn.put {H H1 : Hp} {wl cl b : Addr} {o : HO} (a : Drawn wl cl H H1) (n : H b = none) (nb : b ≠ wl ∧ b ≠ cl) : Drawn wl cl H (upd H1 b o) :=
  ⟨fun x u n1 n2 e => by rw [upd_ne (ne_of_none e n)]; exact a.1 x u n1 n2 e, a.2.put nb⟩
theorem Drawn.tups {H H' : Hp} {wl cl : Addr} (w : Well H wl cl) (a : Drawn wl cl H H') : Tups H H' := fun b xs e => by
  obtain ⟨cs, x, c, h1, h2, hc⟩ := w
  exact a.1 b _ (fun z => by rw [z, h1] at e; cases e) (fun z => by rw [z, h2] at e; cases e) e
theorem Drawn.free {H H' : Hp} {wl cl b : Addr} (w : Well H wl cl) (a : Drawn wl cl H H') (n : H' b = none) : H b = none := by
  cases e : H b with
  | none => rfl
  | some o =>
    obtain ⟨m1, m2⟩ := a.2.new n
    rw [a.1 b o m1 m2 e] at n
    cases n
theorem log_small {m : Int} (h0 : 0 ≤ m) (h : m < 4294967296) : m.natAbs.log2 < 9000 := by
  have e : m.natAbs < 2 ^ 32 := by omega
  by_cases z : m.natAbs = 0
  · rw [z]; decide
  · have := (Nat.log2_lt z).mpr e
    omega
theorem pow_small : ∀ n : Fin 5, ∀ i : Fin 7, ((n : Nat) : Int) ^ (i : Nat) ≤ 4096 ∧ 0 ≤ ((n : Nat) : Int) ^ (i : Nat) := by decide
theorem pow_bd {n : Int} {i : Nat} (h0 : 0 ≤ n) (h4 : n ≤ 4) (hi : i ≤ 6) : n ^ i ≤ 4096 ∧ 0 ≤ n ^ i := by
  obtain ⟨m, rfl⟩ : ∃ m : Nat, n = m := ⟨n.toNat, by omega⟩
  exact pow_small ⟨m, by omega⟩ ⟨i, by omega⟩
def spPow : Sp := fun vs H Q _ => ∃ n m : Int, vs = [.int n, .int m] ∧ 0 ≤ n ∧ n ≤ 4 ∧ 0 ≤ m ∧ m ≤ 6 ∧ Q (.int (n ^ m.toNat)) H
def spWis : Sp := fun vs H Q _ => ∃ (wl cl : Addr) (many hues : Int), vs = [.ref wl, .int many, .int hues] ∧ Well H wl cl ∧ 1 ≤ many ∧ many ≤ 6 ∧ 2 ≤ hues ∧ hues ≤ 4 ∧
  ∀ H' wa wd, Drawn wl cl H H' → IsWish H' wa wd → Good many hues wd → Q (.ref wa) H'
/-- the ints of a tuple -/
def toI : V → Int
  | .int i => i
  | _ => 0
def rowAt (H : Hp) (t : Addr) : List Int := match H t with
  | some (.tup xs) => xs.map toI
  | _ => []
theorem rowAt_of {H : Hp} {t : Addr} {row : Dt.Row} (h : IsRow H t row) : rowAt H t = row := by
  unfold rowAt
  rw [show H t = some (.tup (row.map V.int)) from h]
  show (row.map V.int).map toI = row
  rw [List.map_map]
  have e : (toI ∘ V.int) = id := by funext z; rfl
  rw [e, List.map_id]
def rngI (m : Int) : List Int := (List.range m.toNat).map fun (i : Nat) => (i : Int)
theorem rngI_len (m : Int) : (rngI m).length = m.toNat := by
  unfold rngI
  rw [List.length_map, List.length_range]
theorem rngI_mem {m z : Int} (h : z ∈ rngI m) : 0 ≤ z ∧ z < m := by
  obtain ⟨i, hi, rfl⟩ := List.mem_map.mp h
  have := List.mem_range.mp hi
  omega
theorem rgV_eq (m : Int) : rgV 0 m = (rngI m).map V.int := by
  unfold rgV rngI
  rw [List.map_map]
  have e : (m - 0).toNat = m.toNat := by rw [Int.sub_zero]
  rw [e]
  refine List.map_congr_left fun i _ => ?_
  show V.int (0 + (i : Int)) = V.int (i : Int)
  rw [Int.zero_add]
theorem map_erase (ls : List Int) (k : Nat) : (ls.map V.int).eraseIdx k = (ls.eraseIdx k).map V.int := by
  induction ls generalizing k with
  | nil => rfl
  | cons a r ih => cases k with
    | zero => rfl
    | succ k => simp [ih]
theorem erase_perm : ∀ (l : List Int) (k : Nat) (h : k < l.length), (l[k] :: l.eraseIdx k).Perm l
  | [], k, h => absurd h (Nat.not_lt_zero _)
  | a :: r, 0, _ => List.Perm.refl _
  | a :: r, k + 1, h => by
    have ih := erase_perm r k (Nat.lt_of_succ_lt_succ h)
    show ((r[k]'(Nat.lt_of_succ_lt_succ h)) :: a :: r.eraseIdx k).Perm (a :: r)
    exact (List.Perm.swap a _ _).trans (List.Perm.cons a ih)
theorem pow_wishF : ∀ n : Fin 3, ∀ m : Fin 3, 2 ≤ (((n : Nat) : Int) + 2) ^ ((m : Nat) + 1) ∧ (((n : Nat) : Int) + 2) ^ ((m : Nat) + 1) ≤ 64 := by decide
theorem pow_wish {h s : Int} (h2 : 2 ≤ h) (h4 : h ≤ 4) (s1 : 1 ≤ s) (s3 : s ≤ 3) : 2 ≤ h ^ s.toNat ∧ h ^ s.toNat ≤ 64 := by
  obtain ⟨n, rfl⟩ : ∃ n : Nat, h = (n : Int) + 2 := ⟨(h - 2).toNat, by omega⟩
  obtain ⟨m, rfl⟩ : ∃ m : Nat, s = (m : Int) + 1 := ⟨(s - 1).toNat, by omega⟩
  have e : ((m : Int) + 1).toNat = m + 1 := by omega
  rw [e]
  exact pow_wishF ⟨n, by omega⟩ ⟨m, by omega⟩
structure TxtW (P : Program) (w : World) (K : PySem.W.Frag) (mg : Str → Option Value) (base : Heap) : Prop where
  m_range : mg "range" = none
  m_list : mg "list" = none
  m_min : mg "min" = none
  m_max : mg "max" = none
  m_len : mg "len" = none
  m_sorted : mg "sorted" = none
  m_tuple : mg "tuple" = none
  c__law_draw : Cal P w K mg base 1 "_law_draw" ["well", "many"] spDraw
  c__law_power : Cal P w K mg base 1 "_law_power" ["number", "many"] spPow
section
variable {P : Program} {w : World} {K : PySem.W.Frag} {mg : Str → Option Value} {base : Heap}
/-- len of a list or a tuple -/
def rLen (K : PySem.W.Frag) : List V → Hp → VK → Prop := fun xs H Q => ∃ p ys, xs = [.ref p] ∧ (SqL K H p ys ∨ SqT K H p ys) ∧ Q (.int (ys.length : Nat)) H
theorem ok_pow {f : Addr} {fd : FuncData} {k : Nat} (F : Fun K "_law_power" "_law_power" sPow f fd) (mr : mg "range" = none) : FnOk P w K mg base CX0 (k + 1) f fd ["number", "many"] spPow := by
  refine F.ok scPow (fun vs H Q E h => ?_) (fun cdv A outer s H vs Q E hr h => ?_)
  · obtain ⟨n, m, rfl, _⟩ := h
    rfl
  · obtain ⟨n, m, rfl, h0, h4, m0, m6, q⟩ := h
    refine ⟨_, (pss_cons (ps_set (i := 2) scPow.nd rfl (Or.inl rfl) pe_int)
      (pss_cons (ps_for PassesOwn.never rfl (pi_range1 (by rfl) mr (pa_cons (pv 1) pa_nil)) (pg_name (i := 3) scPow.nd rfl (Or.inl rfl))
      (pss_one (ps_set (i := 2) scPow.nd rfl (Or.inl rfl) (pe_op op_mul (pv 2) (pv 0)))))
      (pss_one (ps_ret (pv 2))))), ?_⟩
    refine ⟨.int m, rfl, m, rfl, by omega, by omega, for_range (lo := 0) (n := m.toNat) (fun i σ H3 => H3 = H ∧ ∃ y3, σ = [some (.int n), some (.int m), some (.int (n ^ i)), y3]) ⟨rfl, none, by rw [Int.pow_zero]; rfl⟩ (fun i σ H3 hi p => ?_) (fun σ H3 p => ?_)⟩
    · obtain ⟨rfl, y3, rfl⟩ := p
      have b := pow_bd h0 h4 (i := i) (by omega)
      exact ⟨_, rfl, _, rfl, n ^ i, n, rfl, rfl, .inl ⟨by omega, by omega⟩, rfl, _, by rw [Int.pow_succ]; rfl⟩
    · obtain ⟨rfl, y3, rfl⟩ := p
      exact ⟨_, rfl, q⟩
end
end Rd

set_option Elab.async false
set_option linter.all false
set_option maxRecDepth 100000
set_option maxHeartbeats 4000000
namespace Rd
open PySem PySem.Spec PyProof.Rows L2 Dt
def spRid : Sp := fun vs H Q _ => ∃ (wl cl : Addr) (mw : Int), vs = [.ref wl, .int 6, .int mw] ∧ Well H wl cl ∧ 0 ≤ mw ∧ mw ≤ 8 ∧
  ∀ H' ri many hues wds, Drawn wl cl H H' → IsRid H' ri many hues wds → GoodR many hues wds → Q (.ref ri) H'
def spFil : Sp := fun vs H Q _ => ∃ (wl cl ri : Addr) (many hues : Int) (wds : List WD), vs = [.ref wl, .ref ri] ∧ Well H wl cl ∧ IsRid H ri many hues wds ∧ GoodR many hues wds ∧
  ∀ H' fa fs, Drawn wl cl H H' → H' fa = some (.tup (fs.map V.int)) → GoodF many hues fs → Q (.ref fa) H'
theorem eqv_list_nil (d : PyData) (ds : List PyData) : PyData.eqv (.list (d :: ds)) (.list []) = false := by simp [PyData.eqv, PyData.eqvAll]
theorem eqv_list_nn : PyData.eqv (.list []) (.list []) = true := by simp [PyData.eqv, PyData.eqvAll]
theorem eqv_tup_nil (d : PyData) (ds : List PyData) : PyData.eqv (.tuple (d :: ds)) (.tuple []) = false := by simp [PyData.eqv, PyData.eqvAll]
theorem eqv_tup_nn : PyData.eqv (.tuple []) (.tuple []) = true := by simp [PyData.eqv, PyData.eqvAll]
theorem dict_hues {h : Int} (h0 : 0 ≤ h) (h2 : h ≤ 2) : ∃ m, valV (mergeK [] [((Sum.inl 2 : Key), V.int 6), (Sum.inl 3, .int 5), (Sum.inl 4, .int 4)]) (Sum.inl (2 + h)) = some (.int m) ∧ 1 ≤ m ∧ m ≤ 6 := by
  have : h = 0 ∨ h = 1 ∨ h = 2 := by omega
  rcases this with rfl | rfl | rfl
  · exact ⟨6, by decide, by decide, by decide⟩
  · exact ⟨5, by decide, by decide, by decide⟩
  · exact ⟨4, by decide, by decide, by decide⟩
structure TxtR (P : Program) (w : World) (K : PySem.W.Frag) (mg : Str → Option Value) (base : Heap) : Prop extends TxtW P w K mg base where
  m_zip : mg "zip" = none
  c__law_wish : Cal P w K mg base 2 "_law_wish" ["well", "many", "hues"] spWis
section
variable {P : Program} {w : World} {K : PySem.W.Frag} {mg : Str → Option Value} {base : Heap}
end
end Rd

set_option Elab.async false
set_option linter.all false
set_option maxRecDepth 100000
set_option maxHeartbeats 4000000
namespace Rd
open PySem PySem.Spec PyProof.Rows L2 Dt
theorem pairedSnoc {α β : Type} {F : α → β → Prop} {a : α} {b : β} : ∀ {l : List α} {m : List β}, Paired F l m → F a b → Paired F (l ++ [a]) (m ++ [b])
  | _, _, .nil, h => .cons h .nil
  | _, _, .cons h t, k => .cons h (pairedSnoc t k)
abbrev sAlf : Stmt := topS 19
abbrev nAlf : List Str := ["many", "hues", "begun", "place", "filling", "hue"]
theorem scAlf : FnScope nAlf ["many", "hues"] (defScope sAlf) := ⟨rfl, rfl, rfl, by decide +kernel, rfl, by decide +kernel, by decide +kernel⟩
/-- a list of rows -/
def IsFills (H : Hp) (l : Addr) (fss : List (List Int)) : Prop := ∃ as : List Addr, H l = some (.lst (as.map V.ref)) ∧ Paired (IsRow H) as fss
theorem IsFills.same {H H' : Hp} {l : Addr} {fss : List (List Int)} (s : Same H H') (h : IsFills H l fss) : IsFills H' l fss := by
  obtain ⟨as, h1, h2⟩ := h
  exact ⟨as, s _ _ h1, pairedMap (fun _ _ e => s _ _ e) h2⟩
def spAlf : Sp := fun vs H Q _ => ∃ (many hues : Int), vs = [.int many, .int hues] ∧ 0 ≤ many ∧ many ≤ 6 ∧ 0 ≤ hues ∧ hues ≤ 4 ∧
  ∀ H' l, Same H H' → H l = none → IsFills H' l (fillL hues.toNat many.toNat) → Q (.ref l) H'
structure TxtA (mg : Str → Option Value) : Prop where
  m_range : mg "range" = none
theorem yes_if {σ : L2.St} {H : Hp} {A B : Hp → Prop} (h : A H) : tYes σ H (fun b H3 => if b = true then A H3 else B H3) := by
  dsimp only [tYes]
  rw [if_pos rfl]
  exact h
section
variable {P : Program} {w : World} {K : PySem.W.Frag} {mg : Str → Option Value} {base : Heap}
theorem take_snoc {α : Type} {l : List α} {i : Nat} {x : α} (h : l[i]? = some x) : l.take (i + 1) = l.take i ++ [x] := by rw [List.take_add_one, h]; rfl
theorem longer_at {hues j : Nat} (f : List Int) (h : j < hues) : (longer hues f)[j]? = some (f ++ [(j : Int)]) := by
  unfold longer
  rw [List.getElem?_map, List.getElem?_range h]
  rfl
set_option maxHeartbeats 16000000 in
theorem ok_alf {f : Addr} {fd : FuncData} {k : Nat} (F : Fun K "all_fillings" "all_fillings" sAlf f fd) (T : TxtA mg) : FnOk P w K mg base CX0 (k + 1) f fd ["many", "hues"] spAlf := by
  refine F.ok scAlf (fun vs H Q E h => ?_) (fun cdv A outer s H vs Q E hr h => ?_)
  · obtain ⟨many, hues, rfl, _⟩ := h
    rfl
  · obtain ⟨many, hues, rfl, m0, m6, h0, h4, q⟩ := h
    refine ⟨_, (pss_cons (ps_set (i := 2) scAlf.nd rfl (Or.inl rfl) (pe_lst (pa_cons (pe_tup pa_nil) pa_nil)))
  (pss_cons (ps_for PassesOwn.never rfl (pi_range1 (by rfl) T.m_range (pa_cons (pv 0) pa_nil)) (pg_name (i := 3) scAlf.nd rfl (Or.inl rfl))
  (pss_one (ps_setLc2 (i := 2) (te := tOp (rCatA K) (tVar 4) (tTup (tCons (tVar 5) tNil))) (own := [("filling", 4), ("hue", 5)]) (vs1 := [5]) rfl scAlf.nd rfl rfl (sw_true rfl rfl rfl (by decide +kernel)) (pi_list (pv 2)) (blkOk_by (own := [("filling", 4), ("hue", 5)]) (N := nAlf) (sc := defScope sAlf) (by decide +kernel)) (by decide)
   (fun _ _ _ _ _ => (pg_name (i := 4) scAlf.nd rfl (Or.inl rfl))) (fun _ _ _ _ _ => pts_nil) (fun _ _ _ _ _ => (pi_range1 (by rfl) T.m_range (pa_cons (pv 1) pa_nil))) (fun _ _ _ _ _ => (pg_name (i := 5) scAlf.nd rfl (Or.inl rfl))) (fun _ _ _ _ _ => pts_nil) (fun _ _ _ _ _ => (pe_op op_catA (pv 4) (pe_tup (pa_cons (pv 5) pa_nil)))))))
  (pss_one (ps_ret (pv 2))))), ?_⟩
    refine ⟨(by show 0 ≤ sizeLine; decide), fun t nt => ⟨(by show 1 ≤ sizeLine; decide), fun l nl => ?_⟩⟩
    have st := same_upd (o := .tup []) nt
    have sl := same_upd (o := .lst [.ref t]) nl
    refine ⟨.int many, rfl, many, rfl, by omega, by omega, for_range (lo := 0) (n := many.toNat) (fun i σ H3 => Same H H3 ∧ ∃ l, H l = none ∧ IsFills H3 l (fillL hues.toNat i) ∧ ∃ y3, σ = [some (.int many), some (.int hues), some (.ref l), y3, none, none]) ⟨st.trans sl, l, st.free nl, ⟨[t], upd_same, .cons (sl _ _ upd_same) .nil⟩, none, rfl⟩ (fun i σ H3 hi p => ?_) (fun σ H3 p => ?_)⟩
    · obtain ⟨sm, l, nl, ⟨as, hl, pr⟩, y3, rfl⟩ := p
      have flen := fill_len hues.toNat i
      have p4 : hues.toNat ^ i ≤ 4096 := pow_le_4096 (by omega) (by omega)
      have alen := pairedLen pr
      refine ⟨.ref l, rfl, l, rfl, ⟨_, .inl (.inl hl)⟩, fun D nD => Cp.lc2_list (K := K) (a := l) (xs := as.map V.ref) (fun i2 H5 => Same H3 H5 ∧ IsFills H5 D (((fillL hues.toNat i).take i2).flatMap (longer hues.toNat))) ⟨same_upd nD, [], upd_same, .nil⟩ (fun i2 H5 _ pp => .inl (.inl (pp.1 _ _ hl))) (fun i2 x H5 hx pp => ?_) (fun H5 pp => ?_)⟩
      · rw [List.getElem?_map] at hx
        cases ea : as[i2]? with
        | none => rw [ea] at hx; cases hx
        | some a =>
          rw [ea] at hx
          cases hx
          obtain ⟨fl, hfl, isr⟩ := pairedGetL pr ea
          have hi2 := (List.getElem?_eq_some_iff.mp ea).1
          obtain ⟨s5, fs5⟩ := pp
          refine ⟨rfl, yes_if ?_⟩
          refine ⟨.int hues, rfl, hues, rfl, by omega, by omega, ?_⟩
          dsimp only
          refine Cp.lcin_range (lo := 0) (n := hues.toNat) (fun j H6 => Same H3 H6 ∧ IsFills H6 D (((fillL hues.toNat i).take i2).flatMap (longer hues.toNat) ++ (longer hues.toNat fl).take j)) ⟨s5, by rw [List.take_zero, List.append_nil]; exact fs5⟩ (fun j H6 hj pp => ?_) (fun H6 pp => ?_)
          · obtain ⟨s6, bs, hb, pb⟩ := pp
            have blen := pairedLen pb
            have bound : bs.length ≤ 20000 := by
              rw [blen, List.length_append, flat_len, List.length_take, List.length_take, longer_len, flen]
              have : min i2 (hues.toNat ^ i) * hues.toNat ≤ 4096 * 4 := Nat.mul_le_mul (by omega) (by omega)
              omega
            have fin : ∀ (H7 : Hp) (r : Addr), Same H6 H7 → H7 r = some (.tup ((fl ++ [(j : Int)]).map V.int)) → ∃ acc, H7 D = some (.lst acc) ∧ acc.length < sizeLine ∧ (Same H3 (upd H7 D (.lst (acc ++ [.ref r]))) ∧ IsFills (upd H7 D (.lst (acc ++ [.ref r]))) D (((fillL hues.toNat i).take i2).flatMap (longer hues.toNat) ++ (longer hues.toNat fl).take (j + 1))) := fun H7 r s7 hr7 => by
              have hD7 := s7 _ _ hb
              have tu : Tups H7 (upd H7 D (.lst (bs.map V.ref ++ [.ref r]))) := tups_upd fun xs z => by rw [hD7] at z; cases z
              refine ⟨_, hD7, ?_, fun b o e => ?_, bs ++ [r], ?_, ?_⟩
              · rw [List.length_map]
                exact Nat.lt_of_le_of_lt bound (by decide)
              · rw [upd_ne (ne_of_none e nD)]
                exact s7 _ _ (s6 b o e)
              · rw [upd_same, List.map_append]
                rfl
              · rw [take_snoc (longer_at fl hj), ← List.append_assoc]
                exact pairedSnoc (pairedMap (fun _ _ e => tu _ _ (s7 _ _ e)) pb) (tu _ _ hr7)
            refine ⟨rfl, yes_if ?_⟩
            refine ⟨.ref a, rfl, .int (0 + (j : Int)), rfl, (by show 1 ≤ sizeLine; decide), fun t nt => ?_⟩
            have sT := same_upd (o := .tup [.int (0 + (j : Int))]) nt
            have ha : upd H6 t (.tup [.int (0 + (j : Int))]) a = some (.tup (fl.map V.int)) := sT _ _ (s6 _ _ isr)
            have e0 : (0 : Int) + (j : Int) = j := Int.zero_add _
            have flen2 := (fill_good (List.mem_of_getElem? hfl)).1
            refine ⟨a, t, _, _, rfl, rfl, .inl (.inl ha), .inl (.inl upd_same), ?_, fun z => ?_, (fun _ z => nomatch z), fun z _ p np => ?_⟩
            · rw [List.length_map, flen2]
              exact Nat.le_of_lt (small1000 (by show i + 1 ≤ 1000; omega))
            · have z2 : fl = [] := List.map_eq_nil_iff.mp z
              refine fin _ t sT ?_
              rw [upd_same, z2, e0]
              rfl
            · have sp := same_upd (o := .tup (fl.map V.int ++ [.int (0 + (j : Int))])) np
              refine fin _ p (sT.trans sp) ?_
              rw [upd_same, e0, List.map_append]
              rfl
          · obtain ⟨s6, fs6⟩ := pp
            refine ⟨s6, ?_⟩
            rw [take_snoc hfl, List.flatMap_append]
            have e : (longer hues.toNat fl).take hues.toNat = [fl].flatMap (longer hues.toNat) := by
              rw [List.take_of_length_le (by rw [longer_len]; exact Nat.le_refl _)]
              simp
            rw [← e]
            exact fs6
      · obtain ⟨s5, fs5⟩ := pp
        refine ⟨sm.trans s5, D, sm.free nD, ?_, _, rfl⟩
        rw [List.length_map, alen, List.take_length] at fs5
        exact fs5
    · obtain ⟨sm, l, nl, fs, y3, rfl⟩ := p
      exact ⟨.ref l, rfl, q H3 l sm nl fs⟩
end
end Rd

set_option Elab.async false
set_option linter.all false
set_option maxRecDepth 100000
set_option maxHeartbeats 4000000
namespace Rd
open PySem PySem.Spec PyProof.Rows L2 Dt
abbrev sCnt : Stmt := topS 20
abbrev nCnt : List Str := ["riddle", "many", "hues", "wishes", "numbers", "filling"]
theorem scCnt : FnScope nCnt ["riddle"] (defScope sCnt) := ⟨rfl, rfl, rfl, by decide +kernel, rfl, by decide +kernel, by decide +kernel⟩
theorem Fr1.tab {P P2 : Addr} {H H' : Hp} (f : Fr1 P H H') (t : GxR.TabG H P2) : GxR.TabG H' P2 := by
  by_cases e : P2 = P
  · rw [e]; exact f.2
  · obtain ⟨ps, hp, ht⟩ := t
    exact ⟨ps, f.1 _ _ e hp, ht⟩
/-- a new object, written on -/
theorem Fr1.put {P : Addr} {H H' : Hp} {l : Addr} {o : HO} (t : GxR.TabG H P) (f : Fr1 P H H') (n : H l = none) : Fr1 P H (upd H' l o) := by
  have nl : l ≠ P := fun z => by
    obtain ⟨ps, e, _⟩ := t
    rw [← z, n] at e
    cases e
  refine ⟨fun b o2 nb e => ?_, ?_⟩
  · rw [upd_ne (ne_of_none e n)]
    exact f.1 b o2 nb e
  · obtain ⟨ps, e1, e2⟩ := f.2
    exact ⟨ps, by rw [upd_ne (Ne.symm nl)]; exact e1, e2⟩
theorem Fr1.keep {P : Addr} {H H' : Hp} {l : Addr} {xs : List V} (t : GxR.TabG H P) (f : Fr1 P H H') (e : H l = some (.lst xs)) : H' l = some (.lst xs) := f.1 l _ (fun z => by
  obtain ⟨ps, hp, _⟩ := t
  rw [z, hp] at e
  cases e) e
theorem ix_nat {n j : Nat} (hj : j < n) : ixN n (j : Int) = some j := by
  unfold ixN
  rw [if_pos (by omega), if_pos (by omega)]
  simp
/-- the heap without l -/
def wo (H : Hp) (l : Addr) : Hp := fun b => if b = l then none else H b
theorem wo_of {H : Hp} {l b : Addr} {o : HO} (n : b ≠ l) (e : H b = some o) : wo H l b = some o := by
  unfold wo
  rw [if_neg n]
  exact e
theorem wo_to {H : Hp} {l b : Addr} {o : HO} (e : wo H l b = some o) : H b = some o := by
  unfold wo at e
  by_cases z : b = l
  · rw [if_pos z] at e; cases e
  · rw [if_neg z] at e; exact e
theorem wo_self {H : Hp} {l : Addr} : wo H l l = none := by
  unfold wo
  rw [if_pos rfl]
theorem wo_tups {H : Hp} {l : Addr} {xs : List V} (h : H l = some (.lst xs)) : Tups H (wo H l) := fun b ys e => wo_of (fun z => by rw [z, h] at e; cases e) e
def spCnt (Pt : Addr) : Sp := fun vs H Q _ => ∃ (ri : Addr) (wds : List WD) (many hues : Int), vs = [.ref ri] ∧ IsRid H ri many hues wds ∧ GoodR many hues wds ∧ GxR.TabG H Pt ∧
  ∀ H' l, Fr1 Pt H H' → H l = none → H' l = some (.lst ((cntL wds (fillL hues.toNat many.toNat)).map V.int)) → Q (.ref l) H'
structure TxtC (P : Program) (w : World) (K : PySem.W.Frag) (mg : Str → Option Value) (base : Heap) (Pt : Addr) : Prop where
  m_len : mg "len" = none
  c_all_fillings : Cal P w K mg base 1 "all_fillings" ["many", "hues"] spAlf
  c_broken : Cal P w K mg base 3 "broken" ["riddle", "filling"] (spBro Pt)
theorem rep_zero (n : Nat) : (List.replicate n [V.int 0]).flatten = (List.replicate n (0 : Int)).map V.int := by
  induction n with
  | zero => rfl
  | succ n ih => rw [List.replicate_succ, List.flatten_cons, ih, List.replicate_succ]; rfl
section
variable {P : Program} {w : World} {K : PySem.W.Frag} {mg : Str → Option Value} {base : Heap}
theorem ok_cnt {f Pt : Addr} {fd : FuncData} {k : Nat} (F : Fun K "counts" "counts" sCnt f fd) (T : TxtC P w K mg base Pt) : FnOk P w K mg base CX0 (k + 4) f fd ["riddle"] (spCnt Pt) := by
  refine F.ok scCnt (fun vs H Q E h => ?_) (fun cdv A outer s H vs Q E hr h => ?_)
  · obtain ⟨ri, wds, many, hues, rfl, _⟩ := h
    rfl
  · obtain ⟨ri, wds, many, hues, rfl, hrd, gr, hT, q⟩ := h
    have hr1 : Room 1 (A.deeper (envOfC (Str.ofString "counts") (defScope sCnt) s.heap.objs.size f cdv)) := hr.mono (by omega)
    have hr3 : Room 3 (A.deeper (envOfC (Str.ofString "counts") (defScope sCnt) s.heap.objs.size f cdv)) := hr.mono (by omega)
    refine ⟨_, (pss_cons (ps_asg (pv 0) (pg_tup rfl (pgs_cons (pg_name (i := 1) scCnt.nd rfl (Or.inl rfl)) (pgs_cons (pg_name (i := 2) scCnt.nd rfl (Or.inl rfl)) (pgs_cons (pg_name (i := 3) scCnt.nd rfl (Or.inl rfl)) pgs_nil)))))
  (pss_cons (ps_set (i := 4) scCnt.nd rfl (Or.inl rfl) (pe_op op_rep (pe_lst (pa_cons pe_int pa_nil)) (pe_op op_add (pe_callB call_len_seq (by rfl) T.m_len (by decide +kernel) (pa_cons (pv 3) pa_nil)) pe_int)))
  (pss_cons (ps_for PassesOwn.never rfl (pi_list (pe_cal T.c_all_fillings hr1 (by rfl) (pa_cons (pv 1) (pa_cons (pv 2) pa_nil)))) (pg_name (i := 5) scCnt.nd rfl (Or.inl rfl))
  (pss_one (ps_augS (pv 4) (pe_callB call_len_seq (by rfl) T.m_len (by decide +kernel) (pa_cons (pe_cal T.c_broken hr3 (by rfl) (pa_cons (pv 0) (pa_cons (pv 5) pa_nil))) pa_nil)) Cp.pget_list pe_int ip_add set_list)))
  (pss_one (ps_ret (pv 4)))))), ?_⟩
    obtain ⟨wt, was, h1, h2, h3⟩ := id hrd
    have hl : was.length = wds.length := pairedLen h3
    have m1 := gr.m1
    have m6 := gr.m6
    have hh2 := gr.h2
    have hh4 := gr.h4
    have e8 := gr.eight
    refine ⟨.ref ri, rfl, ri, _, rfl, .inl (.inl h1), rfl, .int many, [.int hues, .ref wt], rfl, .int hues, [.ref wt], rfl, .ref wt, [], rfl, rfl, ?_⟩
    refine ⟨(by show 1 ≤ sizeLine; decide), fun l0 nl0 => ?_⟩
    have s0 := same_upd (o := .lst [.int 0]) nl0
    refine ⟨.ref wt, rfl, wt, was.map V.ref, rfl, .inr (.inl (.inl (s0 _ _ h2))), _, _, rfl, rfl, ?_⟩
    have ew : ((was.map V.ref).length : Int) + 1 = ((wds.length + 1 : Nat) : Int) := by rw [List.length_map, hl]; omega
    refine ⟨l0, ((wds.length + 1 : Nat) : Int), _, rfl, congrArg V.int ew, upd_same, by omega, by omega, ?_, fun l nl => ?_⟩
    · rw [Int.toNat_natCast]
      exact Nat.le_of_lt (small1000 (by show 1 * (wds.length + 1) ≤ 1000; omega))
    rw [Int.toNat_natCast, rep_zero]
    have s1 := same_upd (o := .lst ((List.replicate (wds.length + 1) (0 : Int)).map V.int)) nl
    have nl2 : H l = none := s0.free nl
    refine ⟨.int many, rfl, .int hues, rfl, many, hues, rfl, by omega, by omega, by omega, by omega, fun H2 lf s2 nlf fs => ?_⟩
    have s02 := (s0.trans s1).trans s2
    obtain ⟨as, hlf, pa⟩ := fs
    have hal := pairedLen pa
    have nlf0 : H lf = none := (s0.trans s1).free nlf
    have nll : lf ≠ l := fun z => by rw [z, upd_same] at nlf; cases nlf
    refine ⟨lf, rfl, ⟨_, .inl (.inl hlf)⟩, ?_⟩
    have hl2 : H2 l = some (.lst ((cnt0 wds).map V.int)) := s2 _ _ upd_same
    have tw : GxR.TabG (wo H2 l) Pt := by
      obtain ⟨ps, e, h⟩ := hT
      exact ⟨ps, wo_of (fun z => by rw [z, nl2] at e; cases e) (s02 _ _ e), h⟩
    refine for_list (K := K) (a := lf) (xs := as.map V.ref) (fun i σ H3 => Fr1 Pt (wo H2 l) H3 ∧ H3 l = some (.lst ((cntL wds ((fillL hues.toNat many.toNat).take i)).map V.int)) ∧ ∃ y5, σ = [some (.ref ri), some (.int many), some (.int hues), some (.ref wt), some (.ref l), y5]) ⟨⟨fun b o _ e => wo_to e, ?_⟩, hl2, none, rfl⟩ (fun i σ H3 _ p => .inl (.inl (p.1.keep tw (wo_of nll hlf)))) (fun i x σ H3 hx p => ?_) (fun σ H3 p => ?_)
    · obtain ⟨ps, e, h⟩ := hT
      exact ⟨ps, s02 _ _ e, h⟩
    · obtain ⟨fr, hL, y5, rfl⟩ := p
      rw [List.getElem?_map] at hx
      cases ea : as[i]? with
      | none => rw [ea] at hx; cases hx
      | some a =>
        rw [ea] at hx
        cases hx
        obtain ⟨fl, hfl, isr⟩ := pairedGetL pa ea
        have t3 : Tups H2 H3 := (wo_tups hl2).trans (fr.tups tw)
        have gf := fill_goodF (by omega) (by omega) (List.mem_of_getElem? hfl)
        refine ⟨.ref l, rfl, .ref ri, rfl, .ref a, rfl, ri, a, fl, wds, many, hues, rfl, (hrd.mono (tups_same s02)).mono t3, t3 _ _ isr, gf, gr, fr.2, fun H4 lb fr4 nlb hlb => ?_⟩
        have hL4 := fr4.keep fr.2 hL
        generalize hcl : cntL wds ((fillL hues.toNat many.toNat).take i) = cl at hL hL4
        have bl := broL_len fl wds wds.length
        have cl2 : cl.length = wds.length + 1 := by rw [← hcl]; exact cnt_len _ _
        have bk : (broL fl wds wds.length).length < cl.length := by omega
        obtain ⟨c, hc⟩ : ∃ c, cl[(broL fl wds wds.length).length]? = some c := ⟨_, List.getElem?_eq_getElem bk⟩
        refine ⟨lb, _, rfl, .inl (.inl (.inl hlb)), l, _, (broL fl wds wds.length).length, .int c, rfl, by rw [List.length_map], .inl (.inl hL4), by rw [List.getElem?_map, hc]; rfl, c, 1, rfl, rfl, l, _, ((broL fl wds wds.length).length : Int), (broL fl wds wds.length).length, rfl, by rw [List.length_map], hL4, ?_, ?_⟩
        · rw [List.length_map]
          exact ix_nat bk
        · refine ⟨(fr.trans fr4).put tw wo_self, ?_, _, rfl⟩
          rw [upd_same, take_snoc hfl, cnt_snoc, hcl, bump_eq hc, List.map_set]
    · obtain ⟨fr, hL, y5, rfl⟩ := p
      rw [List.length_map, hal, List.take_length] at hL
      refine ⟨.ref l, rfl, q H3 l ⟨fun b o nb e => fr.1 b o nb (wo_of (ne_of_none e nl2) (s02 _ _ e)), fr.2⟩ nl2 hL⟩
end
end Rd

set_option Elab.async false
set_option linter.all false
set_option maxRecDepth 100000
set_option maxHeartbeats 4000000
namespace Rd
open PySem PySem.Spec PyProof.Rows L2 Dt
abbrev sCla : Stmt := topS 21
abbrev sCls : Stmt := topS 22
abbrev nCla : List Str := ["one", "other", "place"]
abbrev nCls : List Str := ["riddle", "wishes", "wish", "number", "other"]
theorem scCla : FnScope nCla ["one", "other"] (defScope sCla) := ⟨rfl, rfl, rfl, by decide +kernel, rfl, by decide +kernel, by decide +kernel⟩
theorem scCls : FnScope nCls ["riddle"] (defScope sCls) := ⟨rfl, rfl, rfl, by decide +kernel, rfl, by decide +kernel, by decide +kernel⟩
def spCla (Pc : Addr) : Sp := fun vs H Q _ => ∃ (wa wb : Addr) (a b : WD), vs = [.ref wa, .ref wb] ∧ IsWish H wa a ∧ IsWish H wb b ∧ GxR.TabG H Pc ∧ ∀ H', Fr1 Pc H H' → Q (.bl (clB a b)) H'
/-- a list of new lists, each by itself -/
def IsLL (H H' : Hp) (l : Addr) (rows : List (List Int)) : Prop := ∃ ls : List Addr, H' l = some (.lst (ls.map V.ref)) ∧ Paired (fun la row => H' la = some (.lst (row.map V.int))) ls rows ∧ ls.Nodup ∧ l ∉ ls ∧ ∀ la ∈ ls, H la = none
def spCls (Pc : Addr) : Sp := fun vs H Q _ => ∃ (ri : Addr) (wds : List WD) (many hues : Int), vs = [.ref ri] ∧ IsRid H ri many hues wds ∧ GoodR many hues wds ∧ GxR.TabG H Pc ∧
  ∀ H' l, Fr1 Pc H H' → H l = none → IsLL H H' l (clsAll wds) → Q (.ref l) H'
structure TxtS (P : Program) (w : World) (K : PySem.W.Frag) (mg : Str → Option Value) (base : Heap) (Pc : Addr) : Prop where
  m_enumerate : mg "enumerate" = none
  c_clash : Cal P w K mg base 1 "clash" ["one", "other"] (spCla Pc)
section
variable {P : Program} {w : World} {K : PySem.W.Frag} {mg : Str → Option Value} {base : Heap}
theorem ok_cla {f c Pc : Addr} {fd : FuncData} {k : Nat} (F : FunC K "clash" "clash" sCla f fd (.ref c)) (TB : GxR.TabB base mg c Pc) (ma : mg "any" = none) : FnOk P w K mg base CX0 (k + 1) f fd ["one", "other"] (spCla Pc) := by
  refine F.ok scCla (fun vs H Q E h => ?_) (fun A outer s H vs Q E hr h => ?_)
  · obtain ⟨wa, wb, a, b, rfl, _⟩ := h
    rfl
  · obtain ⟨wa, wb, a, b, rfl, ha, hb, hT, q⟩ := h
    refine ⟨_, pss_one (ps_ret (Gv.pe_anyG (x := "place") hr (by rfl) ma TB rfl ⟨rfl, rfl, by decide +kernel, rfl, rfl, fun y hy e => ?_⟩ (pe_ix ix_tup (pv 0) pe_int (fun _ _ => rfl)) (fun _ => rfl))), ?_⟩
    · match y, hy, e with
      | _, .head _, e => exact nomatch e
      | _, .tail _ (.head _), e => exact nomatch e
      | _, .tail _ (.tail _ (.head _)), _ => exact ⟨_, rfl⟩
    obtain ⟨pa, ra, rs, a1, a2, a3, a4⟩ := ha
    obtain ⟨pb, rb, rs2, b1, b2, b3, b4⟩ := hb
    refine ⟨.ref wa, rfl, wa, _, 0, _, rfl, rfl, .inl (.inl a1), rfl, pa, a.1.map V.int, (a.1.map fun p => decide (p ∈ b.1)).map V.bl, rfl, .inr (.inl (.inl a2)), by simp, fun pins => Gv.elt_in0 (j := 1) (ns := b.1) rfl rfl rfl rfl rfl rfl rfl (.inl (.inl b1)) (.inl (.inl b2)) hT hr.units fun i x0 hx => ?_, hT, _, rfl, fun H2 hb => ?_⟩
    · rw [List.getElem?_map] at hx
      cases e : a.1[i]? with
      | none => rw [e] at hx; cases hx
      | some n =>
        rw [e] at hx
        cases hx
        refine ⟨n, rfl, ?_⟩
        rw [List.getElem?_map, List.getElem?_map, e]
        rfl
    · have fr : Fr1 Pc H H2 := ⟨fun b o n e => by rw [hb.2 b n]; exact e, hb.1⟩
      have e : (List.map (fun p => decide (p ∈ b.1)) a.1).any id = clB a b := by
        rw [List.any_map]
        rfl
      rw [e]
      exact q H2 fr
theorem ok_cls {f Pc : Addr} {fd : FuncData} {k : Nat} (F : Fun K "clashing" "clashing" sCls f fd) (T : TxtS P w K mg base Pc) : FnOk P w K mg base CX0 (k + 2) f fd ["riddle"] (spCls Pc) := by
  refine F.ok scCls (fun vs H Q E h => ?_) (fun cdv A outer s H vs Q E hr h => ?_)
  · obtain ⟨ri, wds, many, hues, rfl, _⟩ := h
    rfl
  · obtain ⟨ri, wds, many, hues, rfl, hrd, gr, hT, q⟩ := h
    have hr1 : Room 1 (A.deeper (envOfC (Str.ofString "clashing") (defScope sCls) s.heap.objs.size f cdv)) := hr.mono (by omega)
    refine ⟨_, (pss_cons (ps_set (i := 1) scCls.nd rfl (Or.inr rfl) (pe_ix ix_tup (pv 0) pe_int (fun _ _ => rfl)))
  (pss_one (ps_ret (pe_lc (te := tLc (Et.iEnumT K (tCons (tVar 1) tNil)) (gTup K 2 (gCons (gName 3) (gCons (gName 4) gNil))) (tB (tCall (spCla Pc) [] E0 (tCons (tVar 2) (tCons (tVar 4) tNil)))) (tVar 3) [3, 4]) (own := [("wish", 2)]) rfl scCls.nd  (pi_tup (pv 1)) (blkOk_by (own := [("wish", 2)]) (N := nCls) (sc := defScope sCls) (by decide +kernel))
   (fun _ _ _ _ _ => (pg_name (i := 2) scCls.nd rfl (Or.inr rfl))) (fun _ _ _ _ _ => pts_nil) (fun _ _ _ _ _ => (pe_lc (own := [("number", 3), ("other", 4)]) rfl scCls.nd  (Et.pi_enumT (by rfl) T.m_enumerate (pa_cons (pv 1) pa_nil)) (blkOk_by (own := [("number", 3), ("other", 4)]) (N := nCls) (sc := { kind := .function, names := [(".0", .local), ("wish", .cell), ("enumerate", .globalImplicit), ("wishes", .cell)], isGenerator := false, isCoroutine := false }) (by decide +kernel))
   (fun _ _ _ _ _ => (pg_tup rfl (pgs_cons (pg_name (i := 3) scCls.nd rfl (Or.inl rfl)) (pgs_cons (pg_name (i := 4) scCls.nd rfl (Or.inl rfl)) pgs_nil)))) (fun _ _ _ _ _ => pts_one (pt_val (pe_cal T.c_clash hr1 (by rfl) (pa_cons (pv 2) (pa_cons (pv 4) pa_nil))))) (fun _ _ _ _ _ => (pv 3)))))))), ?_⟩
    obtain ⟨wt, was, h1, h2, h3⟩ := id hrd
    have hl : was.length = wds.length := pairedLen h3
    have e8 := gr.eight
    refine ⟨.ref ri, rfl, ri, _, 2, _, rfl, rfl, .inl (.inl h1), rfl, ?_⟩
    refine ⟨.ref wt, rfl, wt, rfl, ⟨_, .inl (.inl h2)⟩, fun D nD => ?_⟩
    refine lc_tup (K := K) (a := wt) (xs := was.map V.ref) (fun i H3 => Fr1 Pc H H3 ∧ IsLL H H3 D ((wds.take i).map fun wd => clsL wds wd wds.length)) ⟨Fr1.of hT (same_upd nD), [], upd_same, .nil, List.nodup_nil, List.not_mem_nil, fun _ z => nomatch z⟩ (fun i H3 _ p => .inl (.inl (p.1.tups hT _ _ h2))) (fun i x H3 hx p => ?_) (fun H3 p => ?_)
    · obtain ⟨fr, ls, hD, pl, nd, nDl, fl⟩ := p
      rw [List.getElem?_map] at hx
      cases ew : was[i]? with
      | none => rw [ew] at hx; cases hx
      | some wa =>
        rw [ew] at hx
        cases hx
        obtain ⟨wd, hwd, isw⟩ := pairedGetL h3 ew
        have hi : i < was.length := (List.getElem?_eq_some_iff.mp ew).1
        refine ⟨rfl, yes_if ?_⟩
        refine ⟨.ref wt, rfl, wt, was.map V.ref, rfl, .inl (.inl (fr.tups hT _ _ h2)), fun D2 nD2 => ?_⟩
        refine Et.lc_enumT (K := K) (a := wt) (xs := was.map V.ref) (fun j H5 => Fr1 Pc H3 H5 ∧ H5 D2 = some (.lst ((clsL wds wd j).map V.int))) ⟨Fr1.of fr.2 (same_upd nD2), upd_same⟩ (fun j H5 _ pp => .inl (.inl ((fr.trans pp.1).tups hT _ _ h2))) (fun j x H5 T2 hx pp nT => ?_) (fun H5 pp => ?_)
        · obtain ⟨fr5, hD5⟩ := pp
          rw [List.getElem?_map] at hx
          cases eb : was[j]? with
          | none => rw [eb] at hx; cases hx
          | some wb =>
            rw [eb] at hx
            cases hx
            obtain ⟨wd2, hwd2, isw2⟩ := pairedGetL h3 eb
            have hj : j < was.length := (List.getElem?_eq_some_iff.mp eb).1
            have sT := same_upd (o := .tup [.int (j : Nat), .ref wb]) nT
            have fr6 := (fr.trans fr5).same sT
            have t6 := fr6.tups hT
            refine ⟨T2, [.int j, .ref wb], rfl, .inl (.inl upd_same), rfl, .int j, [.ref wb], rfl, .ref wb, [], rfl, rfl, rfl, ?_⟩
            refine ⟨.ref wa, rfl, .ref wb, rfl, wa, wb, wd, wd2, rfl, isw.mono t6, isw2.mono t6, fr6.2, fun H7 fr7 => ⟨_, rfl, ?_⟩⟩
            have fr57 := (fr5.same sT).trans fr7
            have hD7 : H7 D2 = some (.lst ((clsL wds wd j).map V.int)) := fr7.keep fr6.2 (sT _ _ hD5)
            have ec := clAt_of (a := wd) hwd2
            refine ite2 (fun e => ?_) (fun e => ?_)
            · refine ⟨.int j, rfl, _, hD7, ?_, fr57.put fr.2 nD2, ?_⟩
              · rw [List.length_map]
                have := clsL_len wds wd j
                exact small1000 (by omega)
              · rw [upd_same, clsL_yes (ec.trans e), List.map_append]
                rfl
            · refine ⟨fr57, ?_⟩
              rw [clsL_no (ec.trans (by simpa using e))]
              exact hD7
        · obtain ⟨fr5, hD5⟩ := pp
          rw [List.length_map, hl] at hD5
          have hD5' := fr5.keep fr.2 hD
          have nn : H D2 = none := fr.free hT nD2
          have nDD : D2 ≠ D := fun z => by rw [z, hD] at nD2; cases nD2
          have lsl := pairedLen pl
          have keepL : ∀ la row, H3 la = some (.lst row) → la ≠ D → upd H5 D (.lst (ls.map V.ref ++ [.ref D2])) la = some (.lst row) := fun la row e n => by
            rw [upd_ne n]
            exact fr5.keep fr.2 e
          have inl : ∀ {l : List Addr} {m : List (List Int)}, Paired (fun la row => H3 la = some (.lst (row.map V.int))) l m → D ∉ l → Paired (fun la row => upd H5 D (.lst (ls.map V.ref ++ [.ref D2])) la = some (.lst (row.map V.int))) l m := fun {l m} p => by
            induction p with
            | nil => exact fun _ => .nil
            | cons h t ih => exact fun n => .cons (keepL _ _ h (fun z => n (by rw [z]; exact List.mem_cons_self))) (ih fun z => n (List.mem_cons_of_mem _ z))
          have n2 : D2 ∉ ls := fun z => by
            obtain ⟨j, hj⟩ := List.getElem?_of_mem z
            obtain ⟨row, _, e⟩ := pairedGetL pl hj
            rw [nD2] at e
            cases e
          refine ⟨_, hD5', ?_, (fr.trans fr5).put hT nD, ls ++ [D2], ?_, ?_, ?_, ?_, ?_⟩
          · rw [List.length_map, lsl, List.length_map, List.length_take]
            exact small1000 (by omega)
          · rw [upd_same, List.map_append]
            rfl
          · rw [take_snoc hwd, List.map_append]
            refine (inl pl nDl).snoc ?_
            rw [upd_ne nDD]
            exact hD5
          · exact List.nodup_append.mpr ⟨nd, by simp, fun a ha b hb e => n2 (by rw [← List.mem_singleton.mp hb, ← e]; exact ha)⟩
          · exact fun z => (List.mem_append.mp z).elim nDl fun z => nDD (List.mem_singleton.mp z).symm
          · exact fun la z => (List.mem_append.mp z).elim (fl la) fun z => by rw [List.mem_singleton.mp z]; exact nn
    · obtain ⟨fr, ll⟩ := p
      rw [List.length_map, hl, List.take_length] at ll
      exact q H3 D fr nD ll
end
end Rd

set_option Elab.async false
set_option linter.all false
set_option maxRecDepth 100000
set_option maxHeartbeats 4000000
namespace Rd
open PySem PySem.Spec PyProof.Rows L2 Dt
abbrev sLfi : Stmt := topS 27
abbrev nLfi : List Str := ["riddle", "found", "place", "longer", "some", "hue"]
theorem scLfi : FnScope nLfi ["riddle"] (defScope sLfi) := ⟨rfl, rfl, rfl, by decide +kernel, rfl, by decide +kernel, by decide +kernel⟩
theorem pairedApp {α β : Type} {F : α → β → Prop} {l2 : List α} {m2 : List β} : ∀ {l : List α} {m : List β}, Paired F l m → Paired F l2 m2 → Paired F (l ++ l2) (m ++ m2)
  | _, _, .nil, h => h
  | _, _, .cons h t, k => .cons h (pairedApp t k)
def spLfi : Sp := fun vs H Q _ => ∃ (ri : Addr) (zs : List V) (many hues : Int), vs = [.ref ri] ∧ H ri = some (.tup (.int many :: .int hues :: zs)) ∧ 0 ≤ many ∧ many ≤ 6 ∧ 0 ≤ hues ∧ hues ≤ 4 ∧
  ∀ H' l, Same H H' → H l = none → IsFills H' l (fillL hues.toNat many.toNat) → Q (.ref l) H'
def spLco : Sp := fun vs H Q _ => ∃ (ri : Addr) (wds : List WD) (many hues : Int), vs = [.ref ri] ∧ IsRid H ri many hues wds ∧ GoodR many hues wds ∧
  ∀ H' l, Same H H' → H l = none → H' l = some (.lst ((cntL wds (fillL hues.toNat many.toNat)).map V.int)) → Q (.ref l) H'
/-- a list of lists of ints -/
def IsL2 (H : Hp) (l : Addr) (rows : List (List Int)) : Prop := ∃ ls : List Addr, H l = some (.lst (ls.map V.ref)) ∧ Paired (fun la row => H la = some (.lst (row.map V.int))) ls rows
def spLcl : Sp := fun vs H Q _ => ∃ (ri : Addr) (wds : List WD) (many hues : Int), vs = [.ref ri] ∧ IsRid H ri many hues wds ∧ GoodR many hues wds ∧
  ∀ H' l, Same H H' → H l = none → IsL2 H' l (clsAll wds) → Q (.ref l) H'
structure TxtF (P : Program) (w : World) (K : PySem.W.Frag) (mg : Str → Option Value) (base : Heap) : Prop where
  m_range : mg "range" = none
  m_len : mg "len" = none
structure TxtG (P : Program) (w : World) (K : PySem.W.Frag) (mg : Str → Option Value) (base : Heap) : Prop extends TxtF P w K mg base where
  c__law_fillings : Cal P w K mg base 1 "_law_fillings" ["riddle"] spLfi
  c__law_broken : Cal P w K mg base 1 "_law_broken" ["riddle", "filling"] spLbr
section
variable {P : Program} {w : World} {K : PySem.W.Frag} {mg : Str → Option Value} {base : Heap}
set_option maxHeartbeats 16000000 in
theorem ok_lfi {f : Addr} {fd : FuncData} {k : Nat} (F : Fun K "_law_fillings" "_law_fillings" sLfi f fd) (T : TxtF P w K mg base) : FnOk P w K mg base CX0 (k + 1) f fd ["riddle"] spLfi := by
  refine F.ok scLfi (fun vs H Q E h => ?_) (fun cdv A outer s H vs Q E hr h => ?_)
  · obtain ⟨ri, zs, many, hues, rfl, _⟩ := h
    rfl
  · obtain ⟨ri, zs, many, hues, rfl, h1, m0, m6, hh0, hh4, q⟩ := h
    refine ⟨_, (pss_cons (ps_set (i := 1) scLfi.nd rfl (Or.inl rfl) (pe_lst (pa_cons (pe_tup pa_nil) pa_nil)))
  (pss_cons (ps_for PassesOwn.never rfl (pi_range1 (by rfl) T.m_range (pa_cons (pe_ix ix_tup (pv 0) pe_int (fun _ _ => rfl)) pa_nil)) (pg_name (i := 2) scLfi.nd rfl (Or.inl rfl))
  (pss_cons (ps_set (i := 3) scLfi.nd rfl (Or.inl rfl) (pe_lst pa_nil))
  (pss_cons (ps_for PassesOwn.never rfl (pi_list (pv 1)) (pg_name (i := 4) scLfi.nd rfl (Or.inr rfl))
  (pss_one (ps_expr (pe_bm PySem.F.plainAttrs_list PySem.F.slot_list_extend PySem.F.type_list_extend mt_extend (pv 3) (pa_cons (pe_lc (te := tOp (rCatA K) (tVar 4) (tTup (tCons (tVar 5) tNil))) (own := [("hue", 5)]) rfl scLfi.nd  (pi_range1 (by rfl) T.m_range (pa_cons (pe_ix ix_tup (pv 0) pe_int (fun _ _ => rfl)) pa_nil)) (blkOk_by (own := [("hue", 5)]) (N := nLfi) (sc := defScope sLfi) (by decide +kernel))
   (fun _ _ _ _ _ => (pg_name (i := 5) scLfi.nd rfl (Or.inl rfl))) (fun _ _ _ _ _ => pts_nil) (fun _ _ _ _ _ => (pe_op op_catA (pv 4) (pe_tup (pa_cons (pv 5) pa_nil))))) pa_nil)))))
  (pss_one (ps_set (i := 1) scLfi.nd rfl (Or.inl rfl) (pv 3))))))
  (pss_one (ps_ret (pv 1))))), ?_⟩
    refine ⟨(by show 0 ≤ sizeLine; decide), fun t nt => ⟨(by show 1 ≤ sizeLine; decide), fun l nl => ?_⟩⟩
    have st := same_upd (o := .tup []) nt
    have sl := same_upd (o := .lst [.ref t]) nl
    refine ⟨.ref ri, rfl, ri, _, 0, _, rfl, rfl, .inl (.inl ((st.trans sl) _ _ h1)), atI_nat (j := 0) rfl, many, rfl, by omega, by omega, for_range (lo := 0) (n := many.toNat) (fun i σ H3 => Same H H3 ∧ ∃ l, H l = none ∧ IsFills H3 l (fillL hues.toNat i) ∧ ∃ y2 y3 y4, σ = [some (.ref ri), some (.ref l), y2, y3, y4, none]) ⟨st.trans sl, l, st.free nl, ⟨[t], upd_same, .cons (sl _ _ upd_same) .nil⟩, none, none, none, rfl⟩ (fun i σ H3 hi p => ?_) (fun σ H3 p => ?_)⟩
    · obtain ⟨sm, l, nl, ⟨as, hl, pr⟩, y2, y3, y4, rfl⟩ := p
      have flen := fill_len hues.toNat i
      have p4 : hues.toNat ^ i ≤ 4096 := pow_le_4096 (by omega) (by omega)
      have alen := pairedLen pr
      refine ⟨(by show 0 ≤ sizeLine; decide), fun L nL => ?_⟩
      have nLH : H L = none := sm.free nL
      refine ⟨.ref l, rfl, l, rfl, ⟨_, .inl (.inl (same_upd nL _ _ hl))⟩, for_list (K := K) (a := l) (xs := as.map V.ref) (fun i2 σ H5 => Same H3 H5 ∧ IsFills H5 L (((fillL hues.toNat i).take i2).flatMap (longer hues.toNat)) ∧ ∃ y2 y4, σ = [some (.ref ri), some (.ref l), y2, some (.ref L), y4, none]) ⟨same_upd nL, ⟨[], upd_same, .nil⟩, _, _, rfl⟩ (fun i2 σ H5 _ pp => .inl (.inl (pp.1 _ _ hl))) (fun i2 x σ H5 hx pp => ?_) (fun σ H5 pp => ?_)⟩
      · rw [List.getElem?_map] at hx
        cases ea : as[i2]? with
        | none => rw [ea] at hx; cases hx
        | some a =>
          rw [ea] at hx
          cases hx
          obtain ⟨fl, hfl, isr⟩ := pairedGetL pr ea
          obtain ⟨s5, ⟨bs, hL, pb⟩, z2, z4, rfl⟩ := pp
          have blen := pairedLen pb
          refine ⟨.ref L, rfl, .inl ⟨rfl, _, .inl (.inl hL)⟩, .ref ri, rfl, ri, _, 1, _, rfl, rfl, .inl (.inl ((sm.trans s5) _ _ h1)), atI_nat (j := 1) rfl, hues, rfl, by omega, by omega, fun D nD => lc_range (lo := 0) (n := hues.toNat) (fun j H6 => Same H5 H6 ∧ IsFills H6 D ((longer hues.toNat fl).take j)) ⟨same_upd nD, [], upd_same, .nil⟩ (fun j H6 hj pp => ?_) (fun H6 pp => ?_)⟩
          · obtain ⟨s6, cs, hb, pc⟩ := pp
            have clen := pairedLen pc
            have fin : ∀ (H7 : Hp) (r : Addr), Same H6 H7 → H7 r = some (.tup ((fl ++ [(j : Int)]).map V.int)) → ∃ acc, H7 D = some (.lst acc) ∧ acc.length < sizeLine ∧ (Same H5 (upd H7 D (.lst (acc ++ [.ref r]))) ∧ IsFills (upd H7 D (.lst (acc ++ [.ref r]))) D ((longer hues.toNat fl).take (j + 1))) := fun H7 r s7 hr7 => by
              have hD7 := s7 _ _ hb
              have tu : Tups H7 (upd H7 D (.lst (cs.map V.ref ++ [.ref r]))) := tups_upd fun xs z => by rw [hD7] at z; cases z
              refine ⟨_, hD7, ?_, fun b o e => ?_, cs ++ [r], ?_, ?_⟩
              · rw [List.length_map, clen, List.length_take, longer_len]
                exact small1000 (by omega)
              · rw [upd_ne (ne_of_none e nD)]
                exact s7 _ _ (s6 b o e)
              · rw [upd_same, List.map_append]
                rfl
              · rw [take_snoc (longer_at fl hj)]
                exact pairedSnoc (pairedMap (fun _ _ e => tu _ _ (s7 _ _ e)) pc) (tu _ _ hr7)
            refine ⟨rfl, yes_if ?_⟩
            refine ⟨.ref a, rfl, .int (0 + (j : Int)), rfl, (by show 1 ≤ sizeLine; decide), fun t nt => ?_⟩
            have sT := same_upd (o := .tup [.int (0 + (j : Int))]) nt
            have ha : upd H6 t (.tup [.int (0 + (j : Int))]) a = some (.tup (fl.map V.int)) := sT _ _ (s6 _ _ (s5 _ _ isr))
            have e0 : (0 : Int) + (j : Int) = j := Int.zero_add _
            have flen2 := (fill_good (List.mem_of_getElem? hfl)).1
            refine ⟨a, t, _, _, rfl, rfl, .inl (.inl ha), .inl (.inl upd_same), ?_, fun z => ?_, (fun _ z => nomatch z), fun z _ p np => ?_⟩
            · rw [List.length_map, flen2]
              exact Nat.le_of_lt (small1000 (by show i + 1 ≤ 1000; omega))
            · have z2 : fl = [] := List.map_eq_nil_iff.mp z
              refine fin _ t sT ?_
              rw [upd_same, z2, e0]
              rfl
            · have sp := same_upd (o := .tup (fl.map V.int ++ [.int (0 + (j : Int))])) np
              refine fin _ p (sT.trans sp) ?_
              rw [upd_same, e0, List.map_append]
              rfl
          · obtain ⟨s6, cs, hb, pc⟩ := pp
            rw [List.take_of_length_le (by rw [longer_len]; exact Nat.le_refl _)] at pc
            have hL6 := s6 _ _ hL
            have clen := pairedLen pc
            have tu : Tups H6 (upd H6 L (.lst (bs.map V.ref ++ cs.map V.ref))) := tups_upd fun xs z => by rw [hL6] at z; cases z
            refine ⟨L, D, _, _, rfl, rfl, hL6, hb, ?_, fun b o e => ?_, ⟨bs ++ cs, ?_, ?_⟩, _, _, rfl⟩
            · rw [List.length_map, List.length_map, blen, clen, flat_len, List.length_take, longer_len, flen]
              have : min i2 (hues.toNat ^ i) * hues.toNat ≤ 4096 * 4 := Nat.mul_le_mul (by omega) (by omega)
              exact Nat.le_trans (show _ ≤ 20000 by omega) (by decide)
            · rw [upd_ne (ne_of_none e nL)]
              exact s6 _ _ (s5 b o e)
            · rw [upd_same, List.map_append]
            · rw [take_snoc hfl, List.flatMap_append]
              refine pairedApp (pairedMap (fun _ _ e => tu _ _ (s6 _ _ e)) pb) ?_
              have e : [fl].flatMap (longer hues.toNat) = longer hues.toNat fl := by simp
              rw [e]
              exact pairedMap (fun _ _ e => tu _ _ e) pc
      · obtain ⟨s5, fs5, z2, z4, rfl⟩ := pp
        refine ⟨.ref L, rfl, sm.trans s5, L, nLH, ?_, _, _, _, rfl⟩
        rw [List.length_map, alen, List.take_length] at fs5
        exact fs5
    · obtain ⟨sm, l, nl, fs, y2, y3, y4, rfl⟩ := p
      exact ⟨.ref l, rfl, q H3 l sm nl fs⟩
end
end Rd

set_option Elab.async false
set_option linter.all false
set_option maxRecDepth 100000
set_option maxHeartbeats 4000000
namespace Rd
open PySem PySem.Spec PyProof.Rows L2 Dt
abbrev sNum : Stmt := topS 7
abbrev sRis : Stmt := topS 8
abbrev sFno : Stmt := topS 9
abbrev sSiz : Stmt := topS 10
abbrev sPls : Stmt := topS 11
abbrev sHus : Stmt := topS 12
abbrev sRws : Stmt := topS 13
abbrev sWsh : Stmt := topS 14
abbrev sIrd : Stmt := topS 15
abbrev nNum : List Str := ["thing", "low", "high"]
abbrev nRis : List Str := ["parts", "k"]
abbrev nFno : List Str := ["many", "hues", "number", "place"]
abbrev nSiz : List Str := ["many", "hues"]
abbrev nPls : List Str := ["thing", "many", "place"]
abbrev nHus : List Str := ["thing", "length", "hues", "hue"]
abbrev nRws : List Str := ["thing", "length", "hues", "row"]
abbrev nWsh : List Str := ["thing", "many", "hues", "places", "rows"]
abbrev nIrd : List Str := ["thing", "many", "hues", "wishes", "wish"]
theorem scNum : FnScope nNum ["thing", "low", "high"] (defScope sNum) := ⟨rfl, rfl, rfl, by decide +kernel, rfl, by decide +kernel, by decide +kernel⟩
theorem scRis : FnScope nRis ["parts"] (defScope sRis) := ⟨rfl, rfl, rfl, by decide +kernel, rfl, by decide +kernel, by decide +kernel⟩
theorem scFno : FnScope nFno ["many", "hues"] (defScope sFno) := ⟨rfl, rfl, rfl, by decide +kernel, rfl, by decide +kernel, by decide +kernel⟩
theorem scSiz : FnScope nSiz ["many", "hues"] (defScope sSiz) := ⟨rfl, rfl, rfl, by decide +kernel, rfl, by decide +kernel, by decide +kernel⟩
theorem scPls : FnScope nPls ["thing", "many"] (defScope sPls) := ⟨rfl, rfl, rfl, by decide +kernel, rfl, by decide +kernel, by decide +kernel⟩
theorem scHus : FnScope nHus ["thing", "length", "hues"] (defScope sHus) := ⟨rfl, rfl, rfl, by decide +kernel, rfl, by decide +kernel, by decide +kernel⟩
theorem scRws : FnScope nRws ["thing", "length", "hues"] (defScope sRws) := ⟨rfl, rfl, rfl, by decide +kernel, rfl, by decide +kernel, by decide +kernel⟩
theorem scWsh : FnScope nWsh ["thing", "many", "hues"] (defScope sWsh) := ⟨rfl, rfl, rfl, by decide +kernel, rfl, by decide +kernel, by decide +kernel⟩
theorem scIrd : FnScope nIrd ["thing"] (defScope sIrd) := ⟨rfl, rfl, rfl, by decide +kernel, rfl, by decide +kernel, by decide +kernel⟩
/-! ### frames but for some tables -/
def Tabs (Ps : List Addr) (H : Hp) : Prop := ∀ P ∈ Ps, GxR.TabG H P
def FrS (Ps : List Addr) (H H' : Hp) : Prop := (∀ b o, b ∉ Ps → H b = some o → H' b = some o) ∧ Tabs Ps H'
theorem FrS.refl {Ps : List Addr} {H : Hp} (t : Tabs Ps H) : FrS Ps H H := ⟨fun _ _ _ e => e, t⟩
theorem FrS.trans {Ps : List Addr} {H H1 H2 : Hp} (a : FrS Ps H H1) (b : FrS Ps H1 H2) : FrS Ps H H2 := ⟨fun x o n e => b.1 x o n (a.1 x o n e), b.2⟩
theorem FrS.of {Ps : List Addr} {H H' : Hp} (t : Tabs Ps H) (s : Same H H') : FrS Ps H H' := ⟨fun b o _ e => s b o e, fun P hP => let ⟨ps, h, q⟩ := t P hP; ⟨ps, s _ _ h, q⟩⟩
theorem FrS.one {Ps : List Addr} {P : Addr} {H H' : Hp} (t : Tabs Ps H) (hP : P ∈ Ps) (f : GxR.Tabbed P H H') : FrS Ps H H' := by
  refine ⟨fun b o n e => ?_, fun Q hQ => ?_⟩
  · rw [f.2 b (fun z => n (by rw [z]; exact hP))]
    exact e
  · by_cases z : Q = P
    · rw [z]; exact f.1
    · obtain ⟨ps, h, q⟩ := t Q hQ
      exact ⟨ps, by rw [f.2 Q z]; exact h, q⟩
theorem Tabs.tup {Ps : List Addr} {H : Hp} (t : Tabs Ps H) {b : Addr} {xs : List V} (e : H b = some (.tup xs)) : b ∉ Ps := fun z => by
  obtain ⟨ps, h, _⟩ := t b z
  rw [e] at h
  cases h
theorem Tabs.lst {Ps : List Addr} {H : Hp} (t : Tabs Ps H) {b : Addr} {xs : List V} (e : H b = some (.lst xs)) : b ∉ Ps := fun z => by
  obtain ⟨ps, h, _⟩ := t b z
  rw [e] at h
  cases h
theorem FrS.tups {Ps : List Addr} {H H' : Hp} (t : Tabs Ps H) (f : FrS Ps H H') : Tups H H' := fun b xs e => f.1 b _ (t.tup e) e
theorem FrS.well {Ps : List Addr} {H H' : Hp} {wl cl : Addr} (t : Tabs Ps H) (f : FrS Ps H H') (w : Well H wl cl) : Well H' wl cl := by
  obtain ⟨cs, x, c, h1, h2, hc⟩ := w
  exact ⟨cs, x, c, f.1 _ _ (t.lst h1) h1, f.1 _ _ (t.lst h2) h2, hc⟩
theorem FrS.tab {Ps : List Addr} {H H' : Hp} {P : Addr} (f : FrS Ps H H') (t : GxR.TabG H P) : GxR.TabG H' P := by
  by_cases z : P ∈ Ps
  · exact f.2 P z
  · obtain ⟨ps, h, q⟩ := t
    exact ⟨ps, f.1 _ _ z h, q⟩
theorem ip_mul {X : Cx} : PIp X .Mult (fun x y H Q => ∃ i j, x = .int i ∧ y = .int j ∧ CMul i j ∧ Q (.int (i * j)) H) := by
  intro pins s σ H x y v u Q I r1 r2 h
  obtain ⟨i, j, e1, e2, hm, q⟩ := h
  subst e1; subst e2
  obtain ⟨t, rfl⟩ := r1
  obtain ⟨t', rfl⟩ := r2
  exact imul_int ⟨.int _, H, I.tok _, ⟨_, rfl⟩, q⟩ hm.ok
/-! ### what is rising -/
def risI (ns : List Int) : Bool := (List.range (ns.length - 1)).all fun k => decide (ns.getD k 0 < ns.getD (k + 1) 0)
def risR (rs : List Dt.Row) : Bool := (List.range (rs.length - 1)).all fun k => HT.lexLt (rs.getD k []) (rs.getD (k + 1) [])
structure Rise (wd : WD) : Prop where
  pl : risI wd.1 = true
  rows : risR wd.2 = true
def rLtU (K : PySem.W.Frag) : R2 := fun x y H Q => rI0 (fun i j => .bl (decide (i < j))) x y H Q ∨ rLtT K x y H Q
def sizeOk (many hues : Int) : Bool := decide (1 ≤ many ∧ many ≤ 6) && decide (2 ≤ hues ∧ hues ≤ 4) && decide (hues ^ many.toNat ≤ 256)
def spNum : Sp := fun vs H Q _ => ∃ t lo hi : Int, vs = [.int t, .int lo, .int hi] ∧ Q (.bl (decide (lo ≤ t ∧ t ≤ hi))) H
def spRis (Ps : List Addr) : Sp := fun vs H Q _ => ∃ pa : Addr, vs = [.ref pa] ∧ Tabs Ps H ∧ ((∃ ns : List Int, H pa = some (.tup (ns.map V.int)) ∧ risI ns = true ∧ ns.length ≤ 1000) ∨ (∃ (rs : List Addr) (rows : List Dt.Row), H pa = some (.tup (rs.map V.ref)) ∧ Paired (IsRow H) rs rows ∧ risR rows = true ∧ rows.length ≤ 1000)) ∧
  ∀ H', FrS Ps H H' → Q (.bl true) H'
def spFno : Sp := fun vs H Q _ => ∃ many hues : Int, vs = [.int many, .int hues] ∧ 0 ≤ many ∧ many ≤ 6 ∧ 0 ≤ hues ∧ hues ≤ 4 ∧ Q (.int (hues ^ many.toNat)) H
def spSiz : Sp := fun vs H Q _ => ∃ many hues : Int, vs = [.int many, .int hues] ∧ Q (.bl (sizeOk many hues)) H
def spPls (Ps : List Addr) : Sp := fun vs H Q _ => ∃ (pa : Addr) (ns : List Int) (many : Int), vs = [.ref pa, .int many] ∧ Tabs Ps H ∧ H pa = some (.tup (ns.map V.int)) ∧ 1 ≤ ns.length ∧ ns.length ≤ 3 ∧ (∀ p ∈ ns, 0 ≤ p ∧ p < many) ∧ risI ns = true ∧ ∀ H', FrS Ps H H' → Q (.bl true) H'
def spHus (Ps : List Addr) : Sp := fun vs H Q _ => ∃ (ra : Addr) (row : Dt.Row) (hues : Int), vs = [.ref ra, .int row.length, .int hues] ∧ Tabs Ps H ∧ IsRow H ra row ∧ (∀ h ∈ row, 0 ≤ h ∧ h < hues) ∧ ∀ H', FrS Ps H H' → Q (.bl true) H'
def spRws (Ps : List Addr) : Sp := fun vs H Q _ => ∃ (ra : Addr) (rs : List Addr) (rows : List Dt.Row) (n : Nat) (hues : Int), vs = [.ref ra, .int n, .int hues] ∧ Tabs Ps H ∧ H ra = some (.tup (rs.map V.ref)) ∧ Paired (IsRow H) rs rows ∧ 1 ≤ rows.length ∧ rows.length ≤ 1000 ∧ (∀ r ∈ rows, r.length = n ∧ ∀ h ∈ r, 0 ≤ h ∧ h < hues) ∧ risR rows = true ∧ ∀ H', FrS Ps H H' → Q (.bl true) H'
def spWsh (Ps : List Addr) : Sp := fun vs H Q _ => ∃ (wa : Addr) (wd : WD) (many hues : Int), vs = [.ref wa, .int many, .int hues] ∧ Tabs Ps H ∧ IsWish H wa wd ∧ Good many hues wd ∧ Rise wd ∧ ∀ H', FrS Ps H H' → Q (.bl true) H'
def spIrd (Ps : List Addr) : Sp := fun vs H Q _ => ∃ (ri : Addr) (z : V) (many hues : Int), vs = [.ref ri] ∧ Tabs Ps H ∧ H ri = some (.tup [.int many, .int hues, z]) ∧ ((sizeOk many hues = false ∧ Q (.bl false) H) ∨
  (sizeOk many hues = true ∧ ∃ wds, IsRid H ri many hues wds ∧ GoodR many hues wds ∧ (∀ wd ∈ wds, Rise wd) ∧ ∀ H', FrS Ps H H' → Q (.bl true) H'))
structure TxtN (mg : Str → Option Value) : Prop where
  m_isinstance : mg "isinstance" = none
  m_int : mg "int" = none
  m_bool : mg "bool" = none
  m_tuple : mg "tuple" = none
  m_len : mg "len" = none
  m_all : mg "all" = none
  m_range : mg "range" = none
  g_MOST_PLACES : ∃ u, mg "MOST_PLACES" = some u ∧ RelV (.int 6) u
  g_LEAST_HUES : ∃ u, mg "LEAST_HUES" = some u ∧ RelV (.int 2) u
  g_MOST_HUES : ∃ u, mg "MOST_HUES" = some u ∧ RelV (.int 4) u
  g_MOST_FILLINGS : ∃ u, mg "MOST_FILLINGS" = some u ∧ RelV (.int 256) u
  g_MOST_WISHES : ∃ u, mg "MOST_WISHES" = some u ∧ RelV (.int 8) u
  g_MOST_PLACES_OF_A_WISH : ∃ u, mg "MOST_PLACES_OF_A_WISH" = some u ∧ RelV (.int 3) u
structure TxtN1 (P : Program) (w : World) (K : PySem.W.Frag) (mg : Str → Option Value) (base : Heap) : Prop extends TxtN mg where
  c_is_number : Cal P w K mg base 1 "is_number" ["thing", "low", "high"] spNum
  c_fillings_number : Cal P w K mg base 1 "fillings_number" ["many", "hues"] spFno
structure TxtN2 (P : Program) (w : World) (K : PySem.W.Frag) (mg : Str → Option Value) (base : Heap) (Ps : List Addr) : Prop extends TxtN1 P w K mg base where
  c_is_rising : Cal P w K mg base 2 "is_rising" ["parts"] (spRis Ps)
structure TxtN3 (P : Program) (w : World) (K : PySem.W.Frag) (mg : Str → Option Value) (base : Heap) (Ps : List Addr) : Prop extends TxtN2 P w K mg base Ps where
  c_are_hues : Cal P w K mg base 3 "are_hues" ["thing", "length", "hues"] (spHus Ps)
structure TxtN4 (P : Program) (w : World) (K : PySem.W.Frag) (mg : Str → Option Value) (base : Heap) (Ps : List Addr) : Prop extends TxtN mg where
  c_are_places : Cal P w K mg base 3 "are_places" ["thing", "many"] (spPls Ps)
  c_are_rows : Cal P w K mg base 5 "are_rows" ["thing", "length", "hues"] (spRws Ps)
structure TxtN5 (P : Program) (w : World) (K : PySem.W.Frag) (mg : Str → Option Value) (base : Heap) (Ps : List Addr) : Prop extends TxtN mg where
  c_is_size : Cal P w K mg base 2 "is_size" ["many", "hues"] spSiz
  c_is_wish : Cal P w K mg base 6 "is_wish" ["thing", "many", "hues"] (spWsh Ps)
section
variable {P : Program} {w : World} {K : PySem.W.Frag} {mg : Str → Option Value} {base : Heap}
theorem ok_num {f : Addr} {fd : FuncData} {k : Nat} (F : Fun K "is_number" "is_number" sNum f fd) (T : TxtN mg) : FnOk P w K mg base CX0 (k + 1) f fd ["thing", "low", "high"] spNum := by
  refine F.ok scNum (fun vs H Q E h => ?_) (fun cdv A outer s H vs Q E hr h => ?_)
  · obtain ⟨t, lo, hi, rfl, _⟩ := h
    rfl
  · obtain ⟨t, lo, hi, rfl, q⟩ := h
    refine ⟨_, (pss_one (ps_ret (pe_and (pe_callB call_isi (by rfl) T.m_isinstance (by decide +kernel) (pa_cons (pv 0) (pa_cons (pe_bltn (v := .ty "int") (by rfl) T.m_int (by decide +kernel) rfl) pa_nil))) (pe_and (pe_not (pe_callB call_isi (by rfl) T.m_isinstance (by decide +kernel) (pa_cons (pv 0) (pa_cons (pe_bltn (v := .ty "bool") (by rfl) T.m_bool (by decide +kernel) rfl) pa_nil)))) (pe_one (pe_chain op_le op_le (pv 1) (pv 0) (pv 2))))))), ?_⟩
    refine ⟨.int t, rfl, .int t, .ty "int", .type "int", .type "int", true, rfl, .ty _, .base (.int t), kit_ty (by decide +kernel), true, rfl, iteT ?_⟩
    refine ⟨.int t, rfl, .int t, .ty "bool", .type "int", .type "bool", false, rfl, .ty _, .base (.int t), kit_ty (by decide +kernel), false, rfl, true, rfl, iteT ?_⟩
    refine ⟨.int lo, rfl, .int t, rfl, lo, t, rfl, rfl, _, rfl, ite2 (fun e => ?_) (fun e => ?_)⟩
    · refine ⟨.int hi, rfl, t, hi, rfl, rfl, ?_⟩
      have e : lo ≤ t := by simpa using e
      have e2 : decide (lo ≤ t ∧ t ≤ hi) = decide (t ≤ hi) := by simp [e]
      rw [e2] at q
      exact q
    · have e : ¬ lo ≤ t := by simpa using e
      have e2 : decide (lo ≤ t ∧ t ≤ hi) = false := by simp [e]
      rw [e2] at q
      exact q
theorem ok_fno {f : Addr} {fd : FuncData} {k : Nat} (F : Fun K "fillings_number" "fillings_number" sFno f fd) (T : TxtN mg) : FnOk P w K mg base CX0 (k + 1) f fd ["many", "hues"] spFno := by
  refine F.ok scFno (fun vs H Q E h => ?_) (fun cdv A outer s H vs Q E hr h => ?_)
  · obtain ⟨many, hues, rfl, _⟩ := h
    rfl
  · obtain ⟨m, n, rfl, m0, m6, h0, h4, q⟩ := h
    refine ⟨_, (pss_cons (ps_set (i := 2) scFno.nd rfl (Or.inl rfl) pe_int)
  (pss_cons (ps_for PassesOwn.never rfl (pi_range1 (by rfl) T.m_range (pa_cons (pv 0) pa_nil)) (pg_name (i := 3) scFno.nd rfl (Or.inl rfl))
  (pss_one (ps_aug (i := 2) scFno.nd rfl (Or.inl rfl) (pv 1) ip_mul)))
  (pss_one (ps_ret (pv 2))))), ?_⟩
    refine ⟨.int m, rfl, m, rfl, by omega, by omega, for_range (lo := 0) (n := m.toNat) (fun i σ H3 => H3 = H ∧ ∃ y3, σ = [some (.int m), some (.int n), some (.int (n ^ i)), y3]) ⟨rfl, none, by rw [Int.pow_zero]; rfl⟩ (fun i σ H3 hi p => ?_) (fun σ H3 p => ?_)⟩
    · obtain ⟨rfl, y3, rfl⟩ := p
      have b := pow_bd h0 h4 (i := i) (by omega)
      exact ⟨_, rfl, _, rfl, n ^ i, n, rfl, rfl, .inl ⟨by omega, by omega⟩, rfl, _, by rw [Int.pow_succ]; rfl⟩
    · obtain ⟨rfl, y3, rfl⟩ := p
      exact ⟨_, rfl, q⟩
theorem ok_siz {f : Addr} {fd : FuncData} {k : Nat} (F : Fun K "is_size" "is_size" sSiz f fd) (T : TxtN1 P w K mg base) : FnOk P w K mg base CX0 (k + 2) f fd ["many", "hues"] spSiz := by
  refine F.ok scSiz (fun vs H Q E h => ?_) (fun cdv A outer s H vs Q E hr h => ?_)
  · obtain ⟨many, hues, rfl, _⟩ := h
    rfl
  · obtain ⟨m, n, rfl, q⟩ := h
    have hr1 : Room 1 (A.deeper (envOfC (Str.ofString "is_size") (defScope sSiz) s.heap.objs.size f cdv)) := hr.mono (by omega)
    refine ⟨_, (pss_cons (ps_if (PW.pt (pw_or (pt_not (pt_val (pe_cal T.c_is_number hr1 (by rfl) (pa_cons (pv 0) (pa_cons pe_int (pa_cons (C8.pe_gc (by rfl) T.g_MOST_PLACES) pa_nil)))))) (pw_or1 (pt_not (pt_val (pe_cal T.c_is_number hr1 (by rfl) (pa_cons (pv 1) (pa_cons (C8.pe_gc (by rfl) T.g_LEAST_HUES) (pa_cons (C8.pe_gc (by rfl) T.g_MOST_HUES) pa_nil)))))))))
  (pss_one (ps_ret pe_bl)) pss_nil)
  (pss_one (ps_ret (pe_cmpR op_le (pe_cal T.c_fillings_number hr1 (by rfl) (pa_cons (pv 0) (pa_cons (pv 1) pa_nil))) (C8.pe_gc (by rfl) T.g_MOST_FILLINGS) (nomark _))))), ?_⟩
    refine ⟨.int m, rfl, m, 1, 6, rfl, _, rfl, ?_⟩
    by_cases h1 : 1 ≤ m ∧ m ≤ 6
    · rw [decide_eq_true h1]
      refine iteF ⟨.int n, rfl, n, 2, 4, rfl, _, rfl, ?_⟩
      by_cases h2 : 2 ≤ n ∧ n ≤ 4
      · rw [decide_eq_true h2]
        refine iteF ⟨.int m, rfl, .int n, rfl, m, n, rfl, by omega, by omega, by omega, by omega, _, _, rfl, rfl, ?_⟩
        have e : sizeOk m n = decide (n ^ m.toNat ≤ 256) := by
          unfold sizeOk
          rw [decide_eq_true h1, decide_eq_true h2, Bool.true_and, Bool.true_and]
        rw [e] at q
        exact q
      · rw [decide_eq_false h2]
        have e : sizeOk m n = false := by
          unfold sizeOk
          rw [decide_eq_false h2, Bool.and_false, Bool.false_and]
        rw [e] at q
        exact iteT q
    · rw [decide_eq_false h1]
      have e : sizeOk m n = false := by
        unfold sizeOk
        rw [decide_eq_false h1, Bool.false_and, Bool.false_and]
      rw [e] at q
      exact iteT (iteT q)
end
end Rd

set_option Elab.async false
set_option linter.all false
set_option maxRecDepth 100000
set_option maxHeartbeats 4000000
namespace Rd
open PySem PySem.Spec PyProof.Rows L2 Dt
theorem ris_at {ns : List Int} (h : risI ns = true) {k : Nat} (hk : k < ns.length - 1) : ∃ a b, ns[k]? = some a ∧ ns[k + 1]? = some b ∧ a < b := by
  have z := List.all_eq_true.mp h k (List.mem_range.mpr hk)
  have h1 : k < ns.length := by omega
  have h2 : k + 1 < ns.length := by omega
  rw [List.getD_eq_getElem?_getD, List.getD_eq_getElem?_getD, List.getElem?_eq_getElem h1, List.getElem?_eq_getElem h2] at z
  exact ⟨_, _, List.getElem?_eq_getElem h1, List.getElem?_eq_getElem h2, by simpa using z⟩
theorem risR_at {rs : List Dt.Row} (h : risR rs = true) {k : Nat} (hk : k < rs.length - 1) : ∃ a b, rs[k]? = some a ∧ rs[k + 1]? = some b ∧ HT.lexLt a b = true := by
  have z := List.all_eq_true.mp h k (List.mem_range.mpr hk)
  have h1 : k < rs.length := by omega
  have h2 : k + 1 < rs.length := by omega
  rw [List.getD_eq_getElem?_getD, List.getD_eq_getElem?_getD, List.getElem?_eq_getElem h1, List.getElem?_eq_getElem h2] at z
  exact ⟨_, _, List.getElem?_eq_getElem h1, List.getElem?_eq_getElem h2, z⟩
section
variable {P : Program} {w : World} {K : PySem.W.Frag} {mg : Str → Option Value} {base : Heap}
theorem ok_ris {f c Pr : Addr} {fd : FuncData} {Ps : List Addr} {k : Nat} (F : FunC K "is_rising" "is_rising" sRis f fd (.ref c)) (TB : GxR.TabB base mg c Pr) (hP : Pr ∈ Ps) (T : TxtN mg) : FnOk P w K mg base CX0 (k + 2) f fd ["parts"] (spRis Ps) := by
  refine F.ok scRis (fun vs H Q E h => ?_) (fun A outer s H vs Q E hr h => ?_)
  · obtain ⟨pa, rfl, _⟩ := h
    rfl
  · obtain ⟨pa, rfl, hT, hcase, q⟩ := h
    refine ⟨_, (pss_one (ps_ret (Gx.pe_allX (own := [("k", 1)]) (te := tOp (rLtU K) (tOp (rIxT K) (tVar 0) (tVar 1)) (tOp (rIxT K) (tVar 0) (tOp (rI0 fun i j => .int (i + j)) (tVar 1) (tC (.int 1))))) hr (by rfl) T.m_all rfl scRis.nd TB rfl (blkOk_by (own := [("k", 1)]) (N := nRis) (sc := defScope sRis) (by decide +kernel)) ⟨rfl, by decide +kernel, rfl⟩ (pi_range1 (by rfl) T.m_range (pa_cons (pe_op op_sub (pe_callB call_len_seq (by rfl) T.m_len (by decide +kernel) (pa_cons (pv 0) pa_nil)) pe_int) pa_nil))
   (fun _ _ _ _ _ _ hA => (pg_name (i := 1) scRis.nd rfl (Or.inl rfl))) (fun _ _ _ _ _ _ hA => pts_nil) (fun _ _ _ _ _ _ hA => (pe_cmpR (OpR.or op_lt (op_ltT (Nat.lt_of_le_of_lt (Nat.le_add_right _ 64) hA.units))) (pe_ix ix_tup (pv 0) (pv 1) (fun _ _ => rfl)) (pe_ix ix_tup (pv 0) (pe_op op_add (pv 1) pe_int) (fun _ _ => rfl)) (nomark _)))))), ?_⟩
    rcases hcase with ⟨ns, hpa, hri, hlen⟩ | ⟨rs, rows, hpa, prs, hri, hlen⟩
    · refine ⟨.ref pa, rfl, pa, _, rfl, .inr (.inl (.inl hpa)), _, 1, rfl, rfl, _, rfl, ?_, ?_, hT _ hP, fun H2 tb => ?_⟩
      · rw [List.length_map]; omega
      · rw [List.length_map]; omega
      have f2 := FrS.one hT hP tb
      have en : (((ns.map V.int).length : Int) - 1).toNat = ns.length - 1 := by rw [List.length_map]; omega
      rw [en]
      refine Gx.all_range (lo := 0) (n := ns.length - 1) (fun _ H3 => FrS Ps H H3) f2 (fun i H3 hi f3 => ?_) (fun H3 f3 => q H3 f3)
      obtain ⟨a, b, ha, hb, hab⟩ := ris_at hri hi
      have e0 : (0 : Int) + (i : Int) = i := Int.zero_add _
      have e1 : (0 : Int) + (i : Int) + 1 = ((i + 1 : Nat) : Int) := by omega
      refine ⟨rfl, ?_⟩
      dsimp only [tYes]
      rw [if_pos rfl]
      refine ⟨.ref pa, rfl, .int (0 + (i : Int)), rfl, pa, _, _, .int a, rfl, rfl, .inl (.inl (f3.tups hT _ _ hpa)), by rw [e0]; exact atI_nat (by rw [List.getElem?_map, ha]; rfl), ?_⟩
      refine ⟨.ref pa, rfl, .int (0 + (i : Int)), rfl, _, _, rfl, rfl, pa, _, _, .int b, rfl, rfl, .inl (.inl (f3.tups hT _ _ hpa)), by rw [e1]; exact atI_nat (by rw [List.getElem?_map, hb]; rfl), .inl ⟨a, b, rfl, rfl, _, rfl, ?_⟩⟩
      rw [if_pos (by simpa using hab)]
      exact f3
    · have rl := pairedLen prs
      refine ⟨.ref pa, rfl, pa, _, rfl, .inr (.inl (.inl hpa)), _, 1, rfl, rfl, _, rfl, ?_, ?_, hT _ hP, fun H2 tb => ?_⟩
      · rw [List.length_map]; omega
      · rw [List.length_map]; omega
      have f2 := FrS.one hT hP tb
      have en : (((rs.map V.ref).length : Int) - 1).toNat = rows.length - 1 := by rw [List.length_map]; omega
      rw [en]
      refine Gx.all_range (lo := 0) (n := rows.length - 1) (fun _ H3 => FrS Ps H H3) f2 (fun i H3 hi f3 => ?_) (fun H3 f3 => q H3 f3)
      obtain ⟨a, b, ha, hb, hab⟩ := risR_at hri hi
      obtain ⟨pa1, ea1, ra1⟩ := pairedGet prs ha
      obtain ⟨pb1, eb1, rb1⟩ := pairedGet prs hb
      have e0 : (0 : Int) + (i : Int) = i := Int.zero_add _
      have e1 : (0 : Int) + (i : Int) + 1 = ((i + 1 : Nat) : Int) := by omega
      refine ⟨rfl, ?_⟩
      dsimp only [tYes]
      rw [if_pos rfl]
      refine ⟨.ref pa, rfl, .int (0 + (i : Int)), rfl, pa, _, _, .ref pa1, rfl, rfl, .inl (.inl (f3.tups hT _ _ hpa)), by rw [e0]; exact atI_nat (by rw [List.getElem?_map, ea1]; rfl), ?_⟩
      refine ⟨.ref pa, rfl, .int (0 + (i : Int)), rfl, _, _, rfl, rfl, pa, _, _, .ref pb1, rfl, rfl, .inl (.inl (f3.tups hT _ _ hpa)), by rw [e1]; exact atI_nat (by rw [List.getElem?_map, eb1]; rfl), .inr ⟨pa1, pb1, a, b, rfl, rfl, .inl (.inl (f3.tups hT _ _ ra1)), .inl (.inl (f3.tups hT _ _ rb1)), _, rfl, ?_⟩⟩
      rw [if_pos hab]
      exact f3
theorem ok_pls {f c Pp : Addr} {fd : FuncData} {Ps : List Addr} {k : Nat} (F : FunC K "are_places" "are_places" sPls f fd (.ref c)) (TB : GxR.TabB base mg c Pp) (hP : Pp ∈ Ps) (T : TxtN2 P w K mg base Ps) : FnOk P w K mg base CX0 (k + 3) f fd ["thing", "many"] (spPls Ps) := by
  refine F.ok scPls (fun vs H Q E h => ?_) (fun A outer s H vs Q E hr h => ?_)
  · obtain ⟨pa, ns, many, rfl, _⟩ := h
    rfl
  · obtain ⟨pa, ns, many, rfl, hT, hpa, l1, l3, hpl, hri, q⟩ := h
    have hr2 : Room 2 (A.deeper (envOfC (Str.ofString "are_places") (defScope sPls) s.heap.objs.size f (.ref c))) := hr.mono (by omega)
    refine ⟨_, (pss_cons (ps_if (PW.pt (pw_or (pt_not (pt_val (pe_callB call_isi (by rfl) T.m_isinstance (by decide +kernel) (pa_cons (pv 0) (pa_cons (pe_bltn (v := .ty "tuple") (by rfl) T.m_tuple (by decide +kernel) rfl) pa_nil))))) (pw_or1 (pt_not (pt_chain op_le op_le pe_int (pe_callB call_len_seq (by rfl) T.m_len (by decide +kernel) (pa_cons (pv 0) pa_nil)) (C8.pe_gc (by rfl) T.g_MOST_PLACES_OF_A_WISH))))))
  (pss_one (ps_ret pe_bl)) pss_nil)
  (pss_one (ps_ret (pe_and (Gx.pe_allX (own := [("place", 2)]) hr (by rfl) T.m_all rfl scPls.nd TB rfl (blkOk_by (own := [("place", 2)]) (N := nPls) (sc := defScope sPls) (by decide +kernel)) ⟨rfl, by decide +kernel, rfl⟩ (pi_tup (pv 0))
   (fun _ _ _ _ _ _ hA => (pg_name (i := 2) scPls.nd rfl (Or.inl rfl))) (fun _ _ _ _ _ _ hA => pts_nil) (fun _ _ _ _ _ _ hA => (pe_cal T.c_is_number (hA.mono (by omega)) (by rfl) (pa_cons (pv 2) (pa_cons pe_int (pa_cons (pe_op op_sub (pv 1) pe_int) pa_nil)))))) (pe_one (pe_cal T.c_is_rising hr2 (by rfl) (pa_cons (pv 0) pa_nil))))))), ?_⟩
    refine ⟨.ref pa, rfl, .ref pa, .ty "tuple", .type "tuple", .type "tuple", true, rfl, .ty _, .base (.tup hpa), kit_ty (by decide +kernel), true, rfl, iteF ?_⟩
    have e1 : decide (1 ≤ ((ns.map V.int).length : Int)) = true := by rw [List.length_map]; exact decide_eq_true (by omega)
    have e3 : decide (((ns.map V.int).length : Int) ≤ 3) = true := by rw [List.length_map]; exact decide_eq_true (by omega)
    refine ⟨.ref pa, rfl, pa, _, rfl, .inr (.inl (.inl hpa)), _, _, rfl, rfl, _, rfl, ?_⟩
    rw [if_pos e1]
    refine ⟨_, _, rfl, rfl, _, rfl, ?_⟩
    rw [e3]
    refine iteF ?_
    refine ⟨.ref pa, rfl, pa, rfl, ⟨_, .inl (.inl hpa)⟩, hT _ hP, fun H2 tb => ?_⟩
    have f2 := FrS.one hT hP tb
    refine Gx.all_tup (K := K) (a := pa) (xs := ns.map V.int) (fun _ H3 => FrS Ps H H3) f2 (fun i H3 _ f3 => .inl (.inl (f3.tups hT _ _ hpa))) (fun i x H3 hx f3 => ?_) (fun H3 f3 => ?_)
    · rw [List.getElem?_map] at hx
      cases e : ns[i]? with
      | none => rw [e] at hx; cases hx
      | some n =>
        rw [e] at hx
        cases hx
        have hn := hpl n (List.mem_of_getElem? e)
        refine ⟨rfl, ?_⟩
        dsimp only [tYes]
        rw [if_pos rfl]
        refine ⟨.int n, rfl, .int many, rfl, _, _, rfl, rfl, n, 0, many - 1, rfl, _, rfl, ?_⟩
        rw [if_pos (decide_eq_true (show 0 ≤ n ∧ n ≤ many - 1 by omega))]
        exact f3
    · refine ⟨true, rfl, iteT ?_⟩
      exact ⟨.ref pa, rfl, pa, rfl, f3.2, .inl ⟨ns, f3.tups hT _ _ hpa, hri, by omega⟩, fun H4 f4 => q H4 (f3.trans f4)⟩
theorem ok_hus {f c Ph : Addr} {fd : FuncData} {Ps : List Addr} {k : Nat} (F : FunC K "are_hues" "are_hues" sHus f fd (.ref c)) (TB : GxR.TabB base mg c Ph) (hP : Ph ∈ Ps) (T : TxtN2 P w K mg base Ps) : FnOk P w K mg base CX0 (k + 3) f fd ["thing", "length", "hues"] (spHus Ps) := by
  refine F.ok scHus (fun vs H Q E h => ?_) (fun A outer s H vs Q E hr h => ?_)
  · obtain ⟨pa, ns, many, rfl, _⟩ := h
    rfl
  · obtain ⟨pa, ns, hues, rfl, hT, hpa, hpl, q⟩ := h
    have hpa : H pa = some (.tup (ns.map V.int)) := hpa
    refine ⟨_, (pss_cons (ps_if (PW.pt (pw_or (pt_not (pt_val (pe_callB call_isi (by rfl) T.m_isinstance (by decide +kernel) (pa_cons (pv 0) (pa_cons (pe_bltn (v := .ty "tuple") (by rfl) T.m_tuple (by decide +kernel) rfl) pa_nil))))) (pw_or1 (pt_cmpR op_ne (pe_callB call_len_seq (by rfl) T.m_len (by decide +kernel) (pa_cons (pv 0) pa_nil)) (pv 1) (nomark _)))))
  (pss_one (ps_ret pe_bl)) pss_nil)
  (pss_one (ps_ret (Gx.pe_allX (own := [("hue", 3)]) hr (by rfl) T.m_all rfl scHus.nd TB rfl (blkOk_by (own := [("hue", 3)]) (N := nHus) (sc := defScope sHus) (by decide +kernel)) ⟨rfl, by decide +kernel, rfl⟩ (pi_tup (pv 0))
   (fun _ _ _ _ _ _ hA => (pg_name (i := 3) scHus.nd rfl (Or.inl rfl))) (fun _ _ _ _ _ _ hA => pts_nil) (fun _ _ _ _ _ _ hA => (pe_cal T.c_is_number (hA.mono (by omega)) (by rfl) (pa_cons (pv 3) (pa_cons pe_int (pa_cons (pe_op op_sub (pv 2) pe_int) pa_nil))))))))), ?_⟩
    refine ⟨.ref pa, rfl, .ref pa, .ty "tuple", .type "tuple", .type "tuple", true, rfl, .ty _, .base (.tup hpa), kit_ty (by decide +kernel), true, rfl, iteF ?_⟩
    have el : V.int ((ns.map V.int).length : Int) = V.int (ns.length : Int) := by rw [List.length_map]
    refine ⟨.ref pa, rfl, pa, _, rfl, .inr (.inl (.inl hpa)), _, rfl, rfl, _, rfl, ?_⟩
    refine iteNS el ?_
    refine ⟨.ref pa, rfl, pa, rfl, ⟨_, .inl (.inl hpa)⟩, hT _ hP, fun H2 tb => ?_⟩
    have f2 := FrS.one hT hP tb
    refine Gx.all_tup (K := K) (a := pa) (xs := ns.map V.int) (fun _ H3 => FrS Ps H H3) f2 (fun i H3 _ f3 => .inl (.inl (f3.tups hT _ _ hpa))) (fun i x H3 hx f3 => ?_) (fun H3 f3 => q H3 f3)
    rw [List.getElem?_map] at hx
    cases e : ns[i]? with
    | none => rw [e] at hx; cases hx
    | some n =>
      rw [e] at hx
      cases hx
      have hn := hpl n (List.mem_of_getElem? e)
      refine ⟨rfl, ?_⟩
      dsimp only [tYes]
      rw [if_pos rfl]
      refine ⟨.int n, rfl, .int hues, rfl, _, _, rfl, rfl, n, 0, hues - 1, rfl, _, rfl, ?_⟩
      rw [if_pos (decide_eq_true (show 0 ≤ n ∧ n ≤ hues - 1 by omega))]
      exact f3
theorem ok_rws {f c Pw : Addr} {fd : FuncData} {Ps : List Addr} {k : Nat} (F : FunC K "are_rows" "are_rows" sRws f fd (.ref c)) (TB : GxR.TabB base mg c Pw) (hP : Pw ∈ Ps) (T : TxtN3 P w K mg base Ps) : FnOk P w K mg base CX0 (k + 5) f fd ["thing", "length", "hues"] (spRws Ps) := by
  refine F.ok scRws (fun vs H Q E h => ?_) (fun A outer s H vs Q E hr h => ?_)
  · obtain ⟨pa, rs, rows, n, hues, rfl, _⟩ := h
    rfl
  · obtain ⟨pa, rs, rows, n, hues, rfl, hT, hpa, prs, l1, l2, hrow, hri, q⟩ := h
    have hr2 : Room 2 (A.deeper (envOfC (Str.ofString "are_rows") (defScope sRws) s.heap.objs.size f (.ref c))) := hr.mono (by omega)
    have rl := pairedLen prs
    refine ⟨_, (pss_cons (ps_if (PW.pt (pw_or (pt_not (pt_val (pe_callB call_isi (by rfl) T.m_isinstance (by decide +kernel) (pa_cons (pv 0) (pa_cons (pe_bltn (v := .ty "tuple") (by rfl) T.m_tuple (by decide +kernel) rfl) pa_nil))))) (pw_or1 (pt_cmpR op_eq (pe_callB call_len_seq (by rfl) T.m_len (by decide +kernel) (pa_cons (pv 0) pa_nil)) pe_int (nomark _)))))
  (pss_one (ps_ret pe_bl)) pss_nil)
  (pss_one (ps_ret (pe_and (Gx.pe_allX (own := [("row", 3)]) hr (by rfl) T.m_all rfl scRws.nd TB rfl (blkOk_by (own := [("row", 3)]) (N := nRws) (sc := defScope sRws) (by decide +kernel)) ⟨rfl, by decide +kernel, rfl⟩ (pi_tup (pv 0))
   (fun _ _ _ _ _ _ hA => (pg_name (i := 3) scRws.nd rfl (Or.inl rfl))) (fun _ _ _ _ _ _ hA => pts_nil) (fun _ _ _ _ _ _ hA => (pe_cal T.c_are_hues (hA.mono (by omega)) (by rfl) (pa_cons (pv 3) (pa_cons (pv 1) (pa_cons (pv 2) pa_nil)))))) (pe_one (pe_cal T.c_is_rising hr2 (by rfl) (pa_cons (pv 0) pa_nil))))))), ?_⟩
    refine ⟨.ref pa, rfl, .ref pa, .ty "tuple", .type "tuple", .type "tuple", true, rfl, .ty _, .base (.tup hpa), kit_ty (by decide +kernel), true, rfl, iteF ?_⟩
    have el : decide (V.int ((rs.map V.ref).length : Int) = V.int 0) = false := by
      rw [List.length_map]
      refine decide_eq_false fun z => ?_
      have z2 : (rs.length : Int) = 0 := by injection z
      omega
    refine ⟨.ref pa, rfl, pa, _, rfl, .inr (.inl (.inl hpa)), rfl, _, rfl, ?_⟩
    rw [el]
    refine iteF ?_
    refine ⟨.ref pa, rfl, pa, rfl, ⟨_, .inl (.inl hpa)⟩, hT _ hP, fun H2 tb => ?_⟩
    have f2 := FrS.one hT hP tb
    refine Gx.all_tup (K := K) (a := pa) (xs := rs.map V.ref) (fun _ H3 => FrS Ps H H3) f2 (fun i H3 _ f3 => .inl (.inl (f3.tups hT _ _ hpa))) (fun i x H3 hx f3 => ?_) (fun H3 f3 => ?_)
    · rw [List.getElem?_map] at hx
      cases e : rs[i]? with
      | none => rw [e] at hx; cases hx
      | some ra =>
        rw [e] at hx
        cases hx
        obtain ⟨row, hrw, isr⟩ := pairedGetL prs e
        have hn := hrow row (List.mem_of_getElem? hrw)
        refine ⟨rfl, ?_⟩
        dsimp only [tYes]
        rw [if_pos rfl]
        refine ⟨.ref ra, rfl, .int n, rfl, .int hues, rfl, ra, row, hues, by rw [hn.1]; rfl, f3.2, f3.tups hT _ _ isr, hn.2, fun H4 f4 => ⟨true, rfl, ?_⟩⟩
        rw [if_pos rfl]
        exact f3.trans f4
    · refine ⟨true, rfl, iteT ?_⟩
      exact ⟨.ref pa, rfl, pa, rfl, f3.2, .inr ⟨rs, rows, f3.tups hT _ _ hpa, pairedMap (fun _ _ e => f3.tups hT _ _ e) prs, hri, l2⟩, fun H4 f4 => q H4 (f3.trans f4)⟩
theorem ok_wsh {f : Addr} {fd : FuncData} {Ps : List Addr} {k : Nat} (F : Fun K "is_wish" "is_wish" sWsh f fd) (T : TxtN4 P w K mg base Ps) : FnOk P w K mg base CX0 (k + 6) f fd ["thing", "many", "hues"] (spWsh Ps) := by
  refine F.ok scWsh (fun vs H Q E h => ?_) (fun cdv A outer s H vs Q E hr h => ?_)
  · obtain ⟨wa, wd, many, hues, rfl, _⟩ := h
    rfl
  · obtain ⟨wa, wd, many, hues, rfl, hT, hw, gw, rw_, q⟩ := h
    have hr3 : Room 3 (A.deeper (envOfC (Str.ofString "is_wish") (defScope sWsh) s.heap.objs.size f cdv)) := hr.mono (by omega)
    have hr5 : Room 5 (A.deeper (envOfC (Str.ofString "is_wish") (defScope sWsh) s.heap.objs.size f cdv)) := hr.mono (by omega)
    refine ⟨_, (pss_cons (ps_if (PW.pt (pw_or (pt_not (pt_val (pe_callB call_isi (by rfl) T.m_isinstance (by decide +kernel) (pa_cons (pv 0) (pa_cons (pe_bltn (v := .ty "tuple") (by rfl) T.m_tuple (by decide +kernel) rfl) pa_nil))))) (pw_or1 (pt_cmpR op_ne (pe_callB call_len_seq (by rfl) T.m_len (by decide +kernel) (pa_cons (pv 0) pa_nil)) pe_int (nomark _)))))
  (pss_one (ps_ret pe_bl)) pss_nil)
  (pss_cons (ps_asg (pv 0) (pg_tup rfl (pgs_cons (pg_name (i := 3) scWsh.nd rfl (Or.inl rfl)) (pgs_cons (pg_name (i := 4) scWsh.nd rfl (Or.inl rfl)) pgs_nil))))
  (pss_one (ps_ret (pe_and (pe_cal T.c_are_places hr3 (by rfl) (pa_cons (pv 3) (pa_cons (pv 1) pa_nil))) (pe_one (pe_cal T.c_are_rows hr5 (by rfl) (pa_cons (pv 4) (pa_cons (pe_callB call_len_seq (by rfl) T.m_len (by decide +kernel) (pa_cons (pv 3) pa_nil)) (pa_cons (pv 2) pa_nil)))))))))), ?_⟩
    obtain ⟨pa, ra, rs, h1, h2, h3, h4⟩ := id hw
    refine ⟨.ref wa, rfl, .ref wa, .ty "tuple", .type "tuple", .type "tuple", true, rfl, .ty _, .base (.tup h1), kit_ty (by decide +kernel), true, rfl, iteF ?_⟩
    refine ⟨.ref wa, rfl, wa, _, rfl, .inr (.inl (.inl h1)), rfl, _, rfl, iteNS rfl ?_⟩
    refine ⟨.ref wa, rfl, wa, _, rfl, .inl (.inl h1), rfl, .ref pa, [.ref ra], rfl, .ref ra, [], rfl, rfl, ?_⟩
    refine ⟨.ref pa, rfl, .int many, rfl, pa, wd.1, many, rfl, hT, h2, gw.one, gw.three, gw.pl, rw_.pl, fun H2 f2 => ⟨true, rfl, iteT ?_⟩⟩
    refine ⟨.ref ra, rfl, .ref pa, rfl, pa, _, rfl, .inr (.inl (.inl (f2.tups hT _ _ h2))), .int hues, rfl, ra, rs, wd.2, wd.1.length, hues, by rw [List.length_map]; rfl, f2.2, f2.tups hT _ _ h3, pairedMap (fun _ _ e => f2.tups hT _ _ e) h4, gw.some_, by have := gw.few; omega, gw.row, rw_.rows, fun H3 f3 => q H3 (f2.trans f3)⟩
theorem ok_ird {f c Pi : Addr} {fd : FuncData} {Ps : List Addr} {k : Nat} (F : FunC K "is_riddle" "is_riddle" sIrd f fd (.ref c)) (TB : GxR.TabB base mg c Pi) (hP : Pi ∈ Ps) (T : TxtN5 P w K mg base Ps) : FnOk P w K mg base CX0 (k + 8) f fd ["thing"] (spIrd Ps) := by
  refine F.ok scIrd (fun vs H Q E h => ?_) (fun A outer s H vs Q E hr h => ?_)
  · obtain ⟨ri, z, many, hues, rfl, _⟩ := h
    rfl
  · obtain ⟨ri, z, many, hues, rfl, hT, h1, hcase⟩ := h
    have hr2 : Room 2 (A.deeper (envOfC (Str.ofString "is_riddle") (defScope sIrd) s.heap.objs.size f (.ref c))) := hr.mono (by omega)
    refine ⟨_, (pss_cons (ps_if (PW.pt (pw_or (pt_not (pt_val (pe_callB call_isi (by rfl) T.m_isinstance (by decide +kernel) (pa_cons (pv 0) (pa_cons (pe_bltn (v := .ty "tuple") (by rfl) T.m_tuple (by decide +kernel) rfl) pa_nil))))) (pw_or1 (pt_cmpR op_ne (pe_callB call_len_seq (by rfl) T.m_len (by decide +kernel) (pa_cons (pv 0) pa_nil)) pe_int (nomark _)))))
  (pss_one (ps_ret pe_bl)) pss_nil)
  (pss_cons (ps_asg (pv 0) (pg_tup rfl (pgs_cons (pg_name (i := 1) scIrd.nd rfl (Or.inr rfl)) (pgs_cons (pg_name (i := 2) scIrd.nd rfl (Or.inr rfl)) (pgs_cons (pg_name (i := 3) scIrd.nd rfl (Or.inl rfl)) pgs_nil)))))
  (pss_cons (ps_if (pt_not (pt_val (pe_cal T.c_is_size hr2 (by rfl) (pa_cons (pv 1) (pa_cons (pv 2) pa_nil)))))
  (pss_one (ps_ret pe_bl)) pss_nil)
  (pss_cons (ps_if (PW.pt (pw_or (pt_not (pt_val (pe_callB call_isi (by rfl) T.m_isinstance (by decide +kernel) (pa_cons (pv 3) (pa_cons (pe_bltn (v := .ty "tuple") (by rfl) T.m_tuple (by decide +kernel) rfl) pa_nil))))) (pw_or1 (pt_cmpR op_gt (pe_callB call_len_seq (by rfl) T.m_len (by decide +kernel) (pa_cons (pv 3) pa_nil)) (C8.pe_gc (by rfl) T.g_MOST_WISHES) (nomark _)))))
  (pss_one (ps_ret pe_bl)) pss_nil)
  (pss_one (ps_ret (Gx.pe_allX (own := [("wish", 4)]) hr (by rfl) T.m_all rfl scIrd.nd TB rfl (blkOk_by (own := [("wish", 4)]) (N := nIrd) (sc := defScope sIrd) (by decide +kernel)) ⟨rfl, by decide +kernel, rfl⟩ (pi_tup (pv 3))
   (fun _ _ _ _ _ _ hA => (pg_name (i := 4) scIrd.nd rfl (Or.inl rfl))) (fun _ _ _ _ _ _ hA => pts_nil) (fun _ _ _ _ _ _ hA => (pe_cal T.c_is_wish (hA.mono (by omega)) (by rfl) (pa_cons (pv 4) (pa_cons (pv 1) (pa_cons (pv 2) pa_nil)))))))))))), ?_⟩
    refine ⟨.ref ri, rfl, .ref ri, .ty "tuple", .type "tuple", .type "tuple", true, rfl, .ty _, .base (.tup h1), kit_ty (by decide +kernel), true, rfl, iteF ?_⟩
    refine ⟨.ref ri, rfl, ri, _, rfl, .inr (.inl (.inl h1)), rfl, _, rfl, iteNS rfl ?_⟩
    refine ⟨.ref ri, rfl, ri, _, rfl, .inl (.inl h1), rfl, .int many, [.int hues, z], rfl, .int hues, [z], rfl, z, [], rfl, rfl, ?_⟩
    rcases hcase with ⟨e, q⟩ | ⟨e, wds, hrd, gr, hri, q⟩
    · refine ⟨.int many, rfl, .int hues, rfl, many, hues, rfl, false, by rw [e], iteT q⟩
    · refine ⟨.int many, rfl, .int hues, rfl, many, hues, rfl, true, by rw [e], iteF ?_⟩
      obtain ⟨wt, was, h1', h2, h3⟩ := hrd
      have ez : z = .ref wt := by
        rw [h1] at h1'
        cases h1'
        rfl
      subst ez
      have hl := pairedLen h3
      have e8 := gr.eight
      refine ⟨.ref wt, rfl, .ref wt, .ty "tuple", .type "tuple", .type "tuple", true, rfl, .ty _, .base (.tup h2), kit_ty (by decide +kernel), true, rfl, iteF ?_⟩
      have e9 : decide ((8 : Int) < ((was.map V.ref).length : Int)) = false := by rw [List.length_map]; exact decide_eq_false (by omega)
      refine ⟨.ref wt, rfl, wt, _, rfl, .inr (.inl (.inl h2)), _, _, rfl, rfl, _, rfl, ?_⟩
      rw [e9]
      refine iteF ?_
      refine ⟨.ref wt, rfl, wt, rfl, ⟨_, .inl (.inl h2)⟩, hT _ hP, fun H2 tb => ?_⟩
      have f2 := FrS.one hT hP tb
      refine Gx.all_tup (K := K) (a := wt) (xs := was.map V.ref) (fun _ H3 => FrS Ps H H3) f2 (fun i H3 _ f3 => .inl (.inl (f3.tups hT _ _ h2))) (fun i x H3 hx f3 => ?_) (fun H3 f3 => q H3 f3)
      rw [List.getElem?_map] at hx
      cases ew : was[i]? with
      | none => rw [ew] at hx; cases hx
      | some wa =>
        rw [ew] at hx
        cases hx
        obtain ⟨wd, hwd, isw⟩ := pairedGetL h3 ew
        have hm := List.mem_of_getElem? hwd
        refine ⟨rfl, ?_⟩
        dsimp only [tYes]
        rw [if_pos rfl]
        refine ⟨.ref wa, rfl, .int many, rfl, .int hues, rfl, wa, wd, many, hues, rfl, f3.2, isw.mono (f3.tups hT), gr.each wd hm, hri wd hm, fun H4 f4 => ⟨true, rfl, ?_⟩⟩
        rw [if_pos rfl]
        exact f3.trans f4
end
end Rd

set_option Elab.async false
set_option linter.all false
set_option maxRecDepth 100000
set_option maxHeartbeats 4000000
namespace Rd
open PySem PySem.Spec PyProof.Rows L2 Dt
theorem lexLt_app : ∀ {f g : List Int} {a b : List Int}, f.length = g.length → HT.lexLt f g = true → HT.lexLt (f ++ a) (g ++ b) = true
  | [], [], _, _, _, h => by simp [HT.lexLt] at h
  | x :: f, y :: g, a, b, hl, h => by
    rw [List.cons_append, List.cons_append, HT.lexLt_cons]
    rw [HT.lexLt_cons] at h
    by_cases e : x = y
    · rw [if_pos e] at h ⊢
      exact lexLt_app (by simpa using hl) h
    · rw [if_neg e] at h ⊢
      exact h
theorem lexLt_same : ∀ (f : List Int) {a b : Int}, a < b → HT.lexLt (f ++ [a]) (f ++ [b]) = true
  | [], a, b, h => by
    show HT.lexLt (a :: []) (b :: []) = true
    rw [HT.lexLt_cons, if_neg (by omega)]
    exact decide_eq_true h
  | x :: f, a, b, h => by
    rw [List.cons_append, List.cons_append, HT.lexLt_cons, if_pos rfl]
    exact lexLt_same f h
theorem fill_pw (hues : Nat) : ∀ n : Nat, (fillL hues n).Pairwise fun f g => HT.lexLt f g = true
  | 0 => List.pairwise_singleton _ _
  | n + 1 => by
    rw [fillL, List.pairwise_flatMap]
    refine ⟨fun f hf => ?_, ?_⟩
    · unfold longer
      rw [List.pairwise_map]
      exact List.pairwise_lt_range.imp fun {a b} h => lexLt_same f (by omega)
    · refine List.Pairwise.imp_of_mem (fun {f g} hf hg h x hx y hy => ?_) (fill_pw hues n)
      obtain ⟨a, _, rfl⟩ := List.mem_map.mp hx
      obtain ⟨b, _, rfl⟩ := List.mem_map.mp hy
      exact lexLt_app (by rw [(fill_good hf).1, (fill_good hg).1]) h
theorem risR_of {rs : List Dt.Row} (h : rs.Pairwise fun f g => HT.lexLt f g = true) : risR rs = true := by
  refine List.all_eq_true.mpr fun k hk => ?_
  have hk := List.mem_range.mp hk
  have h1 : k < rs.length := by omega
  have h2 : k + 1 < rs.length := by omega
  rw [List.getD_eq_getElem?_getD, List.getD_eq_getElem?_getD, List.getElem?_eq_getElem h1, List.getElem?_eq_getElem h2]
  exact List.pairwise_iff_getElem.mp h k (k + 1) h1 h2 (Nat.lt_succ_self _)
theorem risI_of {ns : List Int} (h : ns.Pairwise (· ≤ ·)) (nd : ns.Nodup) : risI ns = true := by
  refine List.all_eq_true.mpr fun k hk => ?_
  have hk := List.mem_range.mp hk
  have h1 : k < ns.length := by omega
  have h2 : k + 1 < ns.length := by omega
  rw [List.getD_eq_getElem?_getD, List.getD_eq_getElem?_getD, List.getElem?_eq_getElem h1, List.getElem?_eq_getElem h2]
  have a := List.pairwise_iff_getElem.mp h k (k + 1) h1 h2 (Nat.lt_succ_self _)
  have b : ns[k] ≠ ns[k + 1] := List.pairwise_iff_getElem.mp nd k (k + 1) h1 h2 (Nat.lt_succ_self _)
  exact decide_eq_true (by show ns[k] < ns[k + 1]; omega)
theorem rngI_nodup (m : Int) : (rngI m).Nodup := by
  unfold rngI
  refine List.Pairwise.map _ (fun a b h => ?_) List.nodup_range
  exact fun z => h (by omega)
abbrev sGrt : Stmt := topS 29
abbrev nGrt : List Str := ["well", "many", "hues", "wishes", "k", "part", "left", "places", "every", "rows", "j", "row"]
theorem scGrt : FnScope nGrt ["well"] (defScope sGrt) := ⟨rfl, rfl, rfl, by decide +kernel, rfl, by decide +kernel, by decide +kernel⟩
def Great (many hues : Int) : Prop := (many = 6 ∧ hues = 2) ∨ (many = 5 ∧ hues = 3) ∨ (many = 4 ∧ hues = 4)
def spGrt : Sp := fun vs H Q _ => ∃ (wl cl : Addr), vs = [.ref wl] ∧ Well H wl cl ∧
  ∀ H' ri many hues wds, Drawn wl cl H H' → IsRid H' ri many hues wds → GoodR many hues wds → (∀ wd ∈ wds, Rise wd) → wds.length = 8 → Great many hues → Q (.ref ri) H'
theorem put_tups {H : Hp} {l : Addr} {xs : List V} {o : HO} (h : H l = some (.lst xs)) : Tups H (upd H l o) := tups_upd fun ys z => by rw [h] at z; cases z
structure TxtGr (P : Program) (w : World) (K : PySem.W.Frag) (mg : Str → Option Value) (base : Heap) : Prop where
  m_range : mg "range" = none
  m_list : mg "list" = none
  m_len : mg "len" = none
  m_sorted : mg "sorted" = none
  m_tuple : mg "tuple" = none
  c__law_draw : Cal P w K mg base 1 "_law_draw" ["well", "many"] spDraw
  c__law_fillings : Cal P w K mg base 1 "_law_fillings" ["riddle"] spLfi
section
variable {P : Program} {w : World} {K : PySem.W.Frag} {mg : Str → Option Value} {base : Heap}
set_option maxHeartbeats 16000000 in
theorem ok_grt {f : Addr} {fd : FuncData} {k : Nat} (F : Fun K "_law_great" "_law_great" sGrt f fd) (T : TxtGr P w K mg base) : FnOk P w K mg base CX0 (k + 2) f fd ["well"] spGrt := by
  refine F.ok scGrt (fun vs H Q E h => ?_) (fun cdv A outer s H vs Q E hr h => ?_)
  · obtain ⟨wl, cl, rfl, _⟩ := h
    rfl
  · obtain ⟨wl, cl, rfl, hW, q⟩ := h
    have hr1 : Room 1 (A.deeper (envOfC (Str.ofString "_law_great") (defScope sGrt) s.heap.objs.size f cdv)) := hr.mono (by omega)
    refine ⟨_, (pss_cons (ps_asg (pe_ix ix_list (pe_lst (pa_cons (pe_tup (pa_cons pe_int (pa_cons pe_int pa_nil))) (pa_cons (pe_tup (pa_cons pe_int (pa_cons pe_int pa_nil))) (pa_cons (pe_tup (pa_cons pe_int (pa_cons pe_int pa_nil))) pa_nil)))) (pe_cal T.c__law_draw hr1 (by rfl) (pa_cons (pv 0) (pa_cons pe_int pa_nil))) (fun _ _ => rfl)) (pg_tup rfl (pgs_cons (pg_name (i := 1) scGrt.nd rfl (Or.inl rfl)) (pgs_cons (pg_name (i := 2) scGrt.nd rfl (Or.inl rfl)) pgs_nil))))
  (pss_cons (ps_set (i := 3) scGrt.nd rfl (Or.inl rfl) (pe_lst pa_nil))
  (pss_cons (ps_for PassesOwn.never rfl (pi_range1 (by rfl) T.m_range (pa_cons pe_int pa_nil)) (pg_name (i := 4) scGrt.nd rfl (Or.inl rfl))
  (pss_cons (ps_set (i := 5) scGrt.nd rfl (Or.inr rfl) (pe_op op_add pe_int (pe_cal T.c__law_draw hr1 (by rfl) (pa_cons (pv 0) (pa_cons pe_int pa_nil)))))
  (pss_cons (ps_set (i := 6) scGrt.nd rfl (Or.inr rfl) (pe_listRg rfl (by rfl) T.m_list (prg_1 (by rfl) T.m_range (pv 1))))
  (pss_cons (ps_set (i := 7) scGrt.nd rfl (Or.inl rfl) (pe_callB cr_sorted (by rfl) T.m_sorted (by decide +kernel) (pa_cons (pe_lc (te := tBM K "list" rPopAt (tVar 6) (tCons (tCall spDraw [] E0 (tCons (tVar 0) (tCons (tCB (rLen K) (tCons (tVar 6) tNil)) tNil))) tNil)) (own := [("j", 10)]) rfl scGrt.nd  (pi_range1 (by rfl) T.m_range (pa_cons pe_int pa_nil)) (blkOk_by (own := [("j", 10)]) (N := nGrt) (sc := defScope sGrt) (by decide +kernel))
   (fun _ _ _ _ _ => (pg_name (i := 10) scGrt.nd rfl (Or.inl rfl))) (fun _ _ _ _ _ => pts_nil) (fun _ _ _ _ _ => (pe_bm PySem.F.plainAttrs_list PySem.F.slot_list_pop PySem.F.type_list_pop mt_popAt (pv 6) (pa_cons (pe_cal T.c__law_draw hr1 (by rfl) (pa_cons (pv 0) (pa_cons (pe_callB call_len_seq (by rfl) T.m_len (by decide +kernel) (pa_cons (pv 6) pa_nil)) pa_nil))) pa_nil)))) pa_nil)))
  (pss_cons (ps_set (i := 8) scGrt.nd rfl (Or.inl rfl) (pe_cal T.c__law_fillings hr1 (by rfl) (pa_cons (pe_tup (pa_cons pe_int (pa_cons (pv 2) pa_nil))) pa_nil)))
  (pss_cons (ps_setLc (i := 9) (own := [("row", 11)]) rfl scGrt.nd rfl rfl (sw_true rfl rfl rfl (by decide +kernel)) (pi_list (pv 8)) (blkOk_by (own := [("row", 11)]) (N := nGrt) (sc := defScope sGrt) (by decide +kernel))
   (fun _ _ _ _ _ => (pg_name (i := 11) scGrt.nd rfl (Or.inl rfl))) (fun _ _ _ _ _ => pts_one (pt_cmpR op_lt (pe_cal T.c__law_draw hr1 (by rfl) (pa_cons (pv 0) (pa_cons pe_int pa_nil))) (pv 5) (nomark _))) (fun _ _ _ _ _ => (pv 11)))
  (C8.pss_cut (ps_if (pt_cmpR (op_eqD hr.units) (pv 9) (pe_lst pa_nil) (nomark _))
  (pss_one (ps_set (i := 9) scGrt.nd rfl (Or.inl rfl) (pe_slice sl_list (pv 8) po_none (po_some pe_int)))) pss_nil)
  (pss_one (ps_expr (pe_bm PySem.F.plainAttrs_list PySem.F.slot_list_append PySem.F.type_list_append mt_append (pv 3) (pa_cons (pe_tup (pa_cons (pe_callTy call_tuple_of (by rfl) T.m_tuple (by decide +kernel) (pa_cons (pv 7) pa_nil)) (pa_cons (pe_callTy call_tuple_of (by rfl) T.m_tuple (by decide +kernel) (pa_cons (pv 9) pa_nil)) pa_nil))) pa_nil)))))))))))
  (pss_one (ps_ret (pe_tup (pa_cons (pv 1) (pa_cons (pv 2) (pa_cons (pe_callTy call_tuple_of (by rfl) T.m_tuple (by decide +kernel) (pa_cons (pv 3) pa_nil)) pa_nil))))))))), ?_⟩
    -- many, hues
    refine ⟨(by show 2 ≤ sizeLine; decide), fun t1 n1 => ⟨(by show 2 ≤ sizeLine; decide), fun t2 n2 => ⟨(by show 2 ≤ sizeLine; decide), fun t3 n3 => ⟨(by show 3 ≤ sizeLine; decide), fun l4 n4 => ?_⟩⟩⟩⟩
    have s1 := same_upd (o := .tup [V.int 6, .int 2]) n1
    have s2 := same_upd (o := .tup [V.int 5, .int 3]) n2
    have s3 := same_upd (o := .tup [V.int 4, .int 4]) n3
    have s4 := same_upd (o := .lst [V.ref t1, .ref t2, .ref t3]) n4
    have s14 := ((s1.trans s2).trans s3).trans s4
    have ht1 := (s2.trans (s3.trans s4)) _ _ (upd_same (H := H) (a := t1) (o := .tup [V.int 6, .int 2]))
    have ht2 := (s3.trans s4) _ _ (upd_same (H := upd H t1 (.tup [V.int 6, .int 2])) (a := t2) (o := .tup [V.int 5, .int 3]))
    have ht3 := s4 _ _ (upd_same (H := upd (upd H t1 (.tup [V.int 6, .int 2])) t2 (.tup [V.int 5, .int 3])) (a := t3) (o := .tup [V.int 4, .int 4]))
    have hl4 : upd (upd (upd (upd H t1 (.tup [V.int 6, .int 2])) t2 (.tup [V.int 5, .int 3])) t3 (.tup [V.int 4, .int 4])) l4 (.lst [V.ref t1, .ref t2, .ref t3]) l4 = some (.lst [V.ref t1, .ref t2, .ref t3]) := upd_same
    generalize upd (upd (upd (upd H t1 (.tup [V.int 6, .int 2])) t2 (.tup [V.int 5, .int 3])) t3 (.tup [V.int 4, .int 4])) l4 (.lst [V.ref t1, .ref t2, .ref t3]) = H4 at s14 ht1 ht2 ht3 hl4
    have E4 : Drawn wl cl H H4 := (Drawn.refl hW).same s14
    refine ⟨.ref wl, rfl, wl, cl, 3, rfl, E4.2, by decide, by decide, fun H5 d D5 d0 d1 => ?_⟩
    have E5 := E4.trans D5
    have tu5 := D5.tups E4.2
    have nl4 : l4 ≠ wl ∧ l4 ≠ cl := hW.new ((((s1.trans s2).trans s3)).free n4)
    obtain ⟨t, many, hues, hat, htt, hgreat⟩ : ∃ t many hues, atI [V.ref t1, .ref t2, .ref t3] d = some (.ref t) ∧ H5 t = some (.tup [V.int many, .int hues]) ∧ Great many hues := by
      have : d = 0 ∨ d = 1 ∨ d = 2 := by omega
      rcases this with rfl | rfl | rfl
      · exact ⟨t1, 6, 2, atI_nat (j := 0) rfl, tu5 _ _ ht1, .inl ⟨rfl, rfl⟩⟩
      · exact ⟨t2, 5, 3, atI_nat (j := 1) rfl, tu5 _ _ ht2, .inr (.inl ⟨rfl, rfl⟩)⟩
      · exact ⟨t3, 4, 4, atI_nat (j := 2) rfl, tu5 _ _ ht3, .inr (.inr ⟨rfl, rfl⟩)⟩
    have mb : 4 ≤ many ∧ many ≤ 6 ∧ 2 ≤ hues ∧ hues ≤ 4 := by
      rcases hgreat with ⟨a, b⟩ | ⟨a, b⟩ | ⟨a, b⟩ <;> (subst a b; decide)
    obtain ⟨m4, m6, h2, h4⟩ := mb
    refine ⟨l4, _, d, .ref t, rfl, rfl, .inl (.inl (D5.1 _ _ nl4.1 nl4.2 hl4)), hat, ?_⟩
    refine ⟨t, _, rfl, .inl (.inl htt), rfl, .int many, [.int hues], rfl, .int hues, [], rfl, rfl, ?_⟩
    -- wishes
    refine ⟨(by show 0 ≤ sizeLine; decide), fun lw nlw => ?_⟩
    have nw0 : H lw = none := E5.free hW nlw
    have nw := E5.2.new nlw
    have E6 := E5.put (o := .lst []) nw0 nw
    refine ⟨8, rfl, by decide, by decide, for_range (lo := 0) (n := 8) (fun i σ H7 => Drawn wl cl H H7 ∧ (∃ (was : List Addr) (wds : List WD), H7 lw = some (.lst (was.map V.ref)) ∧ was.length = i ∧ Paired (IsWish H7) was wds ∧ ∀ wd ∈ wds, Good many hues wd ∧ Rise wd) ∧
      ∃ y4 y5 y6 y7 y8 y9, σ = [some (.ref wl), some (.int many), some (.int hues), some (.ref lw), y4, y5, y6, y7, y8, y9, none, none]) ⟨E6, ⟨[], [], upd_same, rfl, .nil, fun _ z => nomatch z⟩, none, none, none, none, none, none, rfl⟩ (fun i σ H7 hi p => ?_) (fun σ H7 p => ?_)⟩
    · obtain ⟨E7, ⟨was, wds, hw7, wl7, pw, gd⟩, y4, y5, y6, y7, y8, y9, rfl⟩ := p
      have hW7 := E7.2
      -- part
      refine ⟨.ref wl, rfl, wl, cl, 4, rfl, hW7, by decide, by decide, fun H8 pt D8 p0 p1 => ⟨1, pt, rfl, rfl, ?_⟩⟩
      dsimp only
      generalize 1 + pt = part
      -- left
      refine ⟨.int many, rfl, many, rfl, ⟨by omega, by omega, by omega, by omega, by omega⟩, fun l nl => ?_⟩
      have nlw' := D8.2.new nl
      have nl0 : H7 l = none := D8.free hW7 nl
      have D9 := D8.put (o := .lst (rgV 0 many)) nl0 nlw'
      have hl9 : upd H8 l (.lst (rgV 0 many)) l = some (.lst (rgV 0 many)) := upd_same
      generalize upd H8 l (.lst (rgV 0 many)) = H9 at D9 hl9
      -- places
      refine ⟨3, rfl, by decide, by decide, fun D nD => ?_⟩
      have nDw := D9.2.new nD
      have nD0 : H7 D = none := D9.free hW7 nD
      have nlD : l ≠ D := ne_of_none hl9 nD
      refine lc_range (lo := 0) (n := 3) (fun i H5 => Drawn wl cl H7 H5 ∧ ∃ acc ls : List Int, H5 l = some (.lst (ls.map V.int)) ∧ H5 D = some (.lst (acc.map V.int)) ∧ acc.length = i ∧ ls.length + i = many.toNat ∧ (acc ++ ls).Perm (rngI many)) ⟨D9.put nD0 nDw, [], rngI many, ?_, upd_same, rfl, ?_, List.Perm.refl _⟩ (fun i H5 hi p => ?_) (fun H5 p => ?_)
      · rw [upd_ne nlD, hl9, rgV_eq]
      · rw [rngI_len]; rfl
      · obtain ⟨dr, acc, ls, hL, hD, la, ll, pm⟩ := p
        refine ⟨rfl, yes_if ?_⟩
        have lpos : 1 ≤ ls.length := by omega
        refine ⟨.ref l, rfl, .inl ⟨rfl, _, .inl (.inl hL)⟩, .ref wl, rfl, .ref l, rfl, l, _, rfl, .inl (.inl (.inl hL)), wl, cl, _, rfl, dr.2, by rw [List.length_map]; omega, by rw [List.length_map]; exact log_small (by omega) (by omega), fun H6 d D6 d0 d1 => ?_⟩
        rw [List.length_map] at d1
        have hd : d.toNat < ls.length := by omega
        have hL6 := D6.1 l _ nlw'.1 nlw'.2 hL
        have hD6 := D6.1 D _ nDw.1 nDw.2 hD
        refine ⟨l, ls.map V.int, d, d.toNat, .int (ls[d.toNat]), rfl, rfl, hL6, by omega, by omega, seqIndex_of d0 (by rw [List.length_map]; exact d1), ?_, acc.map V.int, ?_, ?_, ?_, acc ++ [ls[d.toNat]], ls.eraseIdx d.toNat, ?_, ?_, ?_, ?_, ?_⟩
        · rw [List.getElem?_map, List.getElem?_eq_getElem hd]
          rfl
        · rw [upd_ne (Ne.symm nlD)]
          exact hD6
        · rw [List.length_map]
          exact small1000 (by omega)
        · exact ((dr.trans D6).put nl0 nlw').put nD0 nDw
        · rw [upd_ne nlD, upd_same, map_erase]
        · rw [upd_same, List.map_append]
          rfl
        · rw [List.length_append, la]
          rfl
        · rw [List.length_eraseIdx_of_lt hd]
          omega
        · refine List.Perm.trans ?_ pm
          rw [List.append_assoc]
          exact List.Perm.append_left acc (erase_perm ls _ hd)
      · obtain ⟨E5', acc, ls, hL, hD, la, ll, pm⟩ := p
        refine ⟨D, acc, rfl, .inl (.inl hD), by omega, fun ps lp perm rising nlp => ?_⟩
        have nd0 : (acc ++ ls).Nodup := pm.nodup_iff.mpr (rngI_nodup many)
        have psn : ps.Nodup := perm.nodup_iff.mpr (List.nodup_append.mp nd0).1
        have accb : ∀ z ∈ acc, 0 ≤ z ∧ z < many := fun z hz => rngI_mem (pm.mem_iff.mp (List.mem_append_left _ hz))
        have psb : ∀ z ∈ ps, 0 ≤ z ∧ z < many := fun z hz => accb z (perm.mem_iff.mp hz)
        have psl : ps.length = 3 := by rw [perm.length_eq, la]
        have psr : risI ps = true := risI_of rising psn
        have nlpw := E5'.2.new nlp
        have nlp0 : H7 lp = none := E5'.free hW7 nlp
        have F6 := E5'.put (o := .lst (ps.map V.int)) nlp0 nlpw
        have hp6 : upd H5 lp (.lst (ps.map V.int)) lp = some (.lst (ps.map V.int)) := upd_same
        generalize upd H5 lp (.lst (ps.map V.int)) = H6 at F6 hp6
        clear hL hD la ll pm accb perm nD nDw nD0 nlD nd0
        -- every
        refine ⟨.int hues, rfl, (by show 2 ≤ sizeLine; decide), fun tp ntp => ⟨tp, [], 3, hues, rfl, upd_same, by decide, by decide, by omega, by omega, fun H10 le s10 nle fs => ?_⟩⟩
        have st := same_upd (o := .tup [.int 3, .int hues]) ntp
        have F10 := F6.same (st.trans s10)
        have hp10 := (st.trans s10) _ _ hp6
        obtain ⟨as, hle, pas⟩ := fs
        have nleH : H7 le = none := F6.free hW7 (st.free nle)
        have nlew := hW7.new nleH
        generalize hev : fillL hues.toNat (3 : Int).toNat = every at pas
        have evg : ∀ r ∈ every, r.length = 3 ∧ ∀ h ∈ r, 0 ≤ h ∧ h < hues := fun r hr => by
          rw [← hev] at hr
          obtain ⟨a, b⟩ := fill_good hr
          refine ⟨a, fun h hh => ?_⟩
          have := b h hh
          omega
        have evl : every.length ≤ 64 := by
          rw [← hev, fill_len]
          have : hues.toNat ^ 3 ≤ 4 ^ 3 := Nat.pow_le_pow_left (by omega) 3
          have e : (4 : Nat) ^ 3 = 64 := by decide
          have e3 : ((3 : Int).toNat) = 3 := rfl
          rw [e3]
          omega
        have evn : 1 ≤ every.length := by
          rw [← hev, fill_len]
          exact Nat.pos_of_ne_zero (by
            have : 0 < hues.toNat ^ (3 : Int).toNat := Nat.pow_pos (by omega)
            omega)
        have evp : every.Pairwise fun f g => HT.lexLt f g = true := by rw [← hev]; exact fill_pw _ _
        have asl := pairedLen pas
        clear hev
        -- rows
        refine ⟨.ref le, rfl, le, rfl, ⟨_, .inl (.inl hle)⟩, fun D nD => ?_⟩
        have nDw := F10.2.new nD
        have nD0 : H7 D = none := F10.free hW7 nD
        have nDle : D ≠ le := fun z => by rw [z, hle] at nD; cases nD
        have nDlp : D ≠ lp := fun z => by rw [z, hp10] at nD; cases nD
        refine lc_list (K := K) (a := le) (xs := as.map V.ref) (fun j H11 => Drawn wl cl H7 H11 ∧ Tups H10 H11 ∧ H11 le = some (.lst (as.map V.ref)) ∧ H11 lp = some (.lst (ps.map V.int)) ∧ ∃ (bs : List Addr) (rws : List Dt.Row), H11 D = some (.lst (bs.map V.ref)) ∧ Paired (IsRow H11) bs rws ∧ rws.Sublist (every.take j)) ⟨F10.put nD0 nDw, tups_same (same_upd nD), by rw [upd_ne (Ne.symm nDle)]; exact hle, by rw [upd_ne (Ne.symm nDlp)]; exact hp10, [], [], upd_same, .nil, List.nil_sublist _⟩ (fun j H11 _ pp => .inl (.inl pp.2.2.1)) (fun j x H11 hx pp => ?_) (fun H11 pp => ?_)
        · obtain ⟨F11, t11, hle11, hp11, bs, rws, hD11, pb, sub⟩ := pp
          rw [List.getElem?_map] at hx
          cases ea : as[j]? with
          | none => rw [ea] at hx; cases hx
          | some a =>
            rw [ea] at hx
            cases hx
            obtain ⟨fl, hfl, isr⟩ := pairedGetL pas ea
            have hj := (List.getElem?_eq_some_iff.mp hfl).1
            refine ⟨rfl, .ref wl, rfl, wl, cl, 4, rfl, F11.2, by decide, by decide, fun H12 d D12 d0 d1 => ⟨.int part, rfl, _, _, rfl, rfl, _, rfl, ?_⟩⟩
            have F12 := F11.trans D12
            have t12 := D12.tups F11.2
            have hle12 := D12.1 _ _ nlew.1 nlew.2 hle11
            have hp12 := D12.1 _ _ nlpw.1 nlpw.2 hp11
            have hD12 := D12.1 _ _ nDw.1 nDw.2 hD11
            have pb12 := pairedMap (fun _ _ e => t12 _ _ e) pb
            have bsl : bs.length ≤ 64 := by
              have a1 := pairedLen pb
              have a2 := sub.length_le
              rw [List.length_take] at a2
              omega
            refine ite2 (fun e => ?_) (fun e => ?_)
            · have tu := put_tups (o := .lst (bs.map V.ref ++ [.ref a])) hD12
              refine ⟨.ref a, rfl, _, hD12, ?_, F12.put nD0 nDw, (t11.trans t12).trans tu, ?_, ?_, bs ++ [a], rws ++ [fl], ?_, ?_, ?_⟩
              · rw [List.length_map]
                exact small1000 (by omega)
              · rw [upd_ne (Ne.symm nDle)]
                exact hle12
              · rw [upd_ne (Ne.symm nDlp)]
                exact hp12
              · rw [upd_same, List.map_append]
                rfl
              · exact (pairedMap (fun _ _ e => tu _ _ e) pb12).snoc (tu _ _ (t12 _ _ (t11 _ _ isr)))
              · rw [take_snoc hfl]
                exact sub.append (List.Sublist.refl _)
            · refine ⟨F12, t11.trans t12, hle12, hp12, bs, rws, hD12, pb12, ?_⟩
              rw [take_snoc hfl]
              exact sub.trans (List.sublist_append_left _ _)
        · obtain ⟨F11, t11, hle11, hp11, bs, rws, hD11, pb, sub⟩ := pp
          rw [List.length_map, asl, List.take_length] at sub
          have rwl : rws.length ≤ 64 := Nat.le_trans sub.length_le evl
          -- the cut
          refine ⟨fun σ H13 => Drawn wl cl H7 H13 ∧ H13 lp = some (.lst (ps.map V.int)) ∧ ∃ (lr : Addr) (bs : List Addr) (rws : List Dt.Row), H13 lr = some (.lst (bs.map V.ref)) ∧ Paired (IsRow H13) bs rws ∧ rws.Sublist every ∧ 1 ≤ rws.length ∧ ∃ y4 y5 y6 y8, σ = [some (.ref wl), some (.int many), some (.int hues), some (.ref lw), y4, y5, y6, some (.ref lp), y8, some (.ref lr), none, none], ?_, ?_⟩
          · refine ⟨.ref D, rfl, (by show 0 ≤ sizeLine; decide), fun le0 nle0 => ?_⟩
            have s0 := same_upd (o := .lst []) nle0
            refine ⟨.list (rws.map rowD), .list [], .lst (.inl (.inl (s0 _ _ hD11))) (dpRows (pairedMap (fun _ _ e => s0 _ _ e) pb)), .lst (.inl (.inl upd_same)) .nil, ?_, by decide +kernel, _, rfl, ?_⟩
            · refine (Fine.list (fineAll_map rws (n := 2) (w := 64) fun r hr => fine_row (fun z hz => ?_) ?_)).shaped (by decide)
              · have := (evg r (sub.subset hr)).2 z hz
                omega
              · have := (evg r (sub.subset hr)).1
                omega
            cases rws with
            | nil =>
              rw [List.map_nil, eqv_list_nn]
              refine iteT ?_
              refine ⟨.ref le, rfl, 1, rfl, le, _, rfl, .inl (.inl (s0 _ _ hle11)), fun lr nlr => ?_⟩
              have sr := same_upd (o := .lst (cutV (as.map V.ref) none (some 1))) nlr
              obtain ⟨a0, f0, ha0, hf0⟩ : ∃ a0 f0, as[0]? = some a0 ∧ every[0]? = some f0 := ⟨as[0]'(by omega), every[0]'(by omega), List.getElem?_eq_getElem _, List.getElem?_eq_getElem _⟩
              obtain ⟨f0', hf0', is0⟩ := pairedGetL pas ha0
              have ef : f0' = f0 := by rw [hf0] at hf0'; cases hf0'; rfl
              subst ef
              have ecut : cutV (as.map V.ref) none (some 1) = [a0].map V.ref := by
                cases as with
                | nil => cases ha0
                | cons z zs =>
                  cases ha0
                  simp [cutV, HT.sIx]
              refine ⟨(F11.same s0).same sr, (s0.trans sr) _ _ hp11, lr, [a0], [f0'], ?_, .cons (tups_same (s0.trans sr) _ _ (t11 _ _ is0)) .nil, ?_, Nat.le_refl _, _, _, _, _, rfl⟩
              · rw [upd_same, ecut]
              · exact List.singleton_sublist.mpr (List.mem_of_getElem? hf0)
            | cons r0 rws =>
              rw [List.map_cons, eqv_list_nil]
              refine iteF ?_
              exact ⟨F11.same s0, s0 _ _ hp11, D, bs, r0 :: rws, s0 _ _ hD11, pairedMap (fun _ _ e => s0 _ _ e) pb, sub, by simp, _, _, _, _, rfl⟩
          · intro σ H13 p
            obtain ⟨F13, hp13, lr, bs, rws, hr13, pb13, sub13, rl1, y4, y5, y6, y8, rfl⟩ := p
            have hw13 := F13.1 lw _ nw.1 nw.2 hw7
            refine ⟨.ref lw, rfl, .inl ⟨rfl, _, .inl (.inl hw13)⟩, .ref lp, rfl, lp, _, rfl, .inl ⟨.inl (.inl hp13), fun pt npt => ?_⟩⟩
            have sp := same_upd (o := .tup (ps.map V.int)) npt
            refine ⟨.ref lr, rfl, lr, _, rfl, .inl ⟨.inl (.inl (sp _ _ hr13)), fun rt nrt => ?_⟩⟩
            have sr := same_upd (o := .tup (bs.map V.ref)) nrt
            refine ⟨(by show 2 ≤ sizeLine; decide), fun wa nwa => ?_⟩
            have sw := same_upd (o := .tup [.ref pt, .ref rt]) nwa
            have s3' := (sp.trans sr).trans sw
            have hw14 := s3' _ _ hw13
            refine ⟨lw, _, _, rfl, rfl, hw14, ?_, ?_⟩
            · rw [List.length_map, wl7]
              exact small1000 (by omega)
            have tu := put_tups (o := .lst (was.map V.ref ++ [.ref wa])) hw14
            have tall : Tups H7 (upd (upd (upd (upd H13 pt (.tup (ps.map V.int))) rt (.tup (bs.map V.ref))) wa (.tup [.ref pt, .ref rt])) lw (.lst (was.map V.ref ++ [.ref wa]))) := ((F13.tups hW7).trans (tups_same s3')).trans tu
            have D14 : Drawn wl cl H7 (upd (upd (upd H13 pt (.tup (ps.map V.int))) rt (.tup (bs.map V.ref))) wa (.tup [.ref pt, .ref rt])) := F13.same s3'
            have isw : IsWish (upd (upd (upd H13 pt (.tup (ps.map V.int))) rt (.tup (bs.map V.ref))) wa (.tup [.ref pt, .ref rt])) wa (ps, rws) := ⟨pt, rt, bs, upd_same, (sr.trans sw) _ _ upd_same, sw _ _ upd_same, pairedMap (fun _ _ e => s3' _ _ e) pb13⟩
            have gw : Good many hues (ps, rws) := ⟨by show 1 ≤ ps.length; omega, by show ps.length ≤ 3; omega, psb, rl1, Nat.le_trans sub13.length_le evl, fun r hr => by have := evg r (sub13.subset hr); exact ⟨by rw [this.1]; exact psl.symm, this.2⟩⟩
            have rs : Rise (ps, rws) := ⟨psr, risR_of (evp.sublist sub13)⟩
            refine ⟨(E7.trans D14).put nw0 nw, ⟨was ++ [wa], wds ++ [(ps, rws)], ?_, ?_, ?_, ?_⟩, _, _, _, _, _, _, rfl⟩
            · rw [upd_same, List.map_append]
              rfl
            · rw [List.length_append, wl7]
              rfl
            · exact (pairedMap (fun _ _ e => IsWish.mono tall e) pw).snoc (isw.mono tu)
            · intro wd hwd
              rcases List.mem_append.mp hwd with z | z
              · exact gd wd z
              · rw [List.mem_singleton.mp z]
                exact ⟨gw, rs⟩
    · obtain ⟨E7, ⟨was, wds, hw7, wl7, pw, gd⟩, y4, y5, y6, y7, y8, y9, rfl⟩ := p
      refine ⟨.int many, rfl, .int hues, rfl, .ref lw, rfl, lw, _, rfl, .inl ⟨.inl (.inl hw7), fun wt nwt => ?_⟩⟩
      have st := same_upd (o := .tup (was.map V.ref)) nwt
      refine ⟨(by show 3 ≤ sizeLine; decide), fun ri nri => ?_⟩
      have sr := same_upd (o := .tup [.int many, .int hues, .ref wt]) nri
      have wdl : wds.length = 8 := by rw [← pairedLen pw, wl7]
      exact q _ ri many hues wds ((E7.same st).same sr) ⟨wt, was, upd_same, sr _ _ upd_same, pairedMap (fun _ _ e => IsWish.mono (tups_same (st.trans sr)) e) pw⟩ ⟨by omega, m6, h2, h4, by omega, fun wd hwd => (gd wd hwd).1⟩ (fun wd hwd => (gd wd hwd).2) wdl hgreat
end
end Rd

set_option Elab.async false
set_option linter.all false
set_option maxRecDepth 100000
set_option maxHeartbeats 4000000
namespace Rd
open PySem PySem.Spec PyProof.Rows L2 Dt
abbrev sLaw : Stmt := topS 30
abbrev nLaw : List Str := ["script", "well", "riddle", "many", "hues", "wishes", "due", "filling", "number", "turn", "crossing", "places", "rows", "place", "k", "one"]
theorem scLaw : FnScope nLaw ["script"] (defScope sLaw) := ⟨rfl, rfl, rfl, by decide +kernel, rfl, by decide +kernel, by decide +kernel⟩
theorem Drawn.tab {H H' : Hp} {wl cl P : Addr} (w : Well H wl cl) (a : Drawn wl cl H H') (t : GxR.TabG H P) : GxR.TabG H' P := by
  obtain ⟨ps, hp, ht⟩ := t
  obtain ⟨cs, x, c, h1, h2, hc⟩ := w
  exact ⟨ps, a.1 P _ (fun z => by rw [z, h1] at hp; cases hp) (fun z => by rw [z, h2] at hp; cases hp) hp, ht⟩
theorem Fr1.well {H H' : Hp} {wl cl P : Addr} (t : GxR.TabG H P) (f : Fr1 P H H') (w : Well H wl cl) : Well H' wl cl := by
  obtain ⟨ps, hp, ht⟩ := t
  obtain ⟨cs, x, c, h1, h2, hc⟩ := w
  exact ⟨cs, x, c, f.1 _ _ (fun z => by rw [z, hp] at h1; cases h1) h1, f.1 _ _ (fun z => by rw [z, hp] at h2; cases h2) h2, hc⟩
theorem fine_cnt {many hues : Int} {wds : List WD} (g : GoodR many hues wds) : Fine (.list ((cntL wds (fillL hues.toNat many.toNat)).map .int)) 2 150 := by
  have m6 := g.m6
  have h4 := g.h4
  have e8 := g.eight
  have p := pow_le_4096 (h := hues.toNat) (n := many.toNat) (by omega) (by omega)
  refine (fine_ints fun z hz => ?_).mono (Nat.le_refl _) (by rw [cnt_len]; omega)
  have := cnt_mem wds _ z hz
  rw [fill_len] at this
  omega
theorem fine_cls {many hues : Int} {wds : List WD} (g : GoodR many hues wds) (k : Nat) : Fine (listsD ((clsAll wds).drop k)) 3 100000 := by
  have e8 := g.eight
  have hl : (clsAll wds).length = wds.length := by simp [clsAll]
  refine fine_lists (by rw [List.length_drop]; omega) fun l hl => ?_
  obtain ⟨wd, _, rfl⟩ := List.mem_map.mp (List.mem_of_mem_drop hl)
  refine ⟨?_, fun z hz => ?_⟩
  · have := clsL_len wds wd wds.length
    omega
  · have := clsL_mem hz
    omega
theorem dpLists {K : PySem.W.Frag} {H : Hp} : ∀ {ls : List Addr} {rows : List (List Int)}, Paired (fun la row => H la = some (.lst (row.map V.int))) ls rows → DpAll K H (ls.map V.ref) (rows.map fun l => .list (l.map .int))
  | _, _, .nil => .nil
  | _, _, .cons h t => .cons (.lst (.inl (.inl h)) (dpInts _)) (dpLists t)
def pick (a b : List Int) : List Int := b.filter fun p => decide (p ∈ a)
def picks (wds : List WD) (a : WD) (i : Nat) : List (List Int) := (wds.take i).map fun b => pick a.1 b.1
theorem pick_snoc {a b : List Int} {m : Nat} {p : Int} (h : b[m]? = some p) : pick a (b.take (m + 1)) = if p ∈ a then pick a (b.take m) ++ [p] else pick a (b.take m) := by
  unfold pick
  rw [take_snoc h, List.filter_append]
  by_cases e : p ∈ a
  · simp [e]
  · simp [e]
theorem pick_nil {a b : WD} : (pick a.1 b.1 = []) ↔ clB a b = false := by
  rw [clB_comm]
  unfold pick clB
  rw [List.filter_eq_nil_iff, Bool.eq_false_iff]
  simp only [ne_eq, List.any_eq_true, not_exists, not_and]
theorem pick_mem {a b : List Int} {z : Int} (h : z ∈ pick a b) : z ∈ b := (List.mem_filter.mp h).1
theorem pick_len (a b : List Int) : (pick a b).length ≤ b.length := List.length_filter_le _ _
theorem lists_upd {H : Hp} {D : Addr} {o : HO} : ∀ {l : List Addr} {m : List (List Int)}, Paired (fun la row => H la = some (.lst (row.map V.int))) l m → D ∉ l → Paired (fun la row => upd H D o la = some (.lst (row.map V.int))) l m
  | _, _, .nil, _ => .nil
  | _, _, .cons h t, n => .cons (by rw [upd_ne (fun z => n (by rw [z]; exact List.mem_cons_self))]; exact h) (lists_upd t fun z => n (List.mem_cons_of_mem _ z))
theorem lists_fresh {H : Hp} {D : Addr} {l : List Addr} {m : List (List Int)} (p : Paired (fun la row => H la = some (.lst (row.map V.int))) l m) (n : H D = none) : D ∉ l := fun z => by
  obtain ⟨j, hj⟩ := List.getElem?_of_mem z
  obtain ⟨row, _, e⟩ := pairedGetL p hj
  rw [n] at e
  cases e
structure TxtL (P : Program) (w : World) (K : PySem.W.Frag) (mg : Str → Option Value) (base : Heap) (Pt Pc : Addr) (Ps : List Addr) : Prop where
  m_range : mg "range" = none
  m_repr : mg "repr" = none
  m_len : mg "len" = none
  m_tuple : mg "tuple" = none
  c__law_well : Cal P w K mg base 1 "_law_well" ["script"] (spWell K)
  c__law_draw : Cal P w K mg base 1 "_law_draw" ["well", "many"] spDraw
  c__law_great : Cal P w K mg base 2 "_law_great" ["well"] spGrt
  c__law_fillings : Cal P w K mg base 1 "_law_fillings" ["riddle"] spLfi
  c__law_broken : Cal P w K mg base 1 "_law_broken" ["riddle", "filling"] spLbr
  c_broken : Cal P w K mg base 3 "broken" ["riddle", "filling"] (spBro Pt)
  c_counts : Cal P w K mg base 4 "counts" ["riddle"] (spCnt Pt)
  c_clashing : Cal P w K mg base 2 "clashing" ["riddle"] (spCls Pc)
  c_is_riddle : Cal P w K mg base 8 "is_riddle" ["thing"] (spIrd Ps)
section
variable {P : Program} {w : World} {K : PySem.W.Frag} {mg : Str → Option Value} {base : Heap}
set_option maxHeartbeats 16000000 in
theorem body_law {fa a Pt Pc : Addr} {Ps : List Addr} {s : Shared} {H : Hp} {cdv : Value} {ns : List Int} (T : TxtL P w K mg base Pt Pc Ps) (hl : ns.length ≤ 63) (hb : ∀ z ∈ ns, Builtin.Int.intBits z ≤ 1048576) (hT : H Pt = some (.tbl #[])) (hC : H Pc = some (.tbl #[])) (hPs : ∀ P ∈ Ps, H P = some (.tbl #[])) (hS : SqL K H a (ns.map V.int))
    (hr : Room 8 (callerA.deeper (envOfC (Str.ofString "law") (defScope sLaw) s.heap.objs.size fa cdv))) :
    ∃ t, PSs (cxOf CX0 P w K mg base nLaw (Str.ofString "law") (defScope sLaw) fa cdv callerA [] s H (fun _ _ _ => False)).nox (defBody sLaw) t ∧ t { nx := fun _ _ => False, rt := fun v _ => v = .bl true } (start nLaw [.ref a]) H := by
  have hr8 := hr
  have hr4 : Room 4 (callerA.deeper (envOfC (Str.ofString "law") (defScope sLaw) s.heap.objs.size fa cdv)) := hr.mono (by omega)
  have hr3 : Room 3 (callerA.deeper (envOfC (Str.ofString "law") (defScope sLaw) s.heap.objs.size fa cdv)) := hr.mono (by omega)
  have hr2 : Room 2 (callerA.deeper (envOfC (Str.ofString "law") (defScope sLaw) s.heap.objs.size fa cdv)) := hr.mono (by omega)
  have hr1 : Room 1 (callerA.deeper (envOfC (Str.ofString "law") (defScope sLaw) s.heap.objs.size fa cdv)) := hr.mono (by omega)
  have hg : (callerA.deeper (envOfC (Str.ofString "law") (defScope sLaw) s.heap.objs.size fa cdv)).guards = some [] := rfl
  refine ⟨_, (pss_cons (ps_set (i := 1) scLaw.nd rfl (Or.inr rfl) (pe_cal T.c__law_well hr1 (by rfl) (pa_cons (pv 0) pa_nil)))
  (pss_cons (ps_set (i := 2) scLaw.nd rfl (Or.inl rfl) (pe_cal T.c__law_great hr2 (by rfl) (pa_cons (pv 1) pa_nil)))
  (pss_cons (ps_asg (pv 2) (pg_tup rfl (pgs_cons (pg_name (i := 3) scLaw.nd rfl (Or.inl rfl)) (pgs_cons (pg_name (i := 4) scLaw.nd rfl (Or.inr rfl)) (pgs_cons (pg_name (i := 5) scLaw.nd rfl (Or.inr rfl)) pgs_nil)))))
  (pss_cons (ps_if (PW.pt (pw_or (pt_cmpR op_notBl (pe_cal T.c_is_riddle hr8 (by rfl) (pa_cons (pv 2) pa_nil)) pe_bl (nomark _)) (pw_or (pt_val (pe_cal T.c_is_riddle hr8 (by rfl) (pa_cons (pe_tup (pa_cons (pe_op op_add (pv 3) pe_int) (pa_cons (pv 4) (pa_cons (pv 5) pa_nil)))) pa_nil))) (pw_or1 (pt_val (pe_cal T.c_is_riddle hr8 (by rfl) (pa_cons (pe_tup (pa_cons (pv 3) (pa_cons (pe_op op_add (pv 4) pe_int) (pa_cons (pv 5) pa_nil)))) pa_nil)))))))
  (pss_one (ps_ret pe_bl)) pss_nil)
  (pss_cons (ps_set (i := 6) scLaw.nd rfl (Or.inl rfl) (pe_op op_rep (pe_lst (pa_cons pe_int pa_nil)) pe_int))
  (pss_cons (ps_for PassesOwn.never rfl (pi_list (pe_cal T.c__law_fillings hr1 (by rfl) (pa_cons (pv 2) pa_nil))) (pg_name (i := 7) scLaw.nd rfl (Or.inl rfl))
  (pss_cons (ps_set (i := 8) scLaw.nd rfl (Or.inl rfl) (pe_callB call_len_seq (by rfl) T.m_len (by decide +kernel) (pa_cons (pe_cal T.c__law_broken hr1 (by rfl) (pa_cons (pv 2) (pa_cons (pv 7) pa_nil))) pa_nil)))
  (pss_one (ps_asg (pe_op op_add (pe_ix ix_list (pv 6) (pv 8) (fun _ _ => rfl)) pe_int) (pg_sub (pv 6) (pv 8) set_list)))))
  (pss_cons (ps_if (pt_cmpR op_ne (pe_callB (Lg.call_repr hg hr.units) (by rfl) T.m_repr (by decide +kernel) (pa_cons (pe_cal T.c_counts hr4 (by rfl) (pa_cons (pv 2) pa_nil)) pa_nil)) (pe_callB (Lg.call_repr hg hr.units) (by rfl) T.m_repr (by decide +kernel) (pa_cons (pv 6) pa_nil)) (nomark _))
  (pss_one (ps_ret pe_bl)) pss_nil)
  (pss_cons (ps_for PassesOwn.never rfl (pi_range1 (by rfl) T.m_range (pa_cons pe_int pa_nil)) (pg_name (i := 9) scLaw.nd rfl (Or.inl rfl))
  (pss_cons (ps_set (i := 7) scLaw.nd rfl (Or.inl rfl) (pe_callTy call_tuple_of (by rfl) T.m_tuple (by decide +kernel) (pa_cons (pe_lc (own := [("place", 13)]) rfl scLaw.nd  (pi_range1 (by rfl) T.m_range (pa_cons (pv 3) pa_nil)) (blkOk_by (own := [("place", 13)]) (N := nLaw) (sc := defScope sLaw) (by decide +kernel))
   (fun _ _ _ _ _ => (pg_name (i := 13) scLaw.nd rfl (Or.inl rfl))) (fun _ _ _ _ _ => pts_nil) (fun _ _ _ _ _ => (pe_cal T.c__law_draw hr1 (by rfl) (pa_cons (pv 1) (pa_cons (pv 4) pa_nil))))) pa_nil)))
  (pss_one (ps_if (pt_cmpR op_ne (pe_callB (Lg.call_repr hg hr.units) (by rfl) T.m_repr (by decide +kernel) (pa_cons (pe_cal T.c_broken hr3 (by rfl) (pa_cons (pv 2) (pa_cons (pv 7) pa_nil))) pa_nil)) (pe_callB (Lg.call_repr hg hr.units) (by rfl) T.m_repr (by decide +kernel) (pa_cons (pe_cal T.c__law_broken hr1 (by rfl) (pa_cons (pv 2) (pa_cons (pv 7) pa_nil))) pa_nil)) (nomark _))
  (pss_one (ps_ret pe_bl)) pss_nil))))
  (pss_cons (ps_set (i := 10) scLaw.nd rfl (Or.inl rfl) (pe_lst pa_nil))
  (pss_cons (ps_for PassesOwn.never rfl (pi_tup (pv 5)) (pg_tup rfl (pgs_cons (pg_name (i := 11) scLaw.nd rfl (Or.inr rfl)) (pgs_cons (pg_name (i := 12) scLaw.nd rfl (Or.inl rfl)) pgs_nil)))
  (pss_one (ps_expr (pe_bm PySem.F.plainAttrs_list PySem.F.slot_list_append PySem.F.type_list_append mt_append (pv 10) (pa_cons (pe_lc (tt := tTest (tOp (rNeD K) (tLc (iTup K (tOp (rIxT K) (tOp (rIxT K) (tVar 5) (tVar 14)) (tC (.int 0)))) (gName 15) (tTest (tOp (rInT K) (tVar 15) (tVar 11))) (tVar 15) [15]) (tLst tNil))) (own := [("k", 14)]) rfl scLaw.nd  (pi_range1 (by rfl) T.m_range (pa_cons pe_int pa_nil)) (blkOk_by (own := [("k", 14)]) (N := nLaw) (sc := defScope sLaw) (by decide +kernel))
   (fun _ _ _ _ _ => (pg_name (i := 14) scLaw.nd rfl (Or.inl rfl))) (fun _ _ _ _ _ => pts_one (pt_cmpR (op_neD hr.units) (pe_lc (own := [("one", 15)]) rfl scLaw.nd  (pi_tup (pe_ix ix_tup (pe_ix ix_tup (pv 5) (pv 14) (fun _ _ => rfl)) pe_int (fun _ _ => rfl))) (blkOk_by (own := [("one", 15)]) (N := nLaw) (sc := { kind := .function, names := [(".0", .local), ("k", .local), ("places", .cell), ("wishes", .cell)], isGenerator := false, isCoroutine := false }) (by decide +kernel))
   (fun _ _ _ _ _ => (pg_name (i := 15) scLaw.nd rfl (Or.inl rfl))) (fun _ _ _ _ _ => pts_one (pt_cmpR (Dt.op_inT (units65 hr)) (pv 15) (pv 11) (by rfl))) (fun _ _ _ _ _ => (pv 15))) (pe_lst pa_nil) (nomark _))) (fun _ _ _ _ _ => (pv 14))) pa_nil)))))
  (pss_one (ps_ret (pe_cmpR op_eq (pe_callB (Lg.call_repr hg hr.units) (by rfl) T.m_repr (by decide +kernel) (pa_cons (pe_cal T.c_clashing hr2 (by rfl) (pa_cons (pv 2) pa_nil)) pa_nil)) (pe_callB (Lg.call_repr hg hr.units) (by rfl) T.m_repr (by decide +kernel) (pa_cons (pv 10) pa_nil)) (nomark _)))))))))))))), ?_⟩
  refine ⟨.ref a, rfl, a, ns, rfl, hS, hl, hb, fun H1 wl cl sm _ _ hW => ?_⟩
  have t1 : GxR.TabG H1 Pt := ⟨#[], sm _ _ hT, trivial⟩
  have c1 : GxR.TabG H1 Pc := ⟨#[], sm _ _ hC, trivial⟩
  have p1 : Tabs Ps H1 := fun P hP => ⟨#[], sm _ _ (hPs P hP), trivial⟩
  refine ⟨.ref wl, rfl, wl, cl, rfl, hW, fun H2 ri many hues wds D2 isr gr rise l8 great => ?_⟩
  obtain ⟨wt, was, h1, h2, h3⟩ := id isr
  have hwl : was.length = wds.length := pairedLen h3
  have hW2 := D2.2
  have t2 := D2.tab hW t1
  have c2 := D2.tab hW c1
  have p2 : Tabs Ps H2 := fun P hP => D2.tab hW (p1 P hP)
  have m1 := gr.m1
  have m6 := gr.m6
  have hh2 := gr.h2
  have hh4 := gr.h4
  have fc := fine_cnt gr
  have fl := fine_cls gr
  refine ⟨.ref ri, rfl, ri, _, rfl, .inl (.inl h1), rfl, .int many, [.int hues, .ref wt], rfl, .int hues, [.ref wt], rfl, .ref wt, [], rfl, rfl, ?_⟩
  -- is_riddle
  have z1 : sizeOk many hues = true := by rcases great with ⟨x, y⟩ | ⟨x, y⟩ | ⟨x, y⟩ <;> (subst x y; decide)
  have z2 : sizeOk (many + 1) hues = false := by rcases great with ⟨x, y⟩ | ⟨x, y⟩ | ⟨x, y⟩ <;> (subst x y; decide)
  have z3 : sizeOk many (hues + 1) = false := by rcases great with ⟨x, y⟩ | ⟨x, y⟩ | ⟨x, y⟩ <;> (subst x y; decide)
  refine ⟨.ref ri, rfl, ri, .ref wt, many, hues, rfl, p2, h1, .inr ⟨z1, wds, isr, gr, rise, fun H3 f3 => ⟨true, true, rfl, rfl, _, rfl, iteNS rfl ?_⟩⟩⟩
  have u3 := f3.tups p2
  have p3 := f3.2
  refine ⟨.int many, rfl, many, 1, rfl, rfl, .int hues, rfl, .ref wt, rfl, (by show 3 ≤ sizeLine; decide), fun ta nta => ?_⟩
  have sa := same_upd (o := .tup [.int (many + 1), .int hues, .ref wt]) nta
  have p4 : Tabs Ps _ := (FrS.of p3 sa).2
  refine ⟨ta, .ref wt, many + 1, hues, rfl, p4, upd_same, .inl ⟨z2, false, rfl, iteF ?_⟩⟩
  refine ⟨.int many, rfl, .int hues, rfl, hues, 1, rfl, rfl, .ref wt, rfl, (by show 3 ≤ sizeLine; decide), fun tb ntb => ?_⟩
  have sb := same_upd (o := .tup [.int many, .int (hues + 1), .ref wt]) ntb
  have p5 : Tabs Ps _ := (FrS.of p4 sb).2
  refine ⟨tb, .ref wt, many, hues + 1, rfl, p5, upd_same, .inl ⟨z3, false, rfl, iteF ?_⟩⟩
  have f5 := f3.trans (FrS.of p3 (sa.trans sb))
  have hW5 := f5.well p2 hW2
  have is5 := isr.mono (f5.tups p2)
  have t5 := f5.tab t2
  have hri5 := f5.tups p2 _ _ h1
  have c5 := f5.tab c2
  generalize upd (upd H3 ta (.tup [.int (many + 1), .int hues, .ref wt])) tb (.tup [.int many, .int (hues + 1), .ref wt]) = H5 at hW5 is5 t5 c5 hri5
  clear f3 u3 p3 sa p4 sb p5 f5 h1 h2 h3 isr
  obtain ⟨wt2, was2, h1', h2', h3'⟩ := id is5
  clear hwl nta ntb
  -- due
  refine ⟨(by show 1 ≤ sizeLine; decide), fun l0 nl0 => ?_⟩
  have s0 := same_upd (o := .lst [.int 0]) nl0
  refine ⟨l0, 9, _, rfl, rfl, upd_same, by decide, by decide, (by show 1 * 9 ≤ sizeLine; decide), fun l nl => ?_⟩
  have e9 : (9 : Int).toNat = wds.length + 1 := by rw [l8]; rfl
  rw [e9, rep_zero]
  have s1 := same_upd (o := .lst ((List.replicate (wds.length + 1) (0 : Int)).map V.int)) nl
  have nl2 : H5 l = none := s0.free nl
  refine ⟨.ref ri, rfl, ri, [.ref wt2], many, hues, rfl, (s0.trans s1) _ _ h1', by omega, by omega, by omega, by omega, fun H6 lf s2 nlf fs => ?_⟩
  have s02 := (s0.trans s1).trans s2
  obtain ⟨as, hlf, pa⟩ := fs
  have hal := pairedLen pa
  have nll : lf ≠ l := fun z => by rw [z, upd_same] at nlf; cases nlf
  refine ⟨lf, rfl, ⟨_, .inl (.inl hlf)⟩, ?_⟩
  have hl2 : H6 l = some (.lst ((cnt0 wds).map V.int)) := s2 _ _ upd_same
  have nlw : l ≠ wl ∧ l ≠ cl := hW5.new nl2
  refine for_list (K := K) (a := lf) (xs := as.map V.ref) (fun i σ H7 => Same (wo H6 l) H7 ∧ H7 l = some (.lst ((cntL wds ((fillL hues.toNat many.toNat).take i)).map V.int)) ∧ ∃ y7 y8, σ = [some (.ref a), some (.ref wl), some (.ref ri), some (.int many), some (.int hues), some (.ref wt), some (.ref l), y7, y8, none, none, none, none, none, none, none]) ⟨fun b o e => wo_to e, hl2, none, none, rfl⟩ (fun i σ H7 _ p => .inl (.inl (p.1 _ _ (wo_of nll hlf)))) (fun i x σ H7 hx p => ?_) (fun σ H7 p => ?_)
  · obtain ⟨sm7, hL, y7, y8, rfl⟩ := p
    rw [List.getElem?_map] at hx
    cases ea : as[i]? with
    | none => rw [ea] at hx; cases hx
    | some fa2 =>
      rw [ea] at hx
      cases hx
      obtain ⟨fi, hfi, isf⟩ := pairedGetL pa ea
      have t7 : Tups H6 H7 := (wo_tups hl2).trans (tups_same sm7)
      have gf := fill_goodF (by omega) (by omega) (List.mem_of_getElem? hfi)
      refine ⟨.ref ri, rfl, .ref fa2, rfl, ri, fa2, fi, wds, many, hues, rfl, (is5.mono (tups_same s02)).mono t7, t7 _ _ isf, gf, gr, fun H8 lb s8 nlb hlb => ?_⟩
      have hL8 := s8 _ _ hL
      generalize hcl : cntL wds ((fillL hues.toNat many.toNat).take i) = cl' at hL hL8
      have bl := broL_len fi wds wds.length
      have cl2 : cl'.length = wds.length + 1 := by rw [← hcl]; exact cnt_len _ _
      have bk : (broL fi wds wds.length).length < cl'.length := by omega
      obtain ⟨c, hc⟩ : ∃ c, cl'[(broL fi wds wds.length).length]? = some c := ⟨_, List.getElem?_eq_getElem bk⟩
      have ei : ((((broL fi wds wds.length).map V.int).length : Nat) : Int) = ((broL fi wds wds.length).length : Int) := by rw [List.length_map]
      refine ⟨lb, _, rfl, .inl (.inl (.inl hlb)), ?_⟩
      rw [ei]
      refine ⟨.ref l, rfl, .int _, rfl, l, _, _, .int c, rfl, rfl, .inl (.inl hL8), atI_nat (by rw [List.getElem?_map, hc]; rfl), c, 1, rfl, rfl, .ref l, rfl, .int _, rfl, l, _, _, (broL fi wds wds.length).length, rfl, rfl, hL8, ?_, ?_⟩
      · rw [List.length_map]
        exact ix_nat bk
      · refine ⟨fun b o e => ?_, ?_, _, _, rfl⟩
        · rw [upd_ne (ne_of_none e wo_self)]
          exact s8 _ _ (sm7 b o e)
        · rw [upd_same, take_snoc hfi, cnt_snoc, hcl, bump_eq hc, List.map_set]
  · obtain ⟨sm7, hL, y7, y8, rfl⟩ := p
    rw [List.length_map, hal, List.take_length] at hL
    have s57 : Same H5 H7 := fun b o e => sm7 b o (wo_of (ne_of_none e nl2) (s02 _ _ e))
    have is7 := is5.mono (tups_same s57)
    have hri7 := s57 _ _ hri5
    have hW7 := hW5.same s57
    have t7 := (Fr1.of t5 s57).2
    have c7 := (Fr1.of c5 s57).2
    clear s57 sm7 hl2 nll hlf pa hal s02 s2 nlf s1 s0 nl nl0
    -- counts
    refine ⟨.ref ri, rfl, ri, wds, many, hues, rfl, is7, gr, t7, fun H8 lc f8 nlc hlc => ?_⟩
    have hL8 := f8.keep t7 hL
    refine ⟨lc, _, rfl, .lst (.inl (.inl hlc)) (dpInts _), fc.sho, fc.noD, Nat.lt_of_le_of_lt fc.dep (by decide), fc.shows (by decide) (by decide), ?_⟩
    refine ⟨.ref l, rfl, l, _, rfl, .lst (.inl (.inl hL8)) (dpInts _), fc.sho, fc.noD, Nat.lt_of_le_of_lt fc.dep (by decide), fc.shows (by decide) (by decide), rfl, _, rfl, iteNS rfl ?_⟩
    have is8 := is7.mono (f8.tups t7)
    have hri8 := f8.tups t7 _ _ hri7
    have hW8 := f8.well t7 hW7
    have t8 := f8.2
    have c8 := f8.tab c7
    clear hL hL8 hlc f8 is7 hW7 t7 c7
    -- four fillings
    refine ⟨4, rfl, by decide, by decide, for_range (lo := 0) (n := 4) (fun i σ H9 => Well H9 wl cl ∧ GxR.TabG H9 Pt ∧ GxR.TabG H9 Pc ∧ IsRid H9 ri many hues wds ∧ H9 ri = some (.tup [.int many, .int hues, .ref wt]) ∧ ∃ y6 y7 y8 y9, σ = [some (.ref a), some (.ref wl), some (.ref ri), some (.int many), some (.int hues), some (.ref wt), y6, y7, y8, y9, none, none, none, none, none, none]) ⟨hW8, t8, c8, is8, hri8, _, _, _, _, rfl⟩ (fun i σ H9 hi p => ?_) (fun σ H9 p => ?_)⟩
    · obtain ⟨hW9, t9, c9, is9, hri9, y6, y7, y8, y9, rfl⟩ := p
      refine ⟨.int many, rfl, many, rfl, by omega, by omega, fun D nD => ?_⟩
      have nDw := hW9.new nD
      refine lc_range (lo := 0) (n := many.toNat) (fun j H10 => Drawn wl cl H9 H10 ∧ ∃ fs : List Int, H10 D = some (.lst (fs.map V.int)) ∧ fs.length = j ∧ ∀ h ∈ fs, 0 ≤ h ∧ h < hues) ⟨(Drawn.refl hW9).put nD nDw, [], upd_same, rfl, fun _ h => nomatch h⟩ (fun j H10 hj p => ?_) (fun H10 p => ?_)
      · obtain ⟨E10, fs, hf10, fl', fb⟩ := p
        refine ⟨rfl, yes_if ?_⟩
        refine ⟨.ref wl, rfl, .int hues, rfl, wl, cl, hues, rfl, E10.2, by omega, log_small (by omega) (by omega), fun H11 d D11 d0 d1 => ⟨fs.map V.int, D11.1 D _ nDw.1 nDw.2 hf10, ?_, (E10.trans D11).put nD nDw, fs ++ [d], ?_, ?_, ?_⟩⟩
        · rw [List.length_map]
          exact small1000 (by omega)
        · rw [upd_same, List.map_append]
          rfl
        · rw [List.length_append, fl']
          rfl
        · intro h hh
          rcases List.mem_append.mp hh with hh | hh
          · exact fb h hh
          · rw [List.mem_singleton.mp hh]
            exact ⟨d0, d1⟩
      · obtain ⟨E10, fs, hf10, fl', fb⟩ := p
        have gf : GoodF many hues fs := ⟨by omega, fb⟩
        refine ⟨D, _, rfl, .inl ⟨.inl (.inl hf10), fun tf ntf => ?_⟩⟩
        have sf := same_upd (o := .tup (fs.map V.int)) ntf
        have is10 := (is9.mono (E10.tups hW9)).mono (tups_same sf)
        have hri10 := sf _ _ (E10.tups hW9 _ _ hri9)
        have hW10 := E10.2.same sf
        have t10 := (Fr1.of (E10.tab hW9 t9) sf).2
        have c10 := (Fr1.of (E10.tab hW9 c9) sf).2
        have hf : upd H10 tf (.tup (fs.map V.int)) tf = some (.tup (fs.map V.int)) := upd_same
        generalize upd H10 tf (.tup (fs.map V.int)) = H11 at is10 hW10 t10 c10 hf hri10
        have fb2 : Fine (.list ((broL fs wds wds.length).map .int)) 2 64 := fine_bro fs wds gr.eight
        refine ⟨.ref ri, rfl, .ref tf, rfl, ri, tf, fs, wds, many, hues, rfl, is10, hf, gf, gr, t10, fun H12 lb f12 nlb hlb => ?_⟩
        refine ⟨lb, _, rfl, .lst (.inl (.inl hlb)) (dpInts _), fb2.sho, fb2.noD, Nat.lt_of_le_of_lt fb2.dep (by decide), fb2.shows (by decide) (by decide), ?_⟩
        have is12 := is10.mono (f12.tups t10)
        refine ⟨.ref ri, rfl, .ref tf, rfl, ri, tf, fs, wds, many, hues, rfl, is12, f12.tups t10 _ _ hf, gf, gr, fun H13 lb2 s13 nlb2 hlb2 => ?_⟩
        refine ⟨lb2, _, rfl, .lst (.inl (.inl hlb2)) (dpInts _), fb2.sho, fb2.noD, Nat.lt_of_le_of_lt fb2.dep (by decide), fb2.shows (by decide) (by decide), rfl, _, rfl, iteNS rfl ?_⟩
        exact ⟨(f12.well t10 hW10).same s13, (Fr1.of f12.2 s13).2, (Fr1.of (f12.tab c10) s13).2, is12.mono (tups_same s13), s13 _ _ (f12.tups t10 _ _ hri10), _, _, _, _, rfl⟩
    · obtain ⟨hW9, t9, c9, is9, hri9, y6, y7, y8, y9, rfl⟩ := p
      -- crossing
      obtain ⟨wt3, was, h1, h2, h3⟩ := id is9
      have ewt : wt3 = wt := by
        rw [hri9] at h1
        cases h1
        rfl
      subst ewt
      have hwl : was.length = wds.length := pairedLen h3
      refine ⟨(by show 0 ≤ sizeLine; decide), fun L nL => ?_⟩
      have sL := same_upd (o := .lst []) nL
      refine ⟨.ref wt3, rfl, wt3, rfl, ⟨_, .inl (.inl (sL _ _ h2))⟩, ?_⟩
      refine for_tup (K := K) (a := wt3) (xs := was.map V.ref) (fun i σ H10 => Same H9 H10 ∧ (∃ ls : List Addr, H10 L = some (.lst (ls.map V.ref)) ∧ Paired (fun la row => H10 la = some (.lst (row.map V.int))) ls ((wds.take i).map fun wd => clsL wds wd wds.length) ∧ L ∉ ls) ∧ ∃ y3 y4 y6 y7 y8 y9 y11 y12, σ = [some (.ref a), some (.ref wl), some (.ref ri), y3, y4, some (.ref wt3), y6, y7, y8, y9, some (.ref L), y11, y12, none, none, none]) ⟨sL, ⟨[], upd_same, .nil, List.not_mem_nil⟩, _, _, _, _, _, _, _, _, rfl⟩ (fun i σ H10 _ p => .inl (.inl (p.1 _ _ h2))) (fun i x σ H10 hx p => ?_) (fun σ H10 p => ?_)
      · obtain ⟨sm10, ⟨ls, hL, pl, nLl⟩, y3, y4, y6, y7, y8, y9, y11, y12, rfl⟩ := p
        rw [List.getElem?_map] at hx
        cases ew : was[i]? with
        | none => rw [ew] at hx; cases hx
        | some wa =>
          rw [ew] at hx
          cases hx
          obtain ⟨wd, hwd, isw⟩ := pairedGetL h3 ew
          have gw := gr.each wd (List.mem_of_getElem? hwd)
          have hi : i < was.length := (List.getElem?_eq_some_iff.mp ew).1
          obtain ⟨pa, ra, rs, w1, w2, w3, w4⟩ := isw
          have lsl := pairedLen pl
          refine ⟨wa, _, rfl, .inl (.inl (sm10 _ _ w1)), rfl, .ref pa, [.ref ra], rfl, .ref ra, [], rfl, rfl, ?_⟩
          refine ⟨.ref L, rfl, .inl ⟨rfl, _, .inl (.inl hL)⟩, 8, rfl, by decide, by decide, fun D3 nD3 => ?_⟩
          refine lc_range (lo := 0) (n := 8) (fun m H11 => Same H10 H11 ∧ H11 D3 = some (.lst ((clsL wds wd m).map V.int))) ⟨same_upd nD3, upd_same⟩ (fun m H11 hm pp => ?_) (fun H11 pp => ?_)
          · obtain ⟨s11, hD3⟩ := pp
            obtain ⟨wd2, hwd2⟩ : ∃ wd2, wds[m]? = some wd2 := ⟨_, List.getElem?_eq_getElem (by omega)⟩
            obtain ⟨wb, ewb, isw2⟩ := pairedGet h3 hwd2
            have gw2 := gr.each wd2 (List.mem_of_getElem? hwd2)
            obtain ⟨pb, rb, rs2, b1, b2, b3, b4⟩ := isw2
            have s011 := sm10.trans s11
            have ez : (0 : Int) + (m : Int) = m := Int.zero_add _
            refine ⟨rfl, .ref wt3, rfl, .int (0 + (m : Int)), rfl, wt3, was.map V.ref, _, .ref wb, rfl, rfl, .inl (.inl (s011 _ _ h2)), ?_, wb, _, 0, _, rfl, rfl, .inl (.inl (s011 _ _ b1)), atI_nat (j := 0) rfl, pb, rfl, ⟨_, .inl (.inl (s011 _ _ b2))⟩, fun D2 nD2 => ?_⟩
            · rw [ez]
              exact atI_nat (by rw [List.getElem?_map, ewb]; rfl)
            refine lc_tup (K := K) (a := pb) (xs := wd2.1.map V.int) (fun j H12 => Same H11 H12 ∧ H12 D2 = some (.lst ((pick wd.1 (wd2.1.take j)).map V.int))) ⟨same_upd nD2, upd_same⟩ (fun j H12 _ pp => .inl (.inl ((s011.trans pp.1) _ _ b2))) (fun j x H12 hx pp => ?_) (fun H12 pp => ?_)
            · obtain ⟨s12, hD2⟩ := pp
              rw [List.getElem?_map] at hx
              cases ep : wd2.1[j]? with
              | none => rw [ep] at hx; cases hx
              | some p =>
                rw [ep] at hx
                cases hx
                have hp := gw2.pl p (List.mem_of_getElem? ep)
                refine ⟨rfl, .int p, rfl, .ref pa, rfl, .int p, wd.1.map PyData.int, .int p, .tup (.inl (.inl ((s011.trans s12) _ _ w2))) (dpInts _), (fine_int hp.1 (by omega)).shaped (by decide), ?_, _, rfl, ?_⟩
                · exact (fine_row (r := wd.1) (fun z hz => by have := gw.pl z hz; omega) (by have := gw.three; omega)).shaped (by decide)
                rw [Gv.any_ints]
                have sn := pick_snoc (a := wd.1) ep
                refine ite2 (fun e => ?_) (fun e => ?_)
                · refine ⟨.int p, rfl, _, hD2, ?_, fun b o e2 => ?_, ?_⟩
                  · rw [List.length_map]
                    have := pick_len wd.1 (wd2.1.take j)
                    rw [List.length_take] at this
                    have := gw2.three
                    exact small1000 (by omega)
                  · rw [upd_ne (ne_of_none e2 nD2)]
                    exact s12 b o e2
                  · rw [upd_same, sn, if_pos (by simpa using e), List.map_append]
                    rfl
                · refine ⟨s12, ?_⟩
                  rw [sn, if_neg (by simpa using e)]
                  exact hD2
            · obtain ⟨s12, hD2⟩ := pp
              rw [List.length_map, List.take_length] at hD2
              refine ⟨(by show 0 ≤ sizeLine; decide), fun le nle => ?_⟩
              have se := same_upd (o := .lst []) nle
              have s8' := (s11.trans s12).trans se
              have hD8 := (s12.trans se) _ _ hD3
              refine ⟨.list ((pick wd.1 wd2.1).map .int), .list [], .lst (.inl (.inl (se _ _ hD2))) (dpInts _), .lst (.inl (.inl upd_same)) .nil, ?_, by decide +kernel, _, rfl, ?_⟩
              · exact (fine_ints (fun z hz => by have := gw2.pl z (pick_mem hz); omega)).shaped (by decide)
              have ec := clAt_of (a := wd) hwd2
              by_cases hn : pick wd.1 wd2.1 = []
              · rw [hn, List.map_nil, eqv_list_nn]
                refine iteF ⟨s8', ?_⟩
                rw [clsL_no (ec.trans (pick_nil.mp hn))]
                exact hD8
              · have ec2 : clAt wds wd m = true := by
                  rw [ec]
                  cases e : clB wd wd2 with
                  | true => rfl
                  | false => exact absurd (pick_nil.mpr e) hn
                cases hpk : pick wd.1 wd2.1 with
                | nil => exact absurd hpk hn
                | cons z zs =>
                  rw [show PyData.eqv (.list ((z :: zs).map PyData.int)) (.list []) = false from eqv_list_nil _ _]
                  refine iteT ?_
                  refine ⟨.int (0 + (m : Int)), rfl, _, hD8, ?_, fun b o e2 => ?_, ?_⟩
                  · rw [List.length_map]
                    have := clsL_len wds wd m
                    exact small1000 (by omega)
                  · rw [upd_ne (ne_of_none e2 nD3)]
                    exact s8' b o e2
                  · rw [upd_same, clsL_yes ec2, List.map_append, ez]
                    rfl
          · obtain ⟨s11, hD3⟩ := pp
            have e8 : (8 : Nat) = wds.length := l8.symm
            rw [e8] at hD3
            have hL11 := s11 _ _ hL
            have nDL : D3 ≠ L := fun z => by rw [z, hL] at nD3; cases nD3
            refine ⟨L, _, _, rfl, rfl, hL11, ?_, fun b o e2 => ?_, ⟨ls ++ [D3], ?_, ?_, ?_⟩, _, _, _, _, _, _, _, _, rfl⟩
            · rw [List.length_map, lsl, List.length_map, List.length_take]
              exact small1000 (by omega)
            · rw [upd_ne (ne_of_none e2 nL)]
              exact s11 _ _ (sm10 b o e2)
            · rw [upd_same, List.map_append]
              rfl
            · rw [take_snoc hwd, List.map_append]
              refine (lists_upd (pairedMap (fun _ _ e => s11 _ _ e) pl) nLl).snoc ?_
              rw [upd_ne nDL]
              exact hD3
            · exact fun z => (List.mem_append.mp z).elim nLl fun z => nDL (List.mem_singleton.mp z).symm
      · obtain ⟨sm10, ⟨ls, hL, pl, nLl⟩, y3, y4, y6, y7, y8, y9, y11, y12, rfl⟩ := p
        rw [List.length_map, hwl, List.take_length] at pl
        have is10 := is9.mono (tups_same sm10)
        have c10 := (Fr1.of c9 sm10).2
        refine ⟨.ref ri, rfl, ri, wds, many, hues, rfl, is10, gr, c10, fun H11 lt f11 nlt ll => ?_⟩
        obtain ⟨ls2, hlt, pl2, _, _, _⟩ := ll
        refine ⟨lt, listsD ((clsAll wds).drop 0), rfl, .lst (.inl (.inl hlt)) (dpLists pl2), (fl 0).sho, (fl 0).noD, Nat.lt_of_le_of_lt (fl 0).dep (by decide), (fl 0).shows (by decide) (by decide), ?_⟩
        refine ⟨.ref L, rfl, L, listsD ((clsAll wds).drop 0), rfl, .lst (.inl (.inl (f11.keep c10 hL))) (dpLists (pairedMap (fun _ _ e => f11.keep c10 e) pl)), (fl 0).sho, (fl 0).noD, Nat.lt_of_le_of_lt (fl 0).dep (by decide), (fl 0).shows (by decide) (by decide), rfl, ?_⟩
        exact congrArg V.bl (decide_eq_true rfl)
end
end Rd

set_option Elab.async false
set_option linter.all false
set_option maxRecDepth 100000
set_option maxHeartbeats 4000000
namespace Rd
open PySem PySem.Spec PyProof.Rows L2 Dt
theorem all_mk {l : PySem.W.OpenLaw} {w : World} {K : PySem.W.Frag} {h : Heap} {mg : Str → Option Value} {fa : Addr} {tb : Str → Addr × Addr} (X : K.In h) (G : h.Ns mainGlobals mg) (hfa : mg "law" = some (.ref fa)) (ht : ∀ y ∈ [("hues_at" : Str), ("clash" : Str), ("is_rising" : Str), ("are_places" : Str), ("are_hues" : Str), ("are_rows" : Str), ("is_riddle" : Str)], Lg.TabOf mg h y (tb y))
    {f1 f2 f3 f4 f5 f6 f7 f8 f9 f10 f11 f12 f13 f14 f15 f16 f17 f18 f19 f20 f21 f22 : Addr} {od1 an1 od2 an2 od3 an3 od4 an4 od5 an5 od6 an6 od7 an7 od8 an8 od9 an9 od10 an10 od11 an11 od12 an12 od13 an13 od14 an14 od15 an15 od16 an16 od17 an17 od18 an18 od19 an19 od20 an20 od21 an21 od22 an22 : Option Addr} {sl1 sl2 sl3 sl4 sl5 sl6 sl7 sl8 sl9 sl10 sl11 sl12 sl13 sl14 sl15 sl16 sl17 sl18 sl19 sl20 sl21 sl22 : Array (Option Value)} {oc1 kV1 dc1 pm1 cd1 ct1 oc2 kV2 dc2 pm2 cd2 ct2 oc3 kV3 dc3 pm3 cd3 ct3 oc4 kV4 dc4 pm4 cd4 ct4 oc5 kV5 dc5 pm5 cd5 ct5 oc6 kV6 dc6 pm6 cd6 ct6 oc7 kV7 dc7 pm7 cd7 ct7 oc8 kV8 dc8 pm8 cd8 ct8 oc9 kV9 dc9 pm9 cd9 ct9 oc10 kV10 dc10 pm10 cd10 ct10 oc11 kV11 dc11 pm11 cd11 ct11 oc12 kV12 dc12 pm12 cd12 ct12 oc13 kV13 dc13 pm13 cd13 ct13 oc14 kV14 dc14 pm14 cd14 ct14 oc15 kV15 dc15 pm15 cd15 ct15 oc16 kV16 dc16 pm16 cd16 ct16 oc17 kV17 dc17 pm17 cd17 ct17 oc18 kV18 dc18 pm18 cd18 ct18 oc19 kV19 dc19 pm19 cd19 ct19 oc20 kV20 dc20 pm20 cd20 ct20 oc21 kV21 dc21 pm21 cd21 ct21 oc22 kV22 dc22 pm22 cd22 ct22 : Value} {tk_MOST_PLACES : Tok} {tk_LEAST_HUES : Tok} {tk_MOST_HUES : Tok} {tk_MOST_FILLINGS : Tok} {tk_MOST_WISHES : Tok} {tk_MOST_PLACES_OF_A_WISH : Tok}
    (a1 : PySem.W.nsIn K mainGlobals "is_number" = some (some (.ref f1))) (l1 : K.lookup f1 = some ⟨oc1, od1, .func (PySem.W.fnOf "is_number" "is_number" (defArgs sNum) (defBody sNum) (defScope sNum) .none kV1 dc1 pm1 an1 cd1 ct1), sl1⟩) (c1 : PySem.W.codeIn K cd1 "is_number" = true) (k1 : PySem.W.keepIn K (.ref f1) = true)
    (a2 : PySem.W.nsIn K mainGlobals "is_rising" = some (some (.ref f2))) (l2 : K.lookup f2 = some ⟨oc2, od2, .func (PySem.W.fnOf "is_rising" "is_rising" (defArgs sRis) (defBody sRis) (defScope sRis) .none kV2 dc2 pm2 an2 cd2 ct2), sl2⟩) (c2 : PySem.W.codeIn K cd2 "is_rising" = true) (k2 : PySem.W.keepIn K (.ref f2) = true)
    (a3 : PySem.W.nsIn K mainGlobals "fillings_number" = some (some (.ref f3))) (l3 : K.lookup f3 = some ⟨oc3, od3, .func (PySem.W.fnOf "fillings_number" "fillings_number" (defArgs sFno) (defBody sFno) (defScope sFno) .none kV3 dc3 pm3 an3 cd3 ct3), sl3⟩) (c3 : PySem.W.codeIn K cd3 "fillings_number" = true) (k3 : PySem.W.keepIn K (.ref f3) = true)
    (a4 : PySem.W.nsIn K mainGlobals "is_size" = some (some (.ref f4))) (l4 : K.lookup f4 = some ⟨oc4, od4, .func (PySem.W.fnOf "is_size" "is_size" (defArgs sSiz) (defBody sSiz) (defScope sSiz) .none kV4 dc4 pm4 an4 cd4 ct4), sl4⟩) (c4 : PySem.W.codeIn K cd4 "is_size" = true) (k4 : PySem.W.keepIn K (.ref f4) = true)
    (a5 : PySem.W.nsIn K mainGlobals "are_places" = some (some (.ref f5))) (l5 : K.lookup f5 = some ⟨oc5, od5, .func (PySem.W.fnOf "are_places" "are_places" (defArgs sPls) (defBody sPls) (defScope sPls) .none kV5 dc5 pm5 an5 cd5 ct5), sl5⟩) (c5 : PySem.W.codeIn K cd5 "are_places" = true) (k5 : PySem.W.keepIn K (.ref f5) = true)
    (a6 : PySem.W.nsIn K mainGlobals "are_hues" = some (some (.ref f6))) (l6 : K.lookup f6 = some ⟨oc6, od6, .func (PySem.W.fnOf "are_hues" "are_hues" (defArgs sHus) (defBody sHus) (defScope sHus) .none kV6 dc6 pm6 an6 cd6 ct6), sl6⟩) (c6 : PySem.W.codeIn K cd6 "are_hues" = true) (k6 : PySem.W.keepIn K (.ref f6) = true)
    (a7 : PySem.W.nsIn K mainGlobals "are_rows" = some (some (.ref f7))) (l7 : K.lookup f7 = some ⟨oc7, od7, .func (PySem.W.fnOf "are_rows" "are_rows" (defArgs sRws) (defBody sRws) (defScope sRws) .none kV7 dc7 pm7 an7 cd7 ct7), sl7⟩) (c7 : PySem.W.codeIn K cd7 "are_rows" = true) (k7 : PySem.W.keepIn K (.ref f7) = true)
    (a8 : PySem.W.nsIn K mainGlobals "is_wish" = some (some (.ref f8))) (l8 : K.lookup f8 = some ⟨oc8, od8, .func (PySem.W.fnOf "is_wish" "is_wish" (defArgs sWsh) (defBody sWsh) (defScope sWsh) .none kV8 dc8 pm8 an8 cd8 ct8), sl8⟩) (c8 : PySem.W.codeIn K cd8 "is_wish" = true) (k8 : PySem.W.keepIn K (.ref f8) = true)
    (a9 : PySem.W.nsIn K mainGlobals "is_riddle" = some (some (.ref f9))) (l9 : K.lookup f9 = some ⟨oc9, od9, .func (PySem.W.fnOf "is_riddle" "is_riddle" (defArgs sIrd) (defBody sIrd) (defScope sIrd) .none kV9 dc9 pm9 an9 cd9 ct9), sl9⟩) (c9 : PySem.W.codeIn K cd9 "is_riddle" = true) (k9 : PySem.W.keepIn K (.ref f9) = true)
    (a10 : PySem.W.nsIn K mainGlobals "hues_at" = some (some (.ref f10))) (l10 : K.lookup f10 = some ⟨oc10, od10, .func (PySem.W.fnOf "hues_at" "hues_at" (defArgs sHue) (defBody sHue) (defScope sHue) .none kV10 dc10 pm10 an10 cd10 ct10), sl10⟩) (c10 : PySem.W.codeIn K cd10 "hues_at" = true) (k10 : PySem.W.keepIn K (.ref f10) = true)
    (a11 : PySem.W.nsIn K mainGlobals "is_broken" = some (some (.ref f11))) (l11 : K.lookup f11 = some ⟨oc11, od11, .func (PySem.W.fnOf "is_broken" "is_broken" (defArgs sIsB) (defBody sIsB) (defScope sIsB) .none kV11 dc11 pm11 an11 cd11 ct11), sl11⟩) (c11 : PySem.W.codeIn K cd11 "is_broken" = true) (k11 : PySem.W.keepIn K (.ref f11) = true)
    (a12 : PySem.W.nsIn K mainGlobals "broken" = some (some (.ref f12))) (l12 : K.lookup f12 = some ⟨oc12, od12, .func (PySem.W.fnOf "broken" "broken" (defArgs sBro) (defBody sBro) (defScope sBro) .none kV12 dc12 pm12 an12 cd12 ct12), sl12⟩) (c12 : PySem.W.codeIn K cd12 "broken" = true) (k12 : PySem.W.keepIn K (.ref f12) = true)
    (a13 : PySem.W.nsIn K mainGlobals "all_fillings" = some (some (.ref f13))) (l13 : K.lookup f13 = some ⟨oc13, od13, .func (PySem.W.fnOf "all_fillings" "all_fillings" (defArgs sAlf) (defBody sAlf) (defScope sAlf) .none kV13 dc13 pm13 an13 cd13 ct13), sl13⟩) (c13 : PySem.W.codeIn K cd13 "all_fillings" = true) (k13 : PySem.W.keepIn K (.ref f13) = true)
    (a14 : PySem.W.nsIn K mainGlobals "counts" = some (some (.ref f14))) (l14 : K.lookup f14 = some ⟨oc14, od14, .func (PySem.W.fnOf "counts" "counts" (defArgs sCnt) (defBody sCnt) (defScope sCnt) .none kV14 dc14 pm14 an14 cd14 ct14), sl14⟩) (c14 : PySem.W.codeIn K cd14 "counts" = true) (k14 : PySem.W.keepIn K (.ref f14) = true)
    (a15 : PySem.W.nsIn K mainGlobals "clash" = some (some (.ref f15))) (l15 : K.lookup f15 = some ⟨oc15, od15, .func (PySem.W.fnOf "clash" "clash" (defArgs sCla) (defBody sCla) (defScope sCla) .none kV15 dc15 pm15 an15 cd15 ct15), sl15⟩) (c15 : PySem.W.codeIn K cd15 "clash" = true) (k15 : PySem.W.keepIn K (.ref f15) = true)
    (a16 : PySem.W.nsIn K mainGlobals "clashing" = some (some (.ref f16))) (l16 : K.lookup f16 = some ⟨oc16, od16, .func (PySem.W.fnOf "clashing" "clashing" (defArgs sCls) (defBody sCls) (defScope sCls) .none kV16 dc16 pm16 an16 cd16 ct16), sl16⟩) (c16 : PySem.W.codeIn K cd16 "clashing" = true) (k16 : PySem.W.keepIn K (.ref f16) = true)
    (a17 : PySem.W.nsIn K mainGlobals "_law_well" = some (some (.ref f17))) (l17 : K.lookup f17 = some ⟨oc17, od17, .func (PySem.W.fnOf "_law_well" "_law_well" (defArgs sWell) (defBody sWell) (defScope sWell) .none kV17 dc17 pm17 an17 cd17 ct17), sl17⟩) (c17 : PySem.W.codeIn K cd17 "_law_well" = true) (k17 : PySem.W.keepIn K (.ref f17) = true)
    (a18 : PySem.W.nsIn K mainGlobals "_law_draw" = some (some (.ref f18))) (l18 : K.lookup f18 = some ⟨oc18, od18, .func (PySem.W.fnOf "_law_draw" "_law_draw" (defArgs sDraw) (defBody sDraw) (defScope sDraw) .none kV18 dc18 pm18 an18 cd18 ct18), sl18⟩) (c18 : PySem.W.codeIn K cd18 "_law_draw" = true) (k18 : PySem.W.keepIn K (.ref f18) = true)
    (a19 : PySem.W.nsIn K mainGlobals "_law_fillings" = some (some (.ref f19))) (l19 : K.lookup f19 = some ⟨oc19, od19, .func (PySem.W.fnOf "_law_fillings" "_law_fillings" (defArgs sLfi) (defBody sLfi) (defScope sLfi) .none kV19 dc19 pm19 an19 cd19 ct19), sl19⟩) (c19 : PySem.W.codeIn K cd19 "_law_fillings" = true) (k19 : PySem.W.keepIn K (.ref f19) = true)
    (a20 : PySem.W.nsIn K mainGlobals "_law_broken" = some (some (.ref f20))) (l20 : K.lookup f20 = some ⟨oc20, od20, .func (PySem.W.fnOf "_law_broken" "_law_broken" (defArgs sLbr) (defBody sLbr) (defScope sLbr) .none kV20 dc20 pm20 an20 cd20 ct20), sl20⟩) (c20 : PySem.W.codeIn K cd20 "_law_broken" = true) (k20 : PySem.W.keepIn K (.ref f20) = true)
    (a21 : PySem.W.nsIn K mainGlobals "_law_great" = some (some (.ref f21))) (l21 : K.lookup f21 = some ⟨oc21, od21, .func (PySem.W.fnOf "_law_great" "_law_great" (defArgs sGrt) (defBody sGrt) (defScope sGrt) .none kV21 dc21 pm21 an21 cd21 ct21), sl21⟩) (c21 : PySem.W.codeIn K cd21 "_law_great" = true) (k21 : PySem.W.keepIn K (.ref f21) = true)
    (a22 : PySem.W.nsIn K mainGlobals "law" = some (some (.ref f22))) (l22 : K.lookup f22 = some ⟨oc22, od22, .func (PySem.W.fnOf "law" "law" (defArgs sLaw) (defBody sLaw) (defScope sLaw) .none kV22 dc22 pm22 an22 cd22 ct22), sl22⟩) (c22 : PySem.W.codeIn K cd22 "law" = true) (k22 : PySem.W.keepIn K (.ref f22) = true)
    (z_abs : PySem.W.nsIn K mainGlobals "abs" = some none)
    (z_range : PySem.W.nsIn K mainGlobals "range" = some none)
    (z_list : PySem.W.nsIn K mainGlobals "list" = some none)
    (z_len : PySem.W.nsIn K mainGlobals "len" = some none)
    (z_sorted : PySem.W.nsIn K mainGlobals "sorted" = some none)
    (z_tuple : PySem.W.nsIn K mainGlobals "tuple" = some none)
    (z_enumerate : PySem.W.nsIn K mainGlobals "enumerate" = some none)
    (z_repr : PySem.W.nsIn K mainGlobals "repr" = some none)
    (z_any : PySem.W.nsIn K mainGlobals "any" = some none)
    (z_all : PySem.W.nsIn K mainGlobals "all" = some none)
    (z_isinstance : PySem.W.nsIn K mainGlobals "isinstance" = some none)
    (z_int : PySem.W.nsIn K mainGlobals "int" = some none)
    (z_bool : PySem.W.nsIn K mainGlobals "bool" = some none)
    (q_MOST_PLACES : PySem.W.nsIn K mainGlobals "MOST_PLACES" = some (some (.int 6 tk_MOST_PLACES)))
    (q_LEAST_HUES : PySem.W.nsIn K mainGlobals "LEAST_HUES" = some (some (.int 2 tk_LEAST_HUES)))
    (q_MOST_HUES : PySem.W.nsIn K mainGlobals "MOST_HUES" = some (some (.int 4 tk_MOST_HUES)))
    (q_MOST_FILLINGS : PySem.W.nsIn K mainGlobals "MOST_FILLINGS" = some (some (.int 256 tk_MOST_FILLINGS)))
    (q_MOST_WISHES : PySem.W.nsIn K mainGlobals "MOST_WISHES" = some (some (.int 8 tk_MOST_WISHES)))
    (q_MOST_PLACES_OF_A_WISH : PySem.W.nsIn K mainGlobals "MOST_PLACES_OF_A_WISH" = some (some (.int 3 tk_MOST_PLACES_OF_A_WISH))) :
    ∃ fd : FuncData, Fun K "law" "law" sLaw fa fd ∧ (∀ (s : Shared) (v : Value), BindsTo s fd ⟨[v], []⟩ [("script", v)]) ∧ ∀ (base : Heap) (H : Hp) (cdv : Value) (a : Addr) (ns : List Int) (s : Shared), K.In base → base.Ns mainGlobals mg → (∀ y ∈ [("hues_at" : Str), ("clash" : Str), ("is_rising" : Str), ("are_places" : Str), ("are_hues" : Str), ("are_rows" : Str), ("is_riddle" : Str)], GxR.TabB base mg (tb y).1 (tb y).2) → (∀ y ∈ [("hues_at" : Str), ("clash" : Str), ("is_rising" : Str), ("are_places" : Str), ("are_hues" : Str), ("are_rows" : Str), ("is_riddle" : Str)], H (tb y).2 = some (.tbl #[])) → ns.length ≤ 63 → (∀ z ∈ ns, Builtin.Int.intBits z ≤ 1048576) → SqL K H a (ns.map V.int) → Room 8 (callerA.deeper (envOfC "law" (defScope sLaw) s.heap.objs.size fa cdv)) →
        ∃ t, PSs (cxOf CX0 l.prog w K mg base nLaw "law" (defScope sLaw) fa cdv callerA [] s H (fun _ _ _ => False)).nox (defBody sLaw) t ∧ t { nx := fun _ _ => False, rt := fun v _ => v = .bl true } (start nLaw [.ref a]) H := by
  have e := hfa.symm.trans (PySem.W.mg_of X G a22)
  cases e
  have F1 := fun_mk (st := sNum) l1 c1 k1
  have F2 := fun_mk (st := sRis) l2 c2 k2
  have F3 := fun_mk (st := sFno) l3 c3 k3
  have F4 := fun_mk (st := sSiz) l4 c4 k4
  have F5 := fun_mk (st := sPls) l5 c5 k5
  have F6 := fun_mk (st := sHus) l6 c6 k6
  have F7 := fun_mk (st := sRws) l7 c7 k7
  have F8 := fun_mk (st := sWsh) l8 c8 k8
  have F9 := fun_mk (st := sIrd) l9 c9 k9
  have F10 := fun_mk (st := sHue) l10 c10 k10
  have F11 := fun_mk (st := sIsB) l11 c11 k11
  have F12 := fun_mk (st := sBro) l12 c12 k12
  have F13 := fun_mk (st := sAlf) l13 c13 k13
  have F14 := fun_mk (st := sCnt) l14 c14 k14
  have F15 := fun_mk (st := sCla) l15 c15 k15
  have F16 := fun_mk (st := sCls) l16 c16 k16
  have F17 := fun_mk (st := sWell) l17 c17 k17
  have F18 := fun_mk (st := sDraw) l18 c18 k18
  have F19 := fun_mk (st := sLfi) l19 c19 k19
  have F20 := fun_mk (st := sLbr) l20 c20 k20
  have F21 := fun_mk (st := sGrt) l21 c21 k21
  have F22 := fun_mk (st := sLaw) l22 c22 k22
  have b1 := F1.binds (ps := ["thing", "low", "high"]) fun _ _ _ _ _ _ us hl => match us, hl with | [_, _, _], _ => rfl
  have b2 := F2.binds (ps := ["parts"]) fun _ _ _ _ _ _ us hl => match us, hl with | [_], _ => rfl
  have b3 := F3.binds (ps := ["many", "hues"]) fun _ _ _ _ _ _ us hl => match us, hl with | [_, _], _ => rfl
  have b4 := F4.binds (ps := ["many", "hues"]) fun _ _ _ _ _ _ us hl => match us, hl with | [_, _], _ => rfl
  have b5 := F5.binds (ps := ["thing", "many"]) fun _ _ _ _ _ _ us hl => match us, hl with | [_, _], _ => rfl
  have b6 := F6.binds (ps := ["thing", "length", "hues"]) fun _ _ _ _ _ _ us hl => match us, hl with | [_, _, _], _ => rfl
  have b7 := F7.binds (ps := ["thing", "length", "hues"]) fun _ _ _ _ _ _ us hl => match us, hl with | [_, _, _], _ => rfl
  have b8 := F8.binds (ps := ["thing", "many", "hues"]) fun _ _ _ _ _ _ us hl => match us, hl with | [_, _, _], _ => rfl
  have b9 := F9.binds (ps := ["thing"]) fun _ _ _ _ _ _ us hl => match us, hl with | [_], _ => rfl
  have b10 := F10.binds (ps := ["filling", "places"]) fun _ _ _ _ _ _ us hl => match us, hl with | [_, _], _ => rfl
  have b11 := F11.binds (ps := ["wish", "filling"]) fun _ _ _ _ _ _ us hl => match us, hl with | [_, _], _ => rfl
  have b12 := F12.binds (ps := ["riddle", "filling"]) fun _ _ _ _ _ _ us hl => match us, hl with | [_, _], _ => rfl
  have b13 := F13.binds (ps := ["many", "hues"]) fun _ _ _ _ _ _ us hl => match us, hl with | [_, _], _ => rfl
  have b14 := F14.binds (ps := ["riddle"]) fun _ _ _ _ _ _ us hl => match us, hl with | [_], _ => rfl
  have b15 := F15.binds (ps := ["one", "other"]) fun _ _ _ _ _ _ us hl => match us, hl with | [_, _], _ => rfl
  have b16 := F16.binds (ps := ["riddle"]) fun _ _ _ _ _ _ us hl => match us, hl with | [_], _ => rfl
  have b17 := F17.binds (ps := ["script"]) fun _ _ _ _ _ _ us hl => match us, hl with | [_], _ => rfl
  have b18 := F18.binds (ps := ["well", "many"]) fun _ _ _ _ _ _ us hl => match us, hl with | [_, _], _ => rfl
  have b19 := F19.binds (ps := ["riddle"]) fun _ _ _ _ _ _ us hl => match us, hl with | [_], _ => rfl
  have b20 := F20.binds (ps := ["riddle", "filling"]) fun _ _ _ _ _ _ us hl => match us, hl with | [_, _], _ => rfl
  have b21 := F21.binds (ps := ["well"]) fun _ _ _ _ _ _ us hl => match us, hl with | [_], _ => rfl
  have m_abs := PySem.W.mg_none_of X G z_abs
  have m_range := PySem.W.mg_none_of X G z_range
  have m_list := PySem.W.mg_none_of X G z_list
  have m_len := PySem.W.mg_none_of X G z_len
  have m_sorted := PySem.W.mg_none_of X G z_sorted
  have m_tuple := PySem.W.mg_none_of X G z_tuple
  have m_enumerate := PySem.W.mg_none_of X G z_enumerate
  have m_repr := PySem.W.mg_none_of X G z_repr
  have m_any := PySem.W.mg_none_of X G z_any
  have m_all := PySem.W.mg_none_of X G z_all
  have m_isinstance := PySem.W.mg_none_of X G z_isinstance
  have m_int := PySem.W.mg_none_of X G z_int
  have m_bool := PySem.W.mg_none_of X G z_bool
  have g1 := PySem.W.mg_of X G a1
  have g2 := PySem.W.mg_of X G a2
  have g3 := PySem.W.mg_of X G a3
  have g4 := PySem.W.mg_of X G a4
  have g5 := PySem.W.mg_of X G a5
  have g6 := PySem.W.mg_of X G a6
  have g7 := PySem.W.mg_of X G a7
  have g8 := PySem.W.mg_of X G a8
  have g9 := PySem.W.mg_of X G a9
  have g10 := PySem.W.mg_of X G a10
  have g11 := PySem.W.mg_of X G a11
  have g12 := PySem.W.mg_of X G a12
  have g13 := PySem.W.mg_of X G a13
  have g14 := PySem.W.mg_of X G a14
  have g15 := PySem.W.mg_of X G a15
  have g16 := PySem.W.mg_of X G a16
  have g17 := PySem.W.mg_of X G a17
  have g18 := PySem.W.mg_of X G a18
  have g19 := PySem.W.mg_of X G a19
  have g20 := PySem.W.mg_of X G a20
  have g21 := PySem.W.mg_of X G a21
  have g22 := PySem.W.mg_of X G a22
  have tc10 := (ht "hues_at" (by decide)).code X g10 l10
  cases tc10
  have tc15 := (ht "clash" (by decide)).code X g15 l15
  cases tc15
  have tc2 := (ht "is_rising" (by decide)).code X g2 l2
  cases tc2
  have tc5 := (ht "are_places" (by decide)).code X g5 l5
  cases tc5
  have tc6 := (ht "are_hues" (by decide)).code X g6 l6
  cases tc6
  have tc7 := (ht "are_rows" (by decide)).code X g7 l7
  cases tc7
  have tc9 := (ht "is_riddle" (by decide)).code X g9 l9
  cases tc9
  refine ⟨_, F22, fun s v => .of_eq rfl, fun base H cdv a ns s kb gb tB tH hl hb hS hrm => ?_⟩
  have TB10 := tB "hues_at" (by decide)
  have TH10 := tH "hues_at" (by decide)
  have TB15 := tB "clash" (by decide)
  have TH15 := tH "clash" (by decide)
  have TB2 := tB "is_rising" (by decide)
  have TH2 := tH "is_rising" (by decide)
  have TB5 := tB "are_places" (by decide)
  have TH5 := tH "are_places" (by decide)
  have TB6 := tB "are_hues" (by decide)
  have TH6 := tH "are_hues" (by decide)
  have TB7 := tB "are_rows" (by decide)
  have TH7 := tH "are_rows" (by decide)
  have TB9 := tB "is_riddle" (by decide)
  have TH9 := tH "is_riddle" (by decide)
  have TN : TxtN mg := { m_isinstance := m_isinstance, m_int := m_int, m_bool := m_bool, m_tuple := m_tuple, m_len := m_len, m_all := m_all, m_range := m_range, g_MOST_PLACES := ⟨_, PySem.W.mg_of X G q_MOST_PLACES, ⟨_, rfl⟩⟩, g_LEAST_HUES := ⟨_, PySem.W.mg_of X G q_LEAST_HUES, ⟨_, rfl⟩⟩, g_MOST_HUES := ⟨_, PySem.W.mg_of X G q_MOST_HUES, ⟨_, rfl⟩⟩, g_MOST_FILLINGS := ⟨_, PySem.W.mg_of X G q_MOST_FILLINGS, ⟨_, rfl⟩⟩, g_MOST_WISHES := ⟨_, PySem.W.mg_of X G q_MOST_WISHES, ⟨_, rfl⟩⟩, g_MOST_PLACES_OF_A_WISH := ⟨_, PySem.W.mg_of X G q_MOST_PLACES_OF_A_WISH, ⟨_, rfl⟩⟩ }
  have C1 : Cal l.prog w K mg base 1 "is_number" ["thing", "low", "high"] spNum := ⟨_, _, ok_num (k := 0) F1 TN, g1, k1, b1⟩
  have C3 : Cal l.prog w K mg base 1 "fillings_number" ["many", "hues"] spFno := ⟨_, _, ok_fno (k := 0) F3 TN, g3, k3, b3⟩
  have TN1 : TxtN1 l.prog w K mg base := { toTxtN := TN, c_is_number := C1, c_fillings_number := C3 }
  have C4 : Cal l.prog w K mg base 2 "is_size" ["many", "hues"] spSiz := ⟨_, _, ok_siz (k := 0) F4 TN1, g4, k4, b4⟩
  have C2 : Cal l.prog w K mg base 2 "is_rising" ["parts"] (spRis [(tb "is_rising").2, (tb "are_places").2, (tb "are_hues").2, (tb "are_rows").2, (tb "is_riddle").2]) := ⟨_, _, ok_ris (k := 0) ⟨⟨_, _, _, _, _, _, _, _, rfl, l2, c2⟩⟩ TB2 (by simp) TN, g2, k2, b2⟩
  have TN2 : TxtN2 l.prog w K mg base [(tb "is_rising").2, (tb "are_places").2, (tb "are_hues").2, (tb "are_rows").2, (tb "is_riddle").2] := { toTxtN1 := TN1, c_is_rising := C2 }
  have C5 : Cal l.prog w K mg base 3 "are_places" ["thing", "many"] (spPls [(tb "is_rising").2, (tb "are_places").2, (tb "are_hues").2, (tb "are_rows").2, (tb "is_riddle").2]) := ⟨_, _, ok_pls (k := 0) ⟨⟨_, _, _, _, _, _, _, _, rfl, l5, c5⟩⟩ TB5 (by simp) TN2, g5, k5, b5⟩
  have C6 : Cal l.prog w K mg base 3 "are_hues" ["thing", "length", "hues"] (spHus [(tb "is_rising").2, (tb "are_places").2, (tb "are_hues").2, (tb "are_rows").2, (tb "is_riddle").2]) := ⟨_, _, ok_hus (k := 0) ⟨⟨_, _, _, _, _, _, _, _, rfl, l6, c6⟩⟩ TB6 (by simp) TN2, g6, k6, b6⟩
  have TN3 : TxtN3 l.prog w K mg base [(tb "is_rising").2, (tb "are_places").2, (tb "are_hues").2, (tb "are_rows").2, (tb "is_riddle").2] := { toTxtN2 := TN2, c_are_hues := C6 }
  have C7 : Cal l.prog w K mg base 5 "are_rows" ["thing", "length", "hues"] (spRws [(tb "is_rising").2, (tb "are_places").2, (tb "are_hues").2, (tb "are_rows").2, (tb "is_riddle").2]) := ⟨_, _, ok_rws (k := 0) ⟨⟨_, _, _, _, _, _, _, _, rfl, l7, c7⟩⟩ TB7 (by simp) TN3, g7, k7, b7⟩
  have TN4 : TxtN4 l.prog w K mg base [(tb "is_rising").2, (tb "are_places").2, (tb "are_hues").2, (tb "are_rows").2, (tb "is_riddle").2] := { toTxtN := TN, c_are_places := C5, c_are_rows := C7 }
  have C8 : Cal l.prog w K mg base 6 "is_wish" ["thing", "many", "hues"] (spWsh [(tb "is_rising").2, (tb "are_places").2, (tb "are_hues").2, (tb "are_rows").2, (tb "is_riddle").2]) := ⟨_, _, ok_wsh (k := 0) F8 TN4, g8, k8, b8⟩
  have TN5 : TxtN5 l.prog w K mg base [(tb "is_rising").2, (tb "are_places").2, (tb "are_hues").2, (tb "are_rows").2, (tb "is_riddle").2] := { toTxtN := TN, c_is_size := C4, c_is_wish := C8 }
  have C9 : Cal l.prog w K mg base 8 "is_riddle" ["thing"] (spIrd [(tb "is_rising").2, (tb "are_places").2, (tb "are_hues").2, (tb "are_rows").2, (tb "is_riddle").2]) := ⟨_, _, ok_ird (k := 0) ⟨⟨_, _, _, _, _, _, _, _, rfl, l9, c9⟩⟩ TB9 (by simp) TN5, g9, k9, b9⟩
  have C10 : Cal l.prog w K mg base 1 "hues_at" ["filling", "places"] (spHues (tb "hues_at").2) := ⟨_, _, ok_hues (k := 0) ⟨⟨_, _, _, _, _, _, _, _, rfl, l10, c10⟩⟩ TB10 m_tuple, g10, k10, b10⟩
  have C11 : Cal l.prog w K mg base 2 "is_broken" ["wish", "filling"] (spIsB (tb "hues_at").2) := ⟨_, _, ok_isB (k := 0) F11 C10, g11, k11, b11⟩
  have C12 : Cal l.prog w K mg base 3 "broken" ["riddle", "filling"] (spBro (tb "hues_at").2) := ⟨_, _, ok_bro (k := 0) F12 m_enumerate C11, g12, k12, b12⟩
  have C13 : Cal l.prog w K mg base 1 "all_fillings" ["many", "hues"] spAlf := ⟨_, _, ok_alf (k := 0) F13 { m_range := m_range }, g13, k13, b13⟩
  have C14 : Cal l.prog w K mg base 4 "counts" ["riddle"] (spCnt (tb "hues_at").2) := ⟨_, _, ok_cnt (k := 0) F14 { m_len := m_len, c_all_fillings := C13, c_broken := C12 }, g14, k14, b14⟩
  have C15 : Cal l.prog w K mg base 1 "clash" ["one", "other"] (spCla (tb "clash").2) := ⟨_, _, ok_cla (k := 0) ⟨⟨_, _, _, _, _, _, _, _, rfl, l15, c15⟩⟩ TB15 m_any, g15, k15, b15⟩
  have C16 : Cal l.prog w K mg base 2 "clashing" ["riddle"] (spCls (tb "clash").2) := ⟨_, _, ok_cls (k := 0) F16 { m_enumerate := m_enumerate, c_clash := C15 }, g16, k16, b16⟩
  have C17 : Cal l.prog w K mg base 1 "_law_well" ["script"] (spWell K) := ⟨_, _, ok_well (k := 0) F17 m_abs, g17, k17, b17⟩
  have C18 : Cal l.prog w K mg base 1 "_law_draw" ["well", "many"] spDraw := ⟨_, _, ok_draw (k := 0) F18, g18, k18, b18⟩
  have C19 : Cal l.prog w K mg base 1 "_law_fillings" ["riddle"] spLfi := ⟨_, _, ok_lfi (k := 0) F19 { m_range := m_range, m_len := m_len }, g19, k19, b19⟩
  have C20 : Cal l.prog w K mg base 1 "_law_broken" ["riddle", "filling"] spLbr := ⟨_, _, ok_lbr (k := 0) F20 m_enumerate m_tuple, g20, k20, b20⟩
  have C21 : Cal l.prog w K mg base 2 "_law_great" ["well"] spGrt := ⟨_, _, ok_grt (k := 0) F21 { m_range := m_range, m_list := m_list, m_len := m_len, m_sorted := m_sorted, m_tuple := m_tuple, c__law_draw := C18, c__law_fillings := C19 }, g21, k21, b21⟩
  have hPs : ∀ P ∈ [(tb "is_rising").2, (tb "are_places").2, (tb "are_hues").2, (tb "are_rows").2, (tb "is_riddle").2], H P = some (.tbl #[]) := fun P hP => by
    simp only [List.mem_cons, List.not_mem_nil, or_false] at hP
    rcases hP with rfl | rfl | rfl | rfl | rfl
    · exact TH2
    · exact TH5
    · exact TH6
    · exact TH7
    · exact TH9
  exact body_law (Ps := [(tb "is_rising").2, (tb "are_places").2, (tb "are_hues").2, (tb "are_rows").2, (tb "is_riddle").2]) { m_range := m_range, m_repr := m_repr, m_len := m_len, m_tuple := m_tuple, c__law_well := C17, c__law_draw := C18, c__law_great := C21, c__law_fillings := C19, c__law_broken := C20, c_broken := C12, c_counts := C14, c_clashing := C16, c_is_riddle := C9 } hl hb TH10 TH15 hPs hS hrm
end Rd

set_option Elab.async false
set_option linter.all false
set_option maxRecDepth 100000
set_option maxHeartbeats 4000000
open PySem PySem.W PyProof.Rows
set_option maxHeartbeats 0 in
theorem PySem.Challenge.cw_redraw_k07_greatest_riddles_holds : PySem.Challenge.rw_redraw_k07_greatest_riddles.Holds := by
  w_on; o_law; k_head; (case hw => w_witness2)
  k_fill
  refine Lg.walk_of (l := PySem.Challenge.rw_redraw_k07_greatest_riddles) (n := 63) (k := 8) (x := "law") (qual := "law") (par := "script") (st := Rd.sLaw) (N := Rd.nLaw) ["hues_at", "clash", "is_rising", "are_places", "are_hues", "are_rows", "is_riddle"] rfl (by decide) rfl ⟨rfl, by decide, by decide⟩ (by rfl) ?hK (fun w h Y => PySem.W.kIn_of Y) Rd.scLaw ?F
  case hK => intro w; kernel_rfl
  case F =>
    intro w mg fa h tb KX G hmg ht
    refine' Rd.all_mk KX G hmg ht ?a1 ?l1 ?c1 ?k1 ?a2 ?l2 ?c2 ?k2 ?a3 ?l3 ?c3 ?k3 ?a4 ?l4 ?c4 ?k4 ?a5 ?l5 ?c5 ?k5 ?a6 ?l6 ?c6 ?k6 ?a7 ?l7 ?c7 ?k7 ?a8 ?l8 ?c8 ?k8 ?a9 ?l9 ?c9 ?k9 ?a10 ?l10 ?c10 ?k10 ?a11 ?l11 ?c11 ?k11 ?a12 ?l12 ?c12 ?k12 ?a13 ?l13 ?c13 ?k13 ?a14 ?l14 ?c14 ?k14 ?a15 ?l15 ?c15 ?k15 ?a16 ?l16 ?c16 ?k16 ?a17 ?l17 ?c17 ?k17 ?a18 ?l18 ?c18 ?k18 ?a19 ?l19 ?c19 ?k19 ?a20 ?l20 ?c20 ?k20 ?a21 ?l21 ?c21 ?k21 ?a22 ?l22 ?c22 ?k22 ?z_abs ?z_range ?z_list ?z_len ?z_sorted ?z_tuple ?z_enumerate ?z_repr ?z_any ?z_all ?z_isinstance ?z_int ?z_bool ?q_MOST_PLACES ?q_LEAST_HUES ?q_MOST_HUES ?q_MOST_FILLINGS ?q_MOST_WISHES ?q_MOST_PLACES_OF_A_WISH
    (case a1 => k_is); (case l1 => k_is); (case c1 => k_is); (case k1 => k_is); (case a2 => k_is); (case l2 => k_is); (case c2 => k_is); (case k2 => k_is); (case a3 => k_is); (case l3 => k_is); (case c3 => k_is); (case k3 => k_is); (case a4 => k_is); (case l4 => k_is); (case c4 => k_is); (case k4 => k_is); (case a5 => k_is); (case l5 => k_is); (case c5 => k_is); (case k5 => k_is); (case a6 => k_is); (case l6 => k_is); (case c6 => k_is); (case k6 => k_is); (case a7 => k_is); (case l7 => k_is); (case c7 => k_is); (case k7 => k_is); (case a8 => k_is); (case l8 => k_is); (case c8 => k_is); (case k8 => k_is); (case a9 => k_is); (case l9 => k_is); (case c9 => k_is); (case k9 => k_is); (case a10 => k_is); (case l10 => k_is); (case c10 => k_is); (case k10 => k_is); (case a11 => k_is); (case l11 => k_is); (case c11 => k_is); (case k11 => k_is); (case a12 => k_is); (case l12 => k_is); (case c12 => k_is); (case k12 => k_is); (case a13 => k_is); (case l13 => k_is); (case c13 => k_is); (case k13 => k_is); (case a14 => k_is); (case l14 => k_is); (case c14 => k_is); (case k14 => k_is); (case a15 => k_is); (case l15 => k_is); (case c15 => k_is); (case k15 => k_is); (case a16 => k_is); (case l16 => k_is); (case c16 => k_is); (case k16 => k_is); (case a17 => k_is); (case l17 => k_is); (case c17 => k_is); (case k17 => k_is); (case a18 => k_is); (case l18 => k_is); (case c18 => k_is); (case k18 => k_is); (case a19 => k_is); (case l19 => k_is); (case c19 => k_is); (case k19 => k_is); (case a20 => k_is); (case l20 => k_is); (case c20 => k_is); (case k20 => k_is); (case a21 => k_is); (case l21 => k_is); (case c21 => k_is); (case k21 => k_is); (case a22 => k_is); (case l22 => k_is); (case c22 => k_is); (case k22 => k_is); (case z_abs => k_is); (case z_range => k_is); (case z_list => k_is); (case z_len => k_is); (case z_sorted => k_is); (case z_tuple => k_is); (case z_enumerate => k_is); (case z_repr => k_is); (case z_any => k_is); (case z_all => k_is); (case z_isinstance => k_is); (case z_int => k_is); (case z_bool => k_is); (case q_MOST_PLACES => k_is); (case q_LEAST_HUES => k_is); (case q_MOST_HUES => k_is); (case q_MOST_FILLINGS => k_is); (case q_MOST_WISHES => k_is); (case q_MOST_PLACES_OF_A_WISH => k_is)
