import PyProof.Rows.All
import Wide.All
import OpenK.AllK
import Wide.FinOn
import PyProof.EqAt
import PyProof.EqKinds
import PyProof.TupleCall
import KE.GoesEnum
import HandS.Base
import HandS.Call
import HandS.List
import HandS.Comp
import HandS.Iter
import HandS.Evl
import HandS.Words
import HandS.Conv
import HandS.TupAny
import HandS.TupMul
import HandS.IsInst
import HandS.Wide
import HandS.RevRange
import HandS.SortInts
import PyProof.IsRules
import HandS.OwnEq
import HandS.More
import PyProof.InstNe
import PySem.Challenge.RW_rampworks_k21_whole_trimmed_networks
set_option Elab.async false
set_option linter.all false
set_option maxRecDepth 100000
set_option maxHeartbeats 4000000
namespace RW
open PySem PySem.Spec PyProof.Rows L2

/-- a sequence at a: a list (true), a tuple (false) -/
def Sq (K : PySem.W.Frag) (k : Bool) (H : Hp) (a : Addr) (xs : List V) : Prop := match k with
  | true => SqL K H a xs
  | false => SqT K H a xs
def itAt (k : Bool) (h : Heap) (it a : Addr) (i : Nat) : Prop := match k with
  | true => h.IsListIter it a i
  | false => h.IsTupleIter it a i
def seqAt (k : Bool) (h : Heap) (a : Addr) (its : Array Value) : Prop := match k with
  | true => h.IsList a its
  | false => h.IsTuple a its
def itObj (k : Bool) (a : Addr) : Obj := match k with
  | true => { cls := .type "list_iterator", data := .fields #[.ref a, .int 0 0] }
  | false => { cls := .type "tuple_iterator", data := .fields #[.ref a, .int 0 0] }
theorem itAt.there {k : Bool} {h : Heap} {it a : Addr} {i : Nat} (x : itAt k h it a i) : ∃ o, h.get? it = some o ∧ ∀ v, o.data ≠ .cell v := by
  cases k with
  | true => obtain ⟨o, e, c, d⟩ := x; exact ⟨o, e, fun v z => by rw [d] at z; cases z⟩
  | false => obtain ⟨o, e, c, d⟩ := x; exact ⟨o, e, fun v z => by rw [d] at z; cases z⟩
theorem itAt.at {k : Bool} {h h' : Heap} {it a : Addr} {i : Nat} (x : itAt k h it a i) (s : ∀ o, h.get? it = some o → h'.get? it = some o) : itAt k h' it a i := by
  cases k with
  | true => exact Heap.IsListIter.at x s
  | false => exact Heap.IsTupleIter.at x s
theorem draws_k {prog : Program} {w : World} {A : Around} (hh : A.handled = none) (k : Bool) (it t : Addr) (hne : t ≠ it) (items : Array Value) :
    Draws prog w A it [it, t] items.size (fun i v => items[i]? = some v) (fun i h => itAt k h it t i ∧ seqAt k h t items) := by
  cases k with
  | true => exact Draws.list hh it t hne items
  | false => exact Draws.tuple hh it t hne items
theorem begins_k (k : Bool) (t : Addr) (items : Array Value) : Begins (.ref t) (itObj k t) fun h => seqAt k h t items := by
  cases k with
  | true => exact begins_list t items
  | false => exact begins_tuple t items
theorem itAt_new {k : Bool} {h : Heap} {it a : Addr} (e : h.get? it = some (itObj k a)) : itAt k h it a 0 := by
  cases k with
  | true => exact ⟨_, e, rfl, rfl⟩
  | false => exact ⟨_, e, rfl, rfl⟩
section
variable {X : Cx} {pins : List (Addr × Obj)} {σ : L2.St} {H : Hp} {s : Shared} {k : Bool} {a : Addr} {xs ys : List V}
theorem inv_seq (I : Inv X pins σ H s) (h : Sq X.K k H a xs) : ∃ its : List Value, Vals xs its ∧ seqAt k s.heap a its.toArray := by
  cases k with
  | true =>
    obtain ⟨its, rv, p, _⟩ := I.list h
    exact ⟨its, rv, p.isList⟩
  | false =>
    obtain ⟨its, rv, p, _⟩ := I.tuple h
    exact ⟨its, rv, p⟩
theorem inv_inj (I : Inv X pins σ H s) (h : Sq X.K k H a xs) (h' : Sq X.K k H a ys) : xs = ys := by
  cases k with
  | true => exact I.list_inj h h'
  | false => exact I.tuple_inj h h'
theorem seqAt.lt {k : Bool} {h : Heap} {a : Addr} {its : Array Value} (x : seqAt k h a its) : a < h.objs.size := by
  cases k with
  | true => obtain ⟨o, e, _⟩ := x; exact Heap.lt_size e
  | false => obtain ⟨o, e, _⟩ := x; exact Heap.lt_size e
end

/-! ### a list or a tuple, walked -/
def ItS (K : PySem.W.Frag) (k : Bool) (a : Addr) : It := match k with
  | true => Itl K a
  | false => Itt K a
def iSeq (K : PySem.W.Frag) (tl : TE) : TI := fun σ H R => tl σ H fun x H1 => ∃ a k, x = .ref a ∧ (∃ xs, Sq K k H1 a xs) ∧ R (ItS K k a) H1
theorem pi_seq {X : Cx} {tg l : Expr} {tl : TE} (hl : PE X l tl) : PI X tg l (iSeq X.K tl) := by
  refine ⟨fun pins s σ H R I h => ?_⟩
  refine thn (hl.run pins s σ H _ I h) fun v s1 ⟨x, H1, I1, r1, q1⟩ => ?_
  obtain ⟨a, k, e, ⟨xs, hq⟩, q⟩ := q1
  subst e
  cases r1
  obtain ⟨its, rv, p⟩ := inv_seq I1 hq
  cases k with
  | true =>
    refine wpAny_pyIter_list p ?_
    refine ⟨s1.heap.objs.size, [s1.heap.objs.size], _, _, H1, rfl, I1.kept (t' := s1.toks) fun b o e => Heap.get?_push_of_some _ e, turn_list a _, ⟨_, Heap.get?_push_size _ rfl, rfl, rfl⟩, fun b hb => ?_, q⟩
    have e : b = s1.heap.objs.size := by simpa using hb
    subst e
    exact I1.fpOk (Nat.le_refl _) (I1.hok.fresh (Nat.le_refl _))
  | false =>
    refine wpAny_pyIter_tuple p ?_
    refine ⟨s1.heap.objs.size, [s1.heap.objs.size], _, _, H1, rfl, I1.kept (t' := s1.toks) fun b o e => Heap.get?_push_of_some _ e, turn_tuple a _, ⟨_, Heap.get?_push_size _ rfl, rfl, rfl⟩, fun b hb => ?_, q⟩
    have e : b = s1.heap.objs.size := by simpa using hb
    subst e
    exact I1.fpOk (Nat.le_refl _) (I1.hok.fresh (Nat.le_refl _))

/-! ### zip of two sequences -/
def ItzG (K : PySem.W.Frag) (k1 k2 : Bool) (a b : Addr) : It :=
  ⟨fun i H => ∃ (xs ys : List V) (x y : V), Sq K k1 H a xs ∧ Sq K k2 H b ys ∧ xs[i]? = some x ∧ ys[i]? = some y,
    fun i H v H' => ∃ T x y, v = .ref T ∧ H T = none ∧ H' = upd H T (.tup [x, y]) ∧ (∀ xs, Sq K k1 H a xs → xs[i]? = some x) ∧ ∀ ys, Sq K k2 H b ys → ys[i]? = some y,
    fun i H => ∃ xs ys : List V, Sq K k1 H a xs ∧ Sq K k2 H b ys ∧ i ≤ xs.length ∧ i ≤ ys.length ∧ (xs.length ≤ i ∨ ys.length ≤ i)⟩
theorem turn_zipG {P : Program} {w : World} {K : PySem.W.Frag} {elts : List Expr} {kk : Nat} {tpos : Pos} {k1 k2 : Bool} {a b z TI TO i1 i2 : Addr} (D : ZipSep2 z TI TO i1 i2 [i1, a] [i2, b]) (n1 : a ≠ i1) (n2 : b ≠ i2) :
    Turn P w K (.Tuple elts kk tpos) (ItzG K k1 k2 a b) [z, TI, TO, i1, i2] z (fun i h => IsZip h z TI TO .none ∧ IsTupOf2 h TI (.ref i1) (.ref i2) ∧ (∃ x y, IsTupOf2 h TO x y) ∧ itAt k1 h i1 a i ∧ itAt k2 h i2 b i) where
  mem := by simp
  obj := fun i h st c hc => by
    obtain ⟨hz, hTI, ⟨x, y, hTO⟩, h1, h2⟩ := st
    have e' : c = z ∨ c = TI ∨ c = TO ∨ c = i1 ∨ c = i2 := by simpa using hc
    rcases e' with q | q | q | q | q
    · rw [q]; exact ⟨_, hz, fun v q => nomatch q⟩
    · rw [q]; exact ⟨_, hTI, fun v q => nomatch q⟩
    · rw [q]; exact ⟨_, hTO, fun v q => nomatch q⟩
    · rw [q]; exact h1.there
    · rw [q]; exact h2.there
  keep := fun i h h' st k => by
    obtain ⟨hz, hTI, ⟨x, y, hTO⟩, h1, h2⟩ := st
    exact ⟨k z (by simp) _ hz, k TI (by simp) _ hTI, ⟨x, y, k TO (by simp) _ hTO⟩, h1.at fun o q => k i1 (by simp) o q, h2.at fun o q => k i2 (by simp) o q⟩
  item := by
    intro X hP hw hK hc i pins s σ H E I hf st hg
    subst hP hw hK
    obtain ⟨hz, hTI, ⟨x0, y0, hTO⟩, h1, h2⟩ := st
    obtain ⟨xs, ys, x, y, hqx, hqy, hx, hy⟩ := hg
    obtain ⟨its, rv, p⟩ := inv_seq I hqx
    obtain ⟨its2, rv2, p2⟩ := inv_seq I hqy
    obtain ⟨u, hu, ru⟩ := rv.get hx
    obtain ⟨u2, hu2, ru2⟩ := rv2.get hy
    have hzl : z < s.heap.objs.size := Heap.lt_size hz
    have hh : X.A.in1.handled = none := I.ok.hd hc
    have l1 : i < its.toArray.size := by
      have := (List.getElem?_eq_some_iff.mp hu).1
      simpa using this
    have l2 : i < its2.toArray.size := by
      have := (List.getElem?_eq_some_iff.mp hu2).1
      simpa using this
    refine wpAny_pyNext_zipD2_item D (draws_k hh k1 i1 a n1 its.toArray) (draws_k hh k2 i2 b n2 its2.toArray) hz hTI hTO ⟨h1, p⟩ ⟨h2, p2⟩ l1 l2 fun v1 v2 h' tk e1 e2 z' TO' h1' h2' hT hsz hk => ?_
    have e1' : v1 = u := by
      have q : its[i]? = some v1 := by simpa using e1
      rw [hu] at q
      exact (Option.some.inj q).symm
    have e2' : v2 = u2 := by
      have q : its2[i]? = some v2 := by simpa using e2
      rw [hu2] at q
      exact (Option.some.inj q).symm
    subst e1' e2'
    refine ⟨_, rfl, wpAny_letOwnedTupleGo_zip (s := { s with heap := h', toks := tk }) z' fun h'' z'' sb => ?_⟩
    have hT2 : h''.get? s.heap.objs.size = some { cls := .type "tuple", data := .seq #[v1, v2] } := (sb.2 _ (Nat.ne_of_gt hzl)).trans hT
    have new : ObjOk X.prog X.w (upd H s.heap.objs.size (.tup [x, y])) h'' s.heap.objs.size (.tup [x, y]) :=
      ⟨by show 2 ≤ sizeLine; decide, [v1, v2], .cons ru (.cons ru2 .nil), ⟨_, hT2, rfl, _, rfl⟩⟩
    have I1 : Inv X pins σ (upd H s.heap.objs.size (.tup [x, y])) { s with heap := h'', toks := tk } :=
      I.turnedNew (t' := tk) (ch := [z, TI, TO, i1, i2]) (fun c o hb q => (sb.2 c (fun q' => hb (by simp [q']))).trans (hk c o (fun q' => hb (by simp [q'])) (fun q' => hb (by simp [q'])) (fun q' => hb (by simp [q'])) (fun q' => hb (by simp [q'])) q)) hf (Nat.le_refl _) new
    refine ⟨.ref s.heap.objs.size, _, I1, rfl, ⟨_, x, y, rfl, I.hok.fresh (Nat.le_refl _), rfl, fun l hl => by rw [inv_inj I hl hqx]; exact hx, fun l hl => by rw [inv_inj I hl hqy]; exact hy⟩, ⟨z'', ?_, ⟨v1, v2, ?_⟩, ?_, ?_⟩, fun c hcm => ?_⟩
    · exact (sb.2 _ D.TIz).trans (hk _ _ D.TIz D.TITO D.TIi1 D.TIi2 hTI)
    · exact (sb.2 _ D.TOz).trans TO'
    · exact h1'.1.at fun o q => (sb.2 _ (Ne.symm D.zi1)).trans q
    · exact h2'.1.at fun o q => (sb.2 _ (Ne.symm D.zi2)).trans q
    · have hlt : c < s.heap.objs.size := by
        have e' : c = z ∨ c = TI ∨ c = TO ∨ c = i1 ∨ c = i2 := by simpa using hcm
        rcases e' with q | q | q | q | q
        · rw [q]; exact hzl
        · rw [q]; exact Heap.lt_size hTI
        · rw [q]; exact Heap.lt_size hTO
        · rw [q]; obtain ⟨_, e1, _⟩ := h1.there; exact Heap.lt_size e1
        · rw [q]; obtain ⟨_, e2, _⟩ := h2.there; exact Heap.lt_size e2
      rw [upd_ne (Nat.ne_of_lt hlt)]
      exact (hf c hcm).1
  done := by
    intro X hP hw hK hc i pins s σ H E I hf st hg
    subst hP hw hK
    obtain ⟨hz, hTI, ⟨x0, y0, hTO⟩, h1, h2⟩ := st
    obtain ⟨xs, ys, hqx, hqy, le1, le2, hend⟩ := hg
    obtain ⟨its, rv, p⟩ := inv_seq I hqx
    obtain ⟨its2, rv2, p2⟩ := inv_seq I hqy
    have l1 := rv.length
    have l2 := rv2.length
    have hh : X.A.in1.handled = none := I.ok.hd hc
    exact wpAny_pyNext_zipD2_end D (draws_k hh k1 i1 a n1 its.toArray) (draws_k hh k2 i2 b n2 its2.toArray) hz hTI hTO ⟨h1, p⟩ ⟨h2, p2⟩ (by simp; omega) (by simp; omega) (by simp; omega) fun h' tk hk => ⟨rfl, I.turnedL (t' := tk) (ch := [z, TI, TO, i1, i2]) (fun c o hb q =>
      hk c o (fun q' => hb (by simp [q'])) (fun q' => hb (by simp [q'])) (fun q' => hb (by simp [q'])) (fun q' => hb (by simp [q'])) q) hf⟩
  self := fun A i s Q E st h => wpAny_pyIter_zip st.1 h

def iZipG (K : PySem.W.Frag) (ta : TA) : TI := fun σ H R => ta σ H fun vs H1 => ∃ a b k1 k2 xs ys, vs = [.ref a, .ref b] ∧ Sq K k1 H1 a xs ∧ Sq K k2 H1 b ys ∧ R (ItzG K k1 k2 a b) H1
theorem pi_zipG {X : Cx} {e e2 : Expr} {ta : TA} {p pos tpos : Pos} {elts : List Expr} {kk : Nat} (hg : Gl X "zip") (hm : X.mg "zip" = none) (ha : PA X [e, e2] ta)
    (hs : starEach [e, e2] X.env = (false, eval e X.env) :: starEach [e2] X.env := by rfl) (hpl : (backTo pos (starEach [e2] X.env)).any (·.1) = false := by rfl) :
    PI X (.Tuple elts kk tpos) (.Call (.Name "zip" p) [e, e2] [] pos) (iZipG X.K ta) := by
  refine ⟨fun pins s σ H R I h => ?_⟩
  refine Call_ (ld_blt I hg hm PyProof.Rows.boot_zip (PyProof.Rows.callWith_type1 (thn (ha.run pos pins s σ H _ I h) fun us s1 ⟨vs, H1, I1, r1, q1⟩ => ?_) hs hpl))
  obtain ⟨a, b, k1, k2, xs, ys, ex, hqx, hqy, q⟩ := q1
  subst ex
  cases r1 with
  | cons r rr =>
    cases rr with
    | cons r' rr =>
      cases rr
      cases r
      cases r'
      have fresh5 : ∀ c, c ∈ [s1.heap.objs.size + 4, s1.heap.objs.size + 2, s1.heap.objs.size + 3, s1.heap.objs.size, s1.heap.objs.size + 1] → FpOk X pins H1 c := fun c hcm => by
        have e' : c = s1.heap.objs.size + 4 ∨ c = s1.heap.objs.size + 2 ∨ c = s1.heap.objs.size + 3 ∨ c = s1.heap.objs.size ∨ c = s1.heap.objs.size + 1 := by simpa using hcm
        have hle : s1.heap.objs.size ≤ c := by
          rcases e' with z | z | z | z | z
          · rw [z]; exact Nat.le_add_right _ _
          · rw [z]; exact Nat.le_add_right _ _
          · rw [z]; exact Nat.le_add_right _ _
          · rw [z]; exact Nat.le_refl _
          · rw [z]; exact Nat.le_add_right _ _
        exact I1.fpOk hle (I1.hok.fresh hle)
      obtain ⟨its, rv, p1⟩ := inv_seq I1 hqx
      obtain ⟨its2, rv2, p2⟩ := inv_seq I1 hqy
      have ha1 := p1.lt
      have ha2 := p2.lt
      refine zip_begins2 (begins_k k1 a its.toArray) (begins_k k2 b its2.toArray) p1 p2 fun h' hz hTI hTO h1 h2 hsz hk => wpAny_pyIter_zip hz ?_
      have I2 : Inv X pins σ H1 { s1 with heap := h' } := I1.kept (t' := s1.toks) hk
      have S : ZipSep2 (s1.heap.objs.size + 4) (s1.heap.objs.size + 2) (s1.heap.objs.size + 3) s1.heap.objs.size (s1.heap.objs.size + 1) [s1.heap.objs.size, a] [s1.heap.objs.size + 1, b] :=
        zip_sep2 (fp1 := [a]) (fp2 := [b]) (fun c hc => by rw [List.mem_singleton.mp hc]; exact ha1) (fun c hc => by rw [List.mem_singleton.mp hc]; exact ha2)
      exact ⟨s1.heap.objs.size + 4, [s1.heap.objs.size + 4, s1.heap.objs.size + 2, s1.heap.objs.size + 3, s1.heap.objs.size, s1.heap.objs.size + 1], _, _, H1, rfl, I2, turn_zipG S (Nat.ne_of_lt ha1) (Nat.ne_of_lt (Nat.lt_succ_of_lt ha2)), ⟨hz, hTI, ⟨_, _, hTO⟩, itAt_new h1, itAt_new h2⟩, fresh5, q⟩
end RW

set_option Elab.async false
set_option linter.all false
set_option maxRecDepth 100000
set_option maxHeartbeats 4000000
namespace RW
open PySem PySem.Spec PyProof.Rows L2
theorem meets_enumerate_new1 {v : Value} {o : Obj} {H : Heap → Prop} (B : Begins v o H) :
    Meets (Builtin.«enumerate.__new__» ⟨[.type "enumerate", v], []⟩) (fun _ R s => H s.heap ∧
      R (.ok (.ret (.ref (s.heap.push o).objs.size))) { s with heap := (s.heap.push o).push { cls := .type "enumerate", data := .fields #[.none, .bool false, .ref s.heap.objs.size, rawInt 0, .none, .none] } }) :=
  .of_wp fun prog w A R s h => by
    obtain ⟨hp, g, d, tk, os⟩ := s; obtain ⟨h1, h⟩ := h
    have hsub := sub_enumerate
    have q1 : ∀ {A' : Around} {E : Value → Shared → Prop} {Q : Value → Shared → Prop}, Q (.ref hp.objs.size) ⟨hp.push o, g, d, tk, os⟩ → wpAny (model prog w) A' (pyIter v) Q E ⟨hp, g, d, tk, os⟩ :=
      fun q => B.iter prog w _ _ ⟨hp, g, d, tk, os⟩ _ h1 q
    wp_walk using q1
    refine wpAny_stack_any fun st => wpAny_pure ?_
    split
    · rename_i c _ _ _ _ _
      cases (c == Value.type "enumerate")
      · wp_walk using q1
        exact ⟨_, rfl, h⟩
      · wp_walk using q1
        exact ⟨_, rfl, h⟩
    · wp_walk using q1
      exact ⟨_, rfl, h⟩
section
variable {prog : Program} {w : World} {A : Around} {E : Value → Shared → Prop} {s : Shared}
theorem enum_begins1 {v : Value} {o : Obj} {H : Heap → Prop} {Q : Value → Shared → Prop} (B : Begins v o H) (h1 : H s.heap)
    (h : ∀ h', IsEnum h' (s.heap.objs.size + 1) s.heap.objs.size 0 .none → h'.get? s.heap.objs.size = some o → h'.objs.size = s.heap.objs.size + 2 →
      (∀ b o, s.heap.get? b = some o → h'.get? b = some o) → Q (.ref (s.heap.objs.size + 1)) { s with heap := h' }) :
    wpAny (model prog w) A (call (.type "enumerate") [v]) Q E s := by
  refine callType_new F.called_enumerate (by decide) (F.typeCall_enumerate_1 _) (F.newCall_enumerate_1 _) (fun obj => F.args_object_init_2 obj _) F.entry_enumerate_new
    (meets_enumerate_new1 B) ⟨h1, ?_⟩
  have hz : (s.heap.push o).objs.size = s.heap.objs.size + 1 := Heap.size_push ..
  show _ ∧ _
  rw [hz]
  have he : IsEnum ((s.heap.push o).push { cls := .type "enumerate", data := .fields #[.none, .bool false, .ref s.heap.objs.size, rawInt 0, .none, .none] }) (s.heap.objs.size + 1) s.heap.objs.size 0 .none := by
    have := Heap.get?_push_size (s.heap.push o) (o := { cls := .type "enumerate", data := .fields #[.none, .bool false, .ref s.heap.objs.size, rawInt 0, .none, .none] }) rfl
    rw [hz] at this; exact this
  refine ⟨⟨_, he, rfl⟩, h _ he (Heap.get?_push_of_some _ (Heap.get?_push_size _ B.free)) (by rw [Heap.size_push, hz]) fun b o x => Heap.get?_push_of_some _ (Heap.get?_push_of_some _ x)⟩
end
def IteG (K : PySem.W.Frag) (k : Bool) (a : Addr) : It :=
  ⟨fun i H => ∃ (xs : List V) (x : V), Sq K k H a xs ∧ xs[i]? = some x, fun i H v H' => ∃ T x, v = .ref T ∧ H T = none ∧ H' = upd H T (.tup [.int (i : Nat), x]) ∧ ∀ xs, Sq K k H a xs → xs[i]? = some x, fun i H => ∃ xs : List V, Sq K k H a xs ∧ xs.length = i⟩
theorem turn_enumG {P : Program} {w : World} {K : PySem.W.Frag} {elts : List Expr} {kk : Nat} {tpos : Pos} {k : Bool} {a e it : Addr} (hne : e ≠ it) (hea : a ≠ e) (hia : a ≠ it) :
    Turn P w K (.Tuple elts kk tpos) (IteG K k a) [e, it] e (fun i h => (∃ old, IsEnum h e it ((i : Nat) : Int) old) ∧ itAt k h it a i) where
  mem := by simp
  obj := fun i h st b hb => by
    obtain ⟨⟨old, he⟩, hi⟩ := st
    have e' : b = e ∨ b = it := by simpa using hb
    rcases e' with z | z
    · rw [z]; exact ⟨_, he, fun v q => nomatch q⟩
    · rw [z]; exact hi.there
  keep := fun i h h' st k => let ⟨⟨old, he⟩, hi⟩ := st; ⟨⟨old, k e (by simp) _ he⟩, hi.at fun o q => k it (by simp) o q⟩
  item := by
    intro X hP hw hK hc i pins s σ H E I hf st hg
    subst hP hw hK
    obtain ⟨⟨old, he⟩, hit⟩ := st
    obtain ⟨xs, x, hq, hx⟩ := hg
    obtain ⟨its, rv, p⟩ := inv_seq I hq
    obtain ⟨u, hu, ru⟩ := rv.get hx
    have hel : e < s.heap.objs.size := Heap.lt_size he
    have hil : it < s.heap.objs.size := by obtain ⟨_, q, _⟩ := hit.there; exact Heap.lt_size q
    have hh : X.A.in1.handled = none := I.ok.hd hc
    have l1 : i < its.toArray.size := by
      have := (List.getElem?_eq_some_iff.mp hu).1
      simpa using this
    refine wpAny_pyNext_enum_itemC (draws_k hh k it a hia its.toArray) he ⟨hit, p⟩ l1 hne (by simp [hne, Ne.symm hea]) fun v1 h' tk e1 ho hst' hT hsz hk => ?_
    have e1' : v1 = u := by
      have q : its[i]? = some v1 := by simpa using e1
      rw [hu] at q
      exact (Option.some.inj q).symm
    subst e1'
    refine ⟨_, rfl, wpAny_letOwnedTupleGo_enum (s := { s with heap := h', toks := tk + 1 }) ho fun h'' he' sb => ?_⟩
    have hT2 : h''.get? s.heap.objs.size = some { cls := .type "tuple", data := .seq #[.int i tk, v1] } := (sb.2 _ (Nat.ne_of_gt hel)).trans hT
    have new : ObjOk X.prog X.w (upd H s.heap.objs.size (.tup [.int (i : Nat), x])) h'' s.heap.objs.size (.tup [.int (i : Nat), x]) :=
      ⟨by show 2 ≤ sizeLine; decide, [.int i tk, v1], .cons ⟨_, rfl⟩ (.cons ru .nil), ⟨_, hT2, rfl, _, rfl⟩⟩
    have I1 : Inv X pins σ (upd H s.heap.objs.size (.tup [.int (i : Nat), x])) { s with heap := h'', toks := tk + 1 } :=
      I.turnedNew (ch := [e, it]) (fun b ob hb q => (sb.2 b (fun z => hb (by simp [z]))).trans (hk b ob (fun z => hb (by simp [z])) (fun z => hb (by simp [z])) q)) hf (Nat.le_refl _) new
    refine ⟨.ref s.heap.objs.size, _, I1, rfl, ⟨_, x, rfl, I.hok.fresh (Nat.le_refl _), rfl, fun ys hy => by rw [inv_inj I hy hq]; exact hx⟩, ⟨⟨v1, ?_⟩, hst'.1.at fun o q => (sb.2 it (Ne.symm hne)).trans q⟩, fun b hb => ?_⟩
    · have e1 : ((i + 1 : Nat) : Int) = (i : Int) + 1 := by omega
      rw [e1]; exact he'
    · have hb' : b < s.heap.objs.size := by
        have e' : b = e ∨ b = it := by simpa using hb
        rcases e' with z | z
        · rw [z]; exact hel
        · rw [z]; exact hil
      rw [upd_ne (Nat.ne_of_lt hb')]
      exact (hf b hb).1
  done := by
    intro X hP hw hK hc i pins s σ H E I hf st hg
    subst hP hw hK
    obtain ⟨⟨old, he⟩, hit⟩ := st
    obtain ⟨xs, hq, hx⟩ := hg
    obtain ⟨its, rv, p⟩ := inv_seq I hq
    obtain ⟨f0, f1, f2, f3, f4, f5⟩ := hf it (by simp)
    have hh : X.A.in1.handled = none := I.ok.hd hc
    have hl := rv.length
    have hi : its.toArray.size = i := by simp; omega
    subst hi
    exact wpAny_pyNext_enum_endD (draws_k hh k it a hia its.toArray) he ⟨hit, p⟩ fun h' eb => ⟨rfl, I.turned (t' := s.toks) (fun b o hb q => eb b o hb q) f0 f1 f3 f4 f5⟩
  self := fun A i s Q E st h => let ⟨⟨_, he⟩, _⟩ := st; wpAny_pyIter_enum he h
def iEnumG (K : PySem.W.Frag) (ta : TA) : TI := fun σ H R => ta σ H fun vs H1 => ∃ a k xs, vs = [.ref a] ∧ Sq K k H1 a xs ∧ R (IteG K k a) H1
theorem pi_enumG {X : Cx} {e : Expr} {ta : TA} {p pos tpos : Pos} {elts : List Expr} {kk : Nat} (hg : Gl X "enumerate") (hm : X.mg "enumerate" = none) (ha : PA X [e] ta) (hs : starEach [e] X.env = [(false, eval e X.env)] := by rfl) :
    PI X (.Tuple elts kk tpos) (.Call (.Name "enumerate" p) [e] [] pos) (iEnumG X.K ta) := by
  refine ⟨fun pins s σ H R I h => ?_⟩
  refine Call_ (ld_blt I hg hm boot_enumerate (PyProof.Rows.callWith_type1 (thn (ha.run pos pins s σ H _ I h) fun us s1 ⟨vs, H1, I1, r1, q1⟩ => ?_) hs rfl))
  obtain ⟨a, k, xs, ex, hq, q⟩ := q1
  subst ex
  cases r1 with
  | cons r rr =>
    cases rr
    cases r
    obtain ⟨its, rv, p'⟩ := inv_seq I1 hq
    have hal := p'.lt
    refine enum_begins1 (begins_k k a its.toArray) p' fun h' he hit hsz hk => wpAny_pyIter_enum he ?_
    have I2 : Inv X pins σ H1 { s1 with heap := h' } := I1.kept (t' := s1.toks) hk
    refine ⟨s1.heap.objs.size + 1, [s1.heap.objs.size + 1, s1.heap.objs.size], _, _, H1, rfl, I2, turn_enumG (e := s1.heap.objs.size + 1) (it := s1.heap.objs.size) (Nat.succ_ne_self _) (Nat.ne_of_lt (Nat.lt_succ_of_lt hal)) (Nat.ne_of_lt hal), ⟨⟨.none, he⟩, itAt_new hit⟩, fun b hb => ?_, q⟩
    have e' : b = s1.heap.objs.size + 1 ∨ b = s1.heap.objs.size := by simpa using hb
    have hle : s1.heap.objs.size ≤ b := by
      rcases e' with z | z
      · rw [z]; exact Nat.le_add_right _ _
      · rw [z]; exact Nat.le_refl _
    exact I1.fpOk hle (I1.hok.fresh hle)
end RW

set_option Elab.async false
set_option linter.all false
set_option maxRecDepth 100000
set_option maxHeartbeats 4000000
namespace RW
open PySem PySem.Spec PyProof.Rows L2
open Evl (Ex)

/-! ### data: what a value is, whatever its address -/
inductive Dat where
  | non | bl (b : Bool) | int (i : Int) | str (s : Str) | ty (n : String)
  | tup (xs : List Dat) | lst (xs : List Dat) | scr (ns : List Int)
  | ins (C : Addr) (fs : List (Str × Dat))
  | adr (a : Addr)
mutual
inductive Rep (K : PySem.W.Frag) (B : Hp) : V → Dat → Prop
  | non : Rep K B .non .non
  | bl (b : Bool) : Rep K B (.bl b) (.bl b)
  | int (i : Int) : Rep K B (.int i) (.int i)
  | str (s : Str) : Rep K B (.str s) (.str s)
  | ty (n : String) : Rep K B (.ty n) (.ty n)
  | tup {a : Addr} {xs : List V} {ds : List Dat} : SqT K B a xs → Reps K B xs ds → Rep K B (.ref a) (.tup ds)
  | lst {a : Addr} {xs : List V} {ds : List Dat} : B a = some (.lst xs) → Reps K B xs ds → Rep K B (.ref a) (.lst ds)
  | scr {a : Addr} {ns : List Int} : SqL K B a (ns.map V.int) → Rep K B (.ref a) (.scr ns)
  | ins {a C dx : Addr} {vs : List (Str × V)} {fs : List (Str × Dat)} : B a = some (.ins C dx vs) → RepF K B vs fs → Rep K B (.ref a) (.ins C fs)
  | adr (a : Addr) : Rep K B (.ref a) (.adr a)
inductive Reps (K : PySem.W.Frag) (B : Hp) : List V → List Dat → Prop
  | nil : Reps K B [] []
  | cons {v : V} {d : Dat} {vs : List V} {ds : List Dat} : Rep K B v d → Reps K B vs ds → Reps K B (v :: vs) (d :: ds)
inductive RepF (K : PySem.W.Frag) (B : Hp) : List (Str × V) → List (Str × Dat) → Prop
  | nil : RepF K B [] []
  | cons {f : Str} {v : V} {d : Dat} {vs : List (Str × V)} {ds : List (Str × Dat)} : Rep K B v d → RepF K B vs ds → RepF K B ((f, v) :: vs) ((f, d) :: ds)
end
section
variable {K : PySem.W.Frag} {B B' : Hp}
mutual
theorem Rep.mono (e : Ex B B') : ∀ {v : V} {d : Dat}, Rep K B v d → Rep K B' v d
  | _, _, .non => .non
  | _, _, .bl b => .bl b
  | _, _, .int i => .int i
  | _, _, .str s => .str s
  | _, _, .ty n => .ty n
  | _, _, .tup h r => .tup (Evl.ex_t e h) (Reps.mono e r)
  | _, _, .lst h r => .lst (e _ _ h) (Reps.mono e r)
  | _, _, .scr h => .scr (Evl.ex_l e h)
  | _, _, .ins h r => .ins (e _ _ h) (RepF.mono e r)
  | _, _, .adr a => .adr a
theorem Reps.mono (e : Ex B B') : ∀ {v : List V} {d : List Dat}, Reps K B v d → Reps K B' v d
  | _, _, .nil => .nil
  | _, _, .cons h r => .cons (Rep.mono e h) (Reps.mono e r)
theorem RepF.mono (e : Ex B B') : ∀ {v : List (Str × V)} {d : List (Str × Dat)}, RepF K B v d → RepF K B' v d
  | _, _, .nil => .nil
  | _, _, .cons h r => .cons (Rep.mono e h) (RepF.mono e r)
end
theorem Reps.length : ∀ {vs : List V} {ds : List Dat}, Reps K B vs ds → vs.length = ds.length
  | _, _, .nil => rfl
  | _, _, .cons _ r => by rw [List.length_cons, List.length_cons, Reps.length r]
theorem Reps.get : ∀ {vs : List V} {ds : List Dat} {i : Nat} {d : Dat}, Reps K B vs ds → ds[i]? = some d → ∃ v, vs[i]? = some v ∧ Rep K B v d
  | _, _, _, _, .nil, e => by simp at e
  | _, _, 0, _, .cons h _, e => by simp at e; subst e; exact ⟨_, rfl, h⟩
  | _, _, i + 1, d, .cons _ r, e => by
    obtain ⟨v, h1, h2⟩ := Reps.get (i := i) (d := d) r (by simpa using e)
    exact ⟨v, by simpa using h1, h2⟩
theorem Reps.get' : ∀ {vs : List V} {ds : List Dat} {i : Nat} {v : V}, Reps K B vs ds → vs[i]? = some v → ∃ d, ds[i]? = some d ∧ Rep K B v d
  | _, _, _, _, .nil, e => by simp at e
  | _, _, 0, _, .cons h _, e => by simp at e; subst e; exact ⟨_, rfl, h⟩
  | _, _, i + 1, v, .cons _ r, e => by
    obtain ⟨d, h1, h2⟩ := Reps.get' (i := i) (v := v) r (by simpa using e)
    exact ⟨d, by simpa using h1, h2⟩
theorem Reps.append : ∀ {vs ws : List V} {ds es : List Dat}, Reps K B vs ds → Reps K B ws es → Reps K B (vs ++ ws) (ds ++ es)
  | _, _, _, _, .nil, h => h
  | _, _, _, _, .cons h r, q => .cons h (Reps.append r q)
theorem Reps.take : ∀ {vs : List V} {ds : List Dat} (n : Nat), Reps K B vs ds → Reps K B (vs.take n) (ds.take n)
  | _, _, 0, _ => .nil
  | _, _, _ + 1, .nil => .nil
  | _, _, n + 1, .cons h r => .cons h (Reps.take n r)
theorem Reps.drop : ∀ {vs : List V} {ds : List Dat} (n : Nat), Reps K B vs ds → Reps K B (vs.drop n) (ds.drop n)
  | _, _, 0, r => r
  | _, _, _ + 1, .nil => .nil
  | _, _, n + 1, .cons _ r => Reps.drop n r
theorem Reps.set : ∀ {vs : List V} {ds : List Dat} {v : V} {d : Dat} (n : Nat), Rep K B v d → Reps K B vs ds → Reps K B (vs.set n v) (ds.set n d)
  | _, _, _, _, _, _, .nil => .nil
  | _, _, _, _, 0, h, .cons _ r => .cons h r
  | _, _, _, _, n + 1, h, .cons q r => .cons q (Reps.set n h r)
theorem Reps.ints : ∀ {vs : List V} {ns : List Int}, Reps K B vs (ns.map Dat.int) → vs = ns.map V.int
  | _, [], .nil => rfl
  | _, n :: ns, .cons h r => by
    cases h
    rw [List.map_cons, Reps.ints r]
theorem Reps.bls : ∀ {vs : List V} {ns : List Bool}, Reps K B vs (ns.map Dat.bl) → vs = ns.map V.bl
  | _, [], .nil => rfl
  | _, n :: ns, .cons h r => by
    cases h
    rw [List.map_cons, Reps.bls r]
theorem RepF.get : ∀ {vs : List (Str × V)} {fs : List (Str × Dat)} {f : Str} {d : Dat}, RepF K B vs fs → fs.lookup f = some d → ∃ v, vs.lookup f = some v ∧ Rep K B v d
  | _, _, _, _, .nil, e => by cases e
  | _, _, f, d, .cons (f := g) (vs := vs) (ds := ds) h r, e => by
    by_cases q : (f == g) = true
    · simp only [List.lookup, q] at e ⊢
      cases e
      exact ⟨_, rfl, h⟩
    · have q' : (f == g) = false := by simpa using q
      simp only [List.lookup, q'] at e ⊢
      exact RepF.get r e
end

/-! ### what a slot or an argument is: data, or a list that is changed (by its number) -/
inductive Sl where
  | d (x : Dat)
  | c (k : Nat)
def RepS (K : PySem.W.Frag) (B : Hp) (as : List Addr) (v : V) : Sl → Prop
  | .d x => Rep K B v x
  | .c k => ∃ a, as[k]? = some a ∧ v = .ref a
inductive RepSs (K : PySem.W.Frag) (B : Hp) (as : List Addr) : List V → List Sl → Prop
  | nil : RepSs K B as [] []
  | cons {v : V} {s : Sl} {vs : List V} {ss : List Sl} : RepS K B as v s → RepSs K B as vs ss → RepSs K B as (v :: vs) (s :: ss)
abbrev Env1 := List (Option Sl)
def EnvR (K : PySem.W.Frag) (B : Hp) (as : List Addr) (σ : L2.St) (env : Env1) : Prop :=
  σ.length = env.length ∧ ∀ (i : Nat) (s : Sl), env[i]? = some (some s) → ∃ v, σ[i]? = some (some v) ∧ RepS K B as v s
/-- what stands at a changed thing -/
def CellO (K : PySem.W.Frag) (B : Hp) : HO → Dat → Prop
  | .lst vs, .lst ds => Reps K B vs ds
  | .ins C _ vs, .ins C' fs => C = C' ∧ RepF K B vs fs
  | _, _ => False
def CellAt (K : PySem.W.Frag) (B H : Hp) (a : Addr) (s : Dat) : Prop := ∃ o, H a = some o ∧ CellO K B o s
theorem CellO.mono {K : PySem.W.Frag} {B B' : Hp} {o : HO} {s : Dat} (e : Ex B B') (h : CellO K B o s) : CellO K B' o s := by
  unfold CellO at h ⊢
  split at h <;> first
    | exact h.elim
    | exact Reps.mono e h
    | exact ⟨h.1, RepF.mono e h.2⟩
theorem CellAt.lst {K : PySem.W.Frag} {B H : Hp} {a : Addr} {ds : List Dat} (h : CellAt K B H a (.lst ds)) : ∃ vs, H a = some (.lst vs) ∧ Reps K B vs ds := by
  obtain ⟨o, h1, h2⟩ := h
  cases o <;> first
    | exact h2.elim
    | exact ⟨_, h1, h2⟩
theorem CellAt.ins {K : PySem.W.Frag} {B H : Hp} {a C : Addr} {fs : List (Str × Dat)} (h : CellAt K B H a (.ins C fs)) : ∃ dx vs, H a = some (.ins C dx vs) ∧ RepF K B vs fs := by
  obtain ⟨o, h1, h2⟩ := h
  cases o <;> first
    | exact h2.elim
    | (obtain ⟨rfl, h2⟩ := h2; exact ⟨_, _, h1, h2⟩)
theorem CellAt.ofL {K : PySem.W.Frag} {B H : Hp} {a : Addr} {vs : List V} {ds : List Dat} (h : H a = some (.lst vs)) (r : Reps K B vs ds) : CellAt K B H a (.lst ds) := ⟨_, h, r⟩
theorem CellAt.ofI {K : PySem.W.Frag} {B H : Hp} {a C dx : Addr} {vs : List (Str × V)} {fs : List (Str × Dat)} (h : H a = some (.ins C dx vs)) (r : RepF K B vs fs) : CellAt K B H a (.ins C fs) := ⟨_, h, rfl, r⟩
structure Ok (K : PySem.W.Frag) (B H : Hp) (as : List Addr) (S : List Dat) : Prop where
  ex : Ex B H
  len : as.length = S.length
  cells : ∀ (k : Nat) (a : Addr) (s : Dat), as[k]? = some a → S[k]? = some s → B a = none ∧ CellAt K B H a s
  nd : as.Nodup
structure Evo (B H : Hp) (as : List Addr) (B' H' : Hp) : Prop where
  ex : Ex B B'
  fr : ∀ a o, a ∉ as → H a = some o → H' a = some o
  gr : ∀ a, H a ≠ none → B' a = B a
  pr : ∀ a, H a ≠ none → H' a ≠ none
section
variable {K : PySem.W.Frag} {B B' B1 B2 H H' H1 H2 : Hp} {as as' : List Addr} {S S' : List Dat} {σ : L2.St} {env : Env1} {v : V} {s : Sl}
theorem RepS.mono (e : Ex B B') (h : RepS K B as v s) : RepS K B' as v s := by
  cases s with
  | d x => exact Rep.mono e h
  | c k => exact h
theorem RepS.grow {as1 : List Addr} (h : RepS K B as v s) : RepS K B (as ++ as1) v s := by
  cases s with
  | d x => exact h
  | c k =>
    obtain ⟨a, q, e⟩ := h
    exact ⟨a, by rw [List.getElem?_append_left (List.getElem?_eq_some_iff.mp q).1]; exact q, e⟩
theorem RepSs.mono (e : Ex B B') : ∀ {vs : List V} {ss : List Sl}, RepSs K B as vs ss → RepSs K B' as vs ss
  | _, _, .nil => .nil
  | _, _, .cons h r => .cons (h.mono e) (RepSs.mono e r)
theorem RepSs.append : ∀ {vs ws : List V} {ss ts : List Sl}, RepSs K B as vs ss → RepSs K B as ws ts → RepSs K B as (vs ++ ws) (ss ++ ts)
  | _, _, _, _, .nil, h => h
  | _, _, _, _, .cons h r, q => .cons h (RepSs.append r q)
theorem RepSs.length : ∀ {vs : List V} {ss : List Sl}, RepSs K B as vs ss → vs.length = ss.length
  | _, _, .nil => rfl
  | _, _, .cons _ r => by rw [List.length_cons, List.length_cons, RepSs.length r]
theorem RepSs.get : ∀ {vs : List V} {ss : List Sl} {i : Nat} {s : Sl}, RepSs K B as vs ss → ss[i]? = some s → ∃ v, vs[i]? = some v ∧ RepS K B as v s
  | _, _, _, _, .nil, e => by simp at e
  | _, _, 0, _, .cons h _, e => by simp at e; subst e; exact ⟨_, rfl, h⟩
  | _, _, i + 1, s, .cons _ r, e => by
    obtain ⟨v, h1, h2⟩ := RepSs.get (i := i) (s := s) r (by simpa using e)
    exact ⟨v, by simpa using h1, h2⟩
theorem RepSs.ds : ∀ {vs : List V} {ds : List Dat}, RepSs K B as vs (ds.map Sl.d) → Reps K B vs ds
  | _, [], .nil => .nil
  | _, d :: ds, .cons h r => .cons h (RepSs.ds r)
theorem EnvR.mono (e : Ex B B') (h : EnvR K B as σ env) : EnvR K B' as σ env :=
  ⟨h.1, fun i s q => by obtain ⟨v, q1, q2⟩ := h.2 i s q; exact ⟨v, q1, q2.mono e⟩⟩
theorem EnvR.grow {as1 : List Addr} (h : EnvR K B as σ env) : EnvR K B (as ++ as1) σ env :=
  ⟨h.1, fun i s q => by obtain ⟨v, q1, q2⟩ := h.2 i s q; exact ⟨v, q1, q2.grow⟩⟩
theorem EnvR.set (i : Nat) (h : EnvR K B as σ env) (hv : RepS K B as v s) : EnvR K B as (σ.set i (some v)) (env.set i (some s)) := by
  refine ⟨by rw [List.length_set, List.length_set, h.1], fun j t q => ?_⟩
  by_cases e : i = j
  · subst e
    have hi : i < env.length := by
      have := (List.getElem?_eq_some_iff.mp q).1
      rw [List.length_set] at this
      exact this
    rw [List.getElem?_set_self hi] at q
    cases q
    exact ⟨v, by rw [List.getElem?_set_self (by rw [h.1]; exact hi)], hv⟩
  · rw [List.getElem?_set_ne e] at q
    obtain ⟨w, q1, q2⟩ := h.2 j t q
    exact ⟨w, by rw [List.getElem?_set_ne e]; exact q1, q2⟩
theorem EnvR.unset (i : Nat) (h : EnvR K B as σ env) : EnvR K B as (σ.set i none) (env.set i none) := by
  refine ⟨by rw [List.length_set, List.length_set, h.1], fun j t q => ?_⟩
  by_cases e : i = j
  · subst e
    have hi : i < env.length := by
      have := (List.getElem?_eq_some_iff.mp q).1
      rw [List.length_set] at this
      exact this
    rw [List.getElem?_set_self hi] at q
    cases q
  · rw [List.getElem?_set_ne e] at q
    obtain ⟨w, q1, q2⟩ := h.2 j t q
    exact ⟨w, by rw [List.getElem?_set_ne e]; exact q1, q2⟩
theorem EnvR.forget (i : Nat) (x : Option V) (h : EnvR K B as σ env) : EnvR K B as (σ.set i x) (env.set i none) := by
  refine ⟨by rw [List.length_set, List.length_set, h.1], fun j t q => ?_⟩
  by_cases e : i = j
  · subst e
    have hi : i < env.length := by
      have := (List.getElem?_eq_some_iff.mp q).1
      rw [List.length_set] at this
      exact this
    rw [List.getElem?_set_self hi] at q
    cases q
  · rw [List.getElem?_set_ne e] at q
    obtain ⟨w, q1, q2⟩ := h.2 j t q
    exact ⟨w, by rw [List.getElem?_set_ne e]; exact q1, q2⟩
theorem EnvR.start {N : List Str} {vs : List V} {ss : List Sl} (h : RepSs K B as vs ss) : EnvR K B as (start N vs) (ss.map some ++ List.replicate (N.length - ss.length) none) := by
  unfold L2.start
  refine ⟨by rw [List.length_append, List.length_append, List.length_map, List.length_map, List.length_replicate, List.length_replicate, h.length], fun i s q => ?_⟩
  by_cases hi : i < ss.length
  · rw [List.getElem?_append_left (by simpa using hi), List.getElem?_map] at q
    cases e : ss[i]? with
    | none => rw [e] at q; cases q
    | some t =>
      rw [e] at q
      cases q
      obtain ⟨v, q1, q2⟩ := h.get e
      refine ⟨v, ?_, q2⟩
      rw [List.getElem?_append_left (by rw [List.length_map, h.length]; exact hi), List.getElem?_map, q1]
      rfl
  · rw [List.getElem?_append_right (by simpa using hi), List.getElem?_replicate] at q
    split at q <;> cases q
def wipeE (env : Env1) : List Nat → Env1
  | [] => env
  | v :: vs => (wipeE env vs).set v none
theorem EnvR.wipe (h : EnvR K B as σ env) : ∀ vs : List Nat, EnvR K B as (L2.wipe σ vs) (wipeE env vs)
  | [] => h
  | v :: vs => (EnvR.wipe h vs).unset v
theorem Evo.refl : Evo B H as B H := ⟨Evl.Ex.refl B, fun _ _ _ h => h, fun _ _ => rfl, fun _ h => h⟩
theorem Evo.trans (a : Evo B H as B1 H1) (b : Evo B1 H1 as B2 H2) : Evo B H as B2 H2 :=
  ⟨a.ex.trans b.ex, fun x o n h => b.fr x o n (a.fr x o n h), fun x n => (b.gr x (a.pr x n)).trans (a.gr x n), fun x n => b.pr x (a.pr x n)⟩
/-- a new object, known from then on -/
theorem Ok.new {p : Addr} {o : HO} (c : Ok K B H as S) (hp : H p = none) : Ok K (upd B p o) (upd H p o) as S where
  ex := fun a u e => by
    by_cases q : a = p
    · subst q; rw [upd_same] at e ⊢; exact e
    · rw [upd_ne q] at e ⊢; exact c.ex a u e
  len := c.len
  cells := fun k a s h1 h2 => by
    obtain ⟨q1, q2⟩ := c.cells k a s h1 h2
    have hB : Ex B (upd B p o) := Evl.Ex.new (by
      cases e : B p with
      | none => rfl
      | some u => rw [c.ex p u e] at hp; cases hp)
    have ne : a ≠ p := by
      intro z
      subst z
      obtain ⟨o, q3, _⟩ := q2; rw [hp] at q3; cases q3
    rw [upd_ne ne]
    refine ⟨q1, ?_⟩
    obtain ⟨o, q3, q4⟩ := q2
    exact ⟨o, by rw [upd_ne ne]; exact q3, q4.mono hB⟩
  nd := c.nd
theorem Ok.Bnone {p : Addr} (c : Ok K B H as S) (hp : H p = none) : B p = none := by
  cases e : B p with
  | none => rfl
  | some u => rw [c.ex p u e] at hp; cases hp
theorem Evo.new {p : Addr} {o : HO} (c : Ok K B H as S) (hp : H p = none) : Evo B H as (upd B p o) (upd H p o) :=
  ⟨Evl.Ex.new (c.Bnone hp), fun a u _ h => by rw [upd_ne (ne_of_none h hp)]; exact h, fun a h => upd_ne (by rintro rfl; exact h hp), fun a h => by
    by_cases q : a = p
    · subst q; rw [upd_same]; simp
    · rw [upd_ne q]; exact h⟩
end
end RW

set_option Elab.async false
set_option linter.all false
set_option maxRecDepth 100000
set_option maxHeartbeats 4000000
namespace RW
open PySem PySem.Spec PyProof.Rows L2
open Evl (Ex)

/-! ### what an expression gives -/
def Ev (K : PySem.W.Frag) (te : TE) (env : Env1) (S : List Dat) (r : Sl) (S' : List Dat) : Prop :=
  ∀ B H as σ, Ok K B H as S → EnvR K B as σ env → ∀ Q : VK, (∀ v B' H', Ok K B' H' as S' → Evo B H as B' H' → RepS K B' as v r → Q v H') → te σ H Q
/-- a new list that nothing else knows -/
def EvN (K : PySem.W.Frag) (te : TE) (env : Env1) (S : List Dat) (ds : List Dat) (S' : List Dat) : Prop :=
  ∀ B H as σ, Ok K B H as S → EnvR K B as σ env → ∀ Q : VK, (∀ p B' H' vs, Ok K B' H' as S' → Evo B H as B' H' → H p = none → B' p = none → H' p = some (.lst vs) → Reps K B' vs ds → Q (.ref p) H') → te σ H Q
def EvT (K : PySem.W.Frag) (tt : TT) (env : Env1) (S : List Dat) (b : Bool) (S' : List Dat) : Prop :=
  ∀ B H as σ, Ok K B H as S → EnvR K B as σ env → ∀ Q : Bool → Hp → Prop, (∀ B' H', Ok K B' H' as S' → Evo B H as B' H' → Q b H') → tt σ H Q
def EvA (K : PySem.W.Frag) (ta : TA) (env : Env1) (S : List Dat) (rs : List Sl) (S' : List Dat) : Prop :=
  ∀ B H as σ, Ok K B H as S → EnvR K B as σ env → ∀ Q : List V → Hp → Prop, (∀ vs B' H', Ok K B' H' as S' → Evo B H as B' H' → RepSs K B' as vs rs → Q vs H') → ta σ H Q
/-- a two-place operation by values -/
def Op2 (K : PySem.W.Frag) (r : R2) (x y : Sl) (S : List Dat) (z : Dat) : Prop :=
  ∀ B H as v w, Ok K B H as S → RepS K B as v x → RepS K B as w y → ∀ Q : VK, (∀ u B' H', Ok K B' H' as S → Evo B H as B' H' → Rep K B' u z → Q u H') → r v w H Q
def Op1 (K : PySem.W.Frag) (r : V → Hp → VK → Prop) (x : Sl) (S : List Dat) (z : Dat) : Prop :=
  ∀ B H as v, Ok K B H as S → RepS K B as v x → ∀ Q : VK, (∀ u B' H', Ok K B' H' as S → Evo B H as B' H' → Rep K B' u z → Q u H') → r v H Q
/-- a call by values; it may change what is changed -/
def CallD (K : PySem.W.Frag) (r : List V → Hp → VK → Prop) (xs : List Sl) (S : List Dat) (z : Dat) (S' : List Dat) : Prop :=
  ∀ B H as vs, Ok K B H as S → RepSs K B as vs xs → ∀ Q : VK, (∀ u B' H', Ok K B' H' as S' → Evo B H as B' H' → Rep K B' u z → Q u H') → r vs H Q
section
variable {K : PySem.W.Frag} {te ta tb tc : TE} {tt tu : TT} {tA tR : TA} {env : Env1} {S S1 S2 S3 : List Dat} {x y z : Sl} {d e : Dat} {r : R2}
theorem ev_var {i : Nat} (h : env[i]? = some (some x)) : Ev K (tVar i) env S x S := fun B H as σ c g Q q => by
  obtain ⟨v, h1, h2⟩ := g.2 i x h
  exact ⟨v, h1, q v B H c Evo.refl h2⟩
theorem ev_int {i : Int} : Ev K (tC (.int i)) env S (.d (.int i)) S := fun B H as σ c g Q q => q _ B H c Evo.refl (.int i)
theorem ev_bl {b : Bool} : Ev K (tC (.bl b)) env S (.d (.bl b)) S := fun B H as σ c g Q q => q _ B H c Evo.refl (.bl b)
theorem ev_str {b : Str} : Ev K (tC (.str b)) env S (.d (.str b)) S := fun B H as σ c g Q q => q _ B H c Evo.refl (.str b)
theorem ev_non : Ev K (tC .non) env S (.d .non) S := fun B H as σ c g Q q => q _ B H c Evo.refl .non
theorem ev_ty {n : String} : Ev K (tC (.ty n)) env S (.d (.ty n)) S := fun B H as σ c g Q q => q _ B H c Evo.refl (.ty n)
theorem ev_adr {a : Addr} : Ev K (tC (.ref a)) env S (.d (.adr a)) S := fun B H as σ c g Q q => q _ B H c Evo.refl (.adr a)
theorem Ev.to {r r' : Sl} (h : Ev K te env S r S1) (e : r = r') : Ev K te env S r' S1 := e ▸ h
theorem EvT.to {b b' : Bool} (h : EvT K tt env S b S1) (e : b = b') : EvT K tt env S b' S1 := e ▸ h
theorem ev_op (ha : Ev K ta env S x S1) (hb : Ev K tb env S1 y S2) (hr : Op2 K r x y S2 d) : Ev K (tOp r ta tb) env S (.d d) S2 := fun B H as σ c g Q q =>
  ha B H as σ c g _ fun v B1 H1 c1 e1 r1 => hb B1 H1 as σ c1 (g.mono e1.ex) _ fun w B2 H2 c2 e2 r2 =>
    hr B2 H2 as v w c2 (r1.mono e2.ex) r2 _ fun u B3 H3 c3 e3 r3 => q u B3 H3 c3 ((e1.trans e2).trans e3) r3
theorem ev_un {r : V → Hp → VK → Prop} (ha : Ev K ta env S x S1) (hr : Op1 K r x S1 d) : Ev K (tUn r ta) env S (.d d) S1 := fun B H as σ c g Q q =>
  ha B H as σ c g _ fun v B1 H1 c1 e1 r1 => hr B1 H1 as v c1 r1 _ fun u B3 H3 c3 e3 r3 => q u B3 H3 c3 (e1.trans e3) r3
theorem op2_int0 {g : Int → Int → V} {i j : Int} (h : ∀ B : Hp, Rep K B (g i j) d) : Op2 K (rI0 g) (.d (.int i)) (.d (.int j)) S d := fun B H as v w c h1 h2 Q q => by
  cases h1; cases h2
  exact ⟨i, j, rfl, rfl, q _ B H c Evo.refl (h B)⟩
theorem op2_int {C : Int → Int → Prop} {g : Int → Int → V} {i j : Int} (hc : C i j) (h : ∀ B : Hp, Rep K B (g i j) d) : Op2 K (rI C g) (.d (.int i)) (.d (.int j)) S d := fun B H as v w c h1 h2 Q q => by
  cases h1; cases h2
  exact ⟨i, j, rfl, rfl, hc, q _ B H c Evo.refl (h B)⟩
theorem op1_int {g : Int → V} {i : Int} (h : ∀ B : Hp, Rep K B (g i) d) : Op1 K (rU g) (.d (.int i)) S d := fun B H as v c h1 Q q => by
  cases h1
  exact ⟨i, rfl, q _ B H c Evo.refl (h B)⟩
theorem ea_nil : EvA K tNil env S [] S := fun B H as σ c g Q q => q [] B H c Evo.refl .nil
theorem ea_cons {xs : List Sl} (h : Ev K ta env S x S1) (hr : EvA K tA env S1 xs S2) : EvA K (tCons ta tA) env S (x :: xs) S2 := fun B H as σ c g Q q =>
  h B H as σ c g _ fun v B1 H1 c1 e1 r1 => hr B1 H1 as σ c1 (g.mono e1.ex) _ fun vs B2 H2 c2 e2 r2 => q _ B2 H2 c2 (e1.trans e2) (.cons (r1.mono e2.ex) r2)
theorem ev_tup {ds : List Dat} (h : EvA K tA env S (ds.map Sl.d) S1) (hl : ds.length ≤ sizeLine) : Ev K (tTup tA) env S (.d (.tup ds)) S1 := fun B H as σ c g Q q =>
  h B H as σ c g _ fun vs B1 H1 c1 e1 r1 => ⟨by rw [r1.ds.length]; exact hl, fun p hp =>
    q _ (upd B1 p (.tup vs)) _ (c1.new hp) (e1.trans (Evo.new c1 hp)) (.tup (.inl (.inl upd_same)) (r1.ds.mono (Evl.Ex.new (c1.Bnone hp))))⟩
/-- a list that nothing knows becomes known -/
theorem Ok.know {B H : Hp} {as : List Addr} {p : Addr} {ob : HO} (c : Ok K B H as S) (hp : H p = some ob) (hb : B p = none) (ha : p ∉ as) : Ok K (upd B p ob) H as S where
  ex := fun a u e => by
    by_cases q : a = p
    · subst q; rw [upd_same] at e; cases e; exact hp
    · rw [upd_ne q] at e; exact c.ex a u e
  len := c.len
  cells := fun k a s h1 h2 => by
    obtain ⟨q1, q2⟩ := c.cells k a s h1 h2
    have ne : a ≠ p := by
      intro z
      subst z
      exact ha (List.mem_of_getElem? h1)
    rw [upd_ne ne]
    refine ⟨q1, ?_⟩
    obtain ⟨o, q3, q4⟩ := q2
    exact ⟨o, q3, q4.mono (Evl.Ex.new hb)⟩
  nd := c.nd
theorem Ok.there {B H : Hp} {as : List Addr} {p : Addr} (c : Ok K B H as S) (hp : p ∈ as) : ∃ o, H p = some o := by
  obtain ⟨k, hk⟩ := List.mem_iff_getElem?.mp hp
  have hl : k < S.length := by rw [← c.len]; exact (List.getElem?_eq_some_iff.mp hk).1
  obtain ⟨_, o, q3, _⟩ := c.cells k p S[k] hk (List.getElem?_eq_getElem hl)
  exact ⟨o, q3⟩
theorem Ok.fresh {B H : Hp} {as : List Addr} {p : Addr} (c : Ok K B H as S) (hp : H p = none) : p ∉ as := fun h => by
  obtain ⟨o, q⟩ := c.there h
  rw [hp] at q; cases q
theorem EvN.ev {ds : List Dat} (h : EvN K te env S ds S1) : Ev K te env S (.d (.lst ds)) S1 := fun B H as σ c g Q q =>
  h B H as σ c g _ fun p B1 H1 vs c1 e1 hp hb hl r1 =>
    q _ (upd B1 p (.lst vs)) H1 (c1.know hl hb (c.fresh hp)) ⟨e1.ex.trans (Evl.Ex.new hb), e1.fr, fun a h => by rw [upd_ne (by rintro rfl; exact h hp)]; exact e1.gr a h, e1.pr⟩ (.lst upd_same (r1.mono (Evl.Ex.new hb)))
/-- made at p just now -/
theorem evn_new {B H B1 H1 : Hp} {as : List Addr} {p : Addr} {vs : List V} {ds : List Dat} {Q : VK} (c : Ok K B H as S) (c1 : Ok K B1 H1 as S1) (e1 : Evo B H as B1 H1) (hp : H1 p = none) (r1 : Reps K B1 vs ds)
    (q : ∀ p B' H' vs, Ok K B' H' as S1 → Evo B H as B' H' → H p = none → B' p = none → H' p = some (.lst vs) → Reps K B' vs ds → Q (.ref p) H') : Q (.ref p) (upd H1 p (.lst vs)) := by
  have hp0 : H p = none := by
    cases e : H p with
    | none => rfl
    | some u => exact absurd hp (e1.pr p (by rw [e]; simp))
  have hpa : p ∉ as := c1.fresh hp
  refine q p B1 _ vs ⟨fun a u e => ?_, c1.len, fun k a s h1 h2 => ?_, c1.nd⟩ ⟨e1.ex, fun a u n h => ?_, e1.gr, fun a h => ?_⟩ hp0 (c1.Bnone hp) upd_same r1
  · rw [upd_ne (by rintro rfl; rw [c1.Bnone hp] at e; cases e)]
    exact c1.ex a u e
  · obtain ⟨q1, q2⟩ := c1.cells k a s h1 h2
    have ne : a ≠ p := by rintro rfl; exact hpa (List.mem_of_getElem? h1)
    refine ⟨q1, ?_⟩
    obtain ⟨o, q3, q4⟩ := q2
    exact ⟨o, by rw [upd_ne ne]; exact q3, q4⟩
  · rw [upd_ne (by rintro rfl; rw [hp0] at h; cases h)]
    exact e1.fr a u n h
  · rw [upd_ne (by rintro rfl; exact h hp0)]
    exact e1.pr a h
theorem en_lst {ds : List Dat} (h : EvA K tA env S (ds.map Sl.d) S1) (hl : ds.length ≤ sizeLine) : EvN K (tLst tA) env S ds S1 := fun B H as σ c g Q q =>
  h B H as σ c g _ fun vs B1 H1 c1 e1 r1 => ⟨by rw [r1.ds.length]; exact hl, fun p hp => evn_new c c1 e1 hp r1.ds q⟩

/-! ### sequences as they are read -/
/-- a list or a tuple (known, or changed now) of ds -/
def Seq (S : List Dat) (x : Sl) (ds : List Dat) : Prop := x = .d (.lst ds) ∨ x = .d (.tup ds) ∨ ∃ k, x = .c k ∧ S[k]? = some (.lst ds)
theorem Seq.lst {ds : List Dat} : Seq S (.d (.lst ds)) ds := .inl rfl
theorem Seq.tup {ds : List Dat} : Seq S (.d (.tup ds)) ds := .inr (.inl rfl)
theorem Seq.cell {ds : List Dat} {k : Nat} (h : S[k]? = some (.lst ds)) : Seq S (.c k) ds := .inr (.inr ⟨k, rfl, h⟩)
theorem Seq.read {B H : Hp} {as : List Addr} {v : V} {ds : List Dat} (c : Ok K B H as S) (h : Seq S x ds) (r : RepS K B as v x) : ∃ a k vs, v = .ref a ∧ Sq K k H a vs ∧ Reps K B vs ds := by
  rcases h with rfl | rfl | ⟨k, rfl, hk⟩
  · cases r with
    | lst h r => exact ⟨_, true, _, rfl, Or.inl (Or.inl (c.ex _ _ h)), r⟩
  · cases r with
    | tup h r => exact ⟨_, false, _, rfl, Evl.ex_t c.ex h, r⟩
  · obtain ⟨a, ha, rfl⟩ := r
    obtain ⟨_, q⟩ := c.cells k a _ ha hk
    obtain ⟨vs, q1, q2⟩ := q.lst
    exact ⟨a, true, vs, rfl, Or.inl (Or.inl q1), q2⟩
/-- .. that is a list -/
def SeqL (S : List Dat) (x : Sl) (ds : List Dat) : Prop := x = .d (.lst ds) ∨ ∃ k, x = .c k ∧ S[k]? = some (.lst ds)
theorem SeqL.read {B H : Hp} {as : List Addr} {v : V} {ds : List Dat} (c : Ok K B H as S) (h : SeqL S x ds) (r : RepS K B as v x) : ∃ a vs, v = .ref a ∧ H a = some (.lst vs) ∧ Reps K B vs ds := by
  rcases h with rfl | ⟨k, rfl, hk⟩
  · cases r with
    | lst h r => exact ⟨_, _, rfl, c.ex _ _ h, r⟩
  · obtain ⟨a, ha, rfl⟩ := r
    obtain ⟨_, q⟩ := c.cells k a _ ha hk
    obtain ⟨vs, q1, q2⟩ := q.lst
    exact ⟨a, vs, rfl, q1, q2⟩
theorem SeqL.lst {ds : List Dat} : SeqL S (.d (.lst ds)) ds := .inl rfl
theorem SeqL.cell {ds : List Dat} {k : Nat} (h : S[k]? = some (.lst ds)) : SeqL S (.c k) ds := .inr ⟨k, rfl, h⟩
theorem sq_or {H : Hp} {a : Addr} {vs : List V} {k : Bool} (h : Sq K k H a vs) : SqL K H a vs ∨ SqT K H a vs := by
  cases k with
  | true => exact .inl h
  | false => exact .inr h
theorem atI_reps {B : Hp} {vs : List V} {ds : List Dat} {i : Int} {d : Dat} (r : Reps K B vs ds) (h : atI ds i = some d) : ∃ v, atI vs i = some v ∧ Rep K B v d := by
  unfold atI at h ⊢
  rw [r.length]
  cases e : ixN ds.length i with
  | none => rw [e] at h; cases h
  | some j =>
    rw [e] at h
    exact r.get h
/-- xs[i] -/
theorem op2_ix {ds : List Dat} {i : Int} (h : Seq S x ds) (hi : atI ds i = some d) : Op2 K (rIx K) x (.d (.int i)) S d := fun B H as v w c h1 h2 Q q => by
  obtain ⟨a, k, vs, rfl, hq, hr⟩ := h.read c h1
  obtain ⟨u, hu, ru⟩ := atI_reps hr hi
  cases h2
  cases k with
  | true => exact .inl ⟨a, vs, i, u, rfl, rfl, hq, hu, q u B H c Evo.refl ru⟩
  | false => exact .inr (.inl ⟨a, vs, i, u, rfl, rfl, hq, hu, q u B H c Evo.refl ru⟩)
end
end RW

set_option Elab.async false
set_option linter.all false
set_option maxRecDepth 100000
set_option maxHeartbeats 4000000
namespace RW
open PySem PySem.Spec PyProof.Rows L2
open Evl (Ex)

/-! ### statements -/
structure Post where
  nx : Env1 → List Dat → Prop := fun _ _ => False
  rt : Dat → List Dat → Prop := fun _ _ => False
  bk : Env1 → List Dat → Prop := fun _ _ => False
  ct : Env1 → List Dat → Prop := fun _ _ => False
/-- where a def's body stands: it was entered at B0, H0 with the changed things as0 -/
structure Fr (B0 H0 : Hp) (as0 : List Addr) (Bk : Hp) (B H : Hp) (as : List Addr) : Prop where
  kn : Ex Bk B
  base : as.take as0.length = as0
  evo : Evo B0 H0 as0 B H
  loc : ∀ a ∈ as.drop as0.length, H0 a = none
def MeetE (K : PySem.W.Frag) (B0 H0 : Hp) (as0 : List Addr) (Bk : Hp) (p : Env1 → List Dat → Prop) (D : L2.St → Hp → Prop) : Prop :=
  ∀ env' S' B' H' as' σ', Fr B0 H0 as0 Bk B' H' as' → Ok K B' H' as' S' → EnvR K B' as' σ' env' → p env' S' → D σ' H'
structure Meets (K : PySem.W.Frag) (B0 H0 : Hp) (as0 : List Addr) (Bk : Hp) (D : Ends) (P : Post) : Prop where
  nx : MeetE K B0 H0 as0 Bk P.nx D.nx
  rt : ∀ v r S' B' H', Ok K B' H' as0 S' → Evo B0 H0 as0 B' H' → Rep K B' v r → P.rt r S' → D.rt v H'
  bk : MeetE K B0 H0 as0 Bk P.bk D.bk
  ct : MeetE K B0 H0 as0 Bk P.ct D.ct
/-- run from env, S, where n of the changed things came with the call, it ends in P -/
def SP (K : PySem.W.Frag) (n : Nat) (ts : TS) (env : Env1) (S : List Dat) (P : Post) : Prop :=
  ∀ B0 H0 as0 Bk B H as σ, as0.length = n → Fr B0 H0 as0 Bk B H as → Ok K B H as S → EnvR K B as σ env → ∀ D : Ends, Meets K B0 H0 as0 Bk D P → ts D σ H
section
variable {K : PySem.W.Frag} {n : Nat} {te ta tb tc to ti : TE} {tt : TT} {tA tR : TA} {env env' : Env1} {S S1 S2 S3 : List Dat} {x y z : Sl} {d e : Dat} {ds : List Dat} {r : R2} {P P' : Post} {t u : TS}
  {B B0 B1 B' Bk H H0 H1 H' : Hp} {as as0 as1 : List Addr} {D : Ends} {σ : L2.St} {i : Nat}
theorem Evo.old (e : Evo B H as B1 H1) {a : Addr} (h : H1 a = none) : H a = none := by
  cases q : H a with
  | none => rfl
  | some u => exact absurd h (e.pr a (by rw [q]; simp))
theorem Ok.upto (c : Ok K B H as S) (k : Nat) : Ok K B H (as.take k) (S.take k) where
  ex := c.ex
  len := by rw [List.length_take, List.length_take, c.len]
  cells := fun j a s h1 h2 => by
    have hk : j < (as.take k).length := (List.getElem?_eq_some_iff.mp h1).1
    rw [List.length_take] at hk
    have hk' : j < k := by omega
    rw [List.getElem?_take_of_lt hk'] at h1 h2
    exact c.cells j a s h1 h2
  nd := c.nd.sublist (List.take_sublist _ _)
theorem Fr.step (f : Fr B0 H0 as0 Bk B H as) (e : Evo B H as B1 H1) : Fr B0 H0 as0 Bk B1 H1 as where
  kn := f.kn.trans e.ex
  base := f.base
  evo := ⟨f.evo.ex.trans e.ex, fun a o hn q => e.fr a o (fun hm => by
      rw [← List.take_append_drop as0.length as, f.base] at hm
      rcases List.mem_append.mp hm with z | z
      · exact hn z
      · rw [f.loc a z] at q; cases q) (f.evo.fr a o hn q), fun a q => (e.gr a (f.evo.pr a q)).trans (f.evo.gr a q), fun a q => e.pr a (f.evo.pr a q)⟩
  loc := f.loc
theorem Fr.len (f : Fr B0 H0 as0 Bk B H as) : as0.length ≤ as.length := by
  have := congrArg List.length f.base
  rw [List.length_take] at this
  omega
/-- one more changed thing -/
theorem Fr.push {p : Addr} (f : Fr B0 H0 as0 Bk B H as) (h : H0 p = none) : Fr B0 H0 as0 Bk B H (as ++ [p]) where
  kn := f.kn
  base := by rw [List.take_append_of_le_length f.len]; exact f.base
  evo := f.evo
  loc := fun a ha => by
    rw [List.drop_append_of_le_length f.len] at ha
    rcases List.mem_append.mp ha with z | z
    · exact f.loc a z
    · rw [List.mem_singleton.mp z]; exact h
theorem Ok.push {p : Addr} {s0 : Dat} (c : Ok K B H as S) (hb : B p = none) (ha : p ∉ as) (r : CellAt K B H p s0) : Ok K B H (as ++ [p]) (S ++ [s0]) where
  ex := c.ex
  len := by rw [List.length_append, List.length_append, c.len]; rfl
  cells := fun k a s h1 h2 => by
    by_cases hk : k < as.length
    · rw [List.getElem?_append_left hk] at h1
      rw [List.getElem?_append_left (by rw [← c.len]; exact hk)] at h2
      exact c.cells k a s h1 h2
    · have hk2 : ¬ k < S.length := by rw [← c.len]; exact hk
      rw [List.getElem?_append_right (by omega)] at h1 h2
      have e0 : k - as.length = 0 := by
        have := (List.getElem?_eq_some_iff.mp h1).1
        simp at this
        omega
      have e1 : k - S.length = 0 := by rw [← c.len]; exact e0
      rw [e0] at h1
      rw [e1] at h2
      simp at h1 h2
      subst h1 h2
      exact ⟨hb, r⟩
  nd := List.nodup_append.mpr ⟨c.nd, by simp, fun a h1 b h2 => by rw [List.mem_singleton.mp h2]; rintro rfl; exact ha h1⟩
theorem SP.imp (h : SP K n t env S P) (hn : ∀ env' S', P.nx env' S' → P'.nx env' S') (hr : ∀ r S', P.rt r S' → P'.rt r S') (hb : ∀ env' S', P.bk env' S' → P'.bk env' S') (hc : ∀ env' S', P.ct env' S' → P'.ct env' S') : SP K n t env S P' :=
  fun B0 H0 as0 Bk B H as σ hl f c g D m => h B0 H0 as0 Bk B H as σ hl f c g D ⟨fun a b c d e f g h i p => m.nx a b c d e f g h i (hn _ _ p), fun a b c d e f g h p => m.rt a b c d e f g h (hr _ _ p),
    fun a b c d e f g h i p => m.bk a b c d e f g h i (hb _ _ p), fun a b c d e f g h i p => m.ct a b c d e f g h i (hc _ _ p)⟩
theorem sp_seq (h : SP K n t env S { P with nx := P'.nx }) (k : ∀ env' S', P'.nx env' S' → SP K n u env' S' P) : SP K n (tSeq t u) env S P := fun B0 H0 as0 Bk B H as σ hl f c g D m =>
  h B0 H0 as0 Bk B H as σ hl f c g { D with nx := u D } ⟨fun env' S' B' H' as' σ' f' c' g' p => k env' S' p B0 H0 as0 Bk B' H' as' σ' hl f' c' g' D m, m.rt, m.bk, m.ct⟩
/-- the first one goes on at one place alone -/
theorem sp_then (h : SP K n t env S { P with nx := fun env' S' => env' = env1 ∧ S' = S1 }) (k : SP K n u env1 S1 P) : SP K n (tSeq t u) env S P :=
  sp_seq (P' := { nx := fun env' S' => env' = env1 ∧ S' = S1 }) h fun env' S' ⟨e1, e2⟩ => by subst e1 e2; exact k
theorem sp_next (h : P.nx env S) : SP K n tNext env S P := fun B0 H0 as0 Bk B H as σ hl f c g D m => m.nx env S B H as σ f c g h
theorem sp_break (h : P.bk env S) : SP K n tBreak env S P := fun B0 H0 as0 Bk B H as σ hl f c g D m => m.bk env S B H as σ f c g h
theorem sp_cont (h : P.ct env S) : SP K n tCont env S P := fun B0 H0 as0 Bk B H as σ hl f c g D m => m.ct env S B H as σ f c g h
/-- x = e, and what follows -/
theorem sp_set (h : Ev K te env S x S1) (k : SP K n u (env.set i (some x)) S1 P) : SP K n (tSeq (tAsg te (gName i)) u) env S P := fun B0 H0 as0 Bk B H as σ hl f c g D m =>
  h B H as σ c g _ fun v B1 H1 c1 e1 r1 => k B0 H0 as0 Bk B1 H1 as _ hl (f.step e1) c1 ((g.mono e1.ex).set i r1) D m
theorem sp_set1 (h : Ev K te env S x S1) (k : P.nx (env.set i (some x)) S1) : SP K n (tAsg te (gName i)) env S P := fun B0 H0 as0 Bk B H as σ hl f c g D m =>
  h B H as σ c g _ fun v B1 H1 c1 e1 r1 => m.nx _ S1 B1 H1 as _ (f.step e1) c1 ((g.mono e1.ex).set i r1) k
/-- x = a new list, which will be changed -/
theorem sp_setC (h : EvN K te env S ds S1) (k : SP K n u (env.set i (some (.c S1.length))) (S1 ++ [.lst ds]) P) : SP K n (tSeq (tAsg te (gName i)) u) env S P := fun B0 H0 as0 Bk B H as σ hl f c g D m =>
  h B H as σ c g _ fun p B1 H1 vs c1 e1 hp hb h1 r1 => by
    have hpa := c.fresh hp
    refine k B0 H0 as0 Bk B1 H1 (as ++ [p]) _ hl ((f.step e1).push (f.evo.old hp)) (c1.push hb hpa (.ofL h1 r1)) (((g.mono e1.ex).grow).set i ?_) D m
    exact ⟨p, by rw [← c1.len]; simp, rfl⟩
/-- return e -/
theorem sp_ret (h : Ev K te env S (.d d) S1) (k : P.rt d (S1.take n)) : SP K n (tRet te) env S P := fun B0 H0 as0 Bk B H as σ hl f c g D m =>
  h B H as σ c g _ fun v B1 H1 c1 e1 r1 => by
    have f1 := f.step e1
    have c2 := c1.upto as0.length
    rw [f1.base] at c2
    subst hl
    exact m.rt v d _ B1 H1 c2 f1.evo r1 k
/-- return xs, a list that was made here and changed -/
theorem sp_retC {j k : Nat} (h : env[j]? = some (some (.c k))) (hs : S[k]? = some (.lst ds)) (hk : n ≤ k) (q : P.rt (.lst ds) (S.take n)) : SP K n (tRet (tVar j)) env S P := fun B0 H0 as0 Bk B H as σ hl f c g D m => by
  obtain ⟨v, h1, a, ha, rfl⟩ := g.2 j _ h
  obtain ⟨hb, q0⟩ := c.cells k a _ ha hs
  obtain ⟨vs, hv, rv⟩ := q0.lst
  refine ⟨.ref a, h1, ?_⟩
  have c2 := c.upto as0.length
  rw [f.base] at c2
  subst hl
  have hd : a ∈ as.drop as0.length := by
    have hkl := (List.getElem?_eq_some_iff.mp ha).1
    refine List.mem_of_getElem? (i := k - as0.length) ?_
    rw [List.getElem?_drop]
    rw [show as0.length + (k - as0.length) = k by omega]
    exact ha
  have hn : a ∉ as0 := by
    intro hm
    have nd := c.nd
    rw [← List.take_append_drop as0.length as, f.base] at nd
    exact (List.nodup_append.mp nd).2.2 a hm a hd rfl
  have h0 := f.loc a hd
  exact m.rt (.ref a) (.lst ds) _ (upd B a (.lst vs)) H (c2.know hv hb hn) ⟨f.evo.ex.trans (Evl.Ex.new hb), f.evo.fr, fun b hb' => by rw [upd_ne (by rintro rfl; exact hb' h0)]; exact f.evo.gr b hb', f.evo.pr⟩ (.lst upd_same (rv.mono (Evl.Ex.new hb))) q
theorem sp_retN (k : P.rt .non (S.take n)) : SP K n tRetN env S P := fun B0 H0 as0 Bk B H as σ hl f c g D m => by
  have c2 := c.upto as0.length
  rw [f.base] at c2
  subst hl
  exact m.rt .non .non _ B H c2 f.evo .non k
/-- e, and what follows -/
theorem sp_drop (h : Ev K te env S x S1) (k : SP K n u env S1 P) : SP K n (tSeq (tDrop te) u) env S P := fun B0 H0 as0 Bk B H as σ hl f c g D m =>
  h B H as σ c g _ fun v B1 H1 c1 e1 r1 => k B0 H0 as0 Bk B1 H1 as _ hl (f.step e1) c1 (g.mono e1.ex) D m
theorem sp_drop1 (h : Ev K te env S x S1) (k : P.nx env S1) : SP K n (tDrop te) env S P := fun B0 H0 as0 Bk B H as σ hl f c g D m =>
  h B H as σ c g _ fun v B1 H1 c1 e1 r1 => m.nx _ S1 B1 H1 as _ (f.step e1) c1 (g.mono e1.ex) k
theorem sp_if {b : Bool} (h : EvT K tt env S b S1) (h1 : b = true → SP K n t env S1 P) (h2 : b = false → SP K n u env S1 P) : SP K n (tIfS tt t u) env S P := fun B0 H0 as0 Bk B H as σ hl f c g D m =>
  h B H as σ c g _ fun B1 H1 c1 e1 => by
    cases b with
    | true => exact h1 rfl B0 H0 as0 Bk B1 H1 as _ hl (f.step e1) c1 (g.mono e1.ex) D m
    | false => exact h2 rfl B0 H0 as0 Bk B1 H1 as _ hl (f.step e1) c1 (g.mono e1.ex) D m
/-- an if, and what follows -/
theorem sp_ifq {v : TS} {b : Bool} (h : EvT K tt env S b S1) (h1 : b = true → SP K n (tSeq t v) env S1 P) (h2 : b = false → SP K n (tSeq u v) env S1 P) : SP K n (tSeq (tIfS tt t u) v) env S P := fun B0 H0 as0 Bk B H as σ hl f c g D m =>
  h B H as σ c g _ fun B1 H1 c1 e1 => by
    cases b with
    | true => exact h1 rfl B0 H0 as0 Bk B1 H1 as _ hl (f.step e1) c1 (g.mono e1.ex) D m
    | false => exact h2 rfl B0 H0 as0 Bk B1 H1 as _ hl (f.step e1) c1 (g.mono e1.ex) D m
theorem sp_nextq {v : TS} (h : SP K n v env S P) : SP K n (tSeq tNext v) env S P := fun B0 H0 as0 Bk B H as σ hl f c g D m => h B0 H0 as0 Bk B H as σ hl f c g D m
theorem sp_retq {v : TS} (h : SP K n (tRet te) env S P) : SP K n (tSeq (tRet te) v) env S P := fun B0 H0 as0 Bk B H as σ hl f c g D m =>
  h B0 H0 as0 Bk B H as σ hl f c g { D with nx := fun _ _ => True } ⟨fun _ _ _ _ _ _ _ _ _ _ => trivial, m.rt, m.bk, m.ct⟩
theorem sp_assoc {v : TS} (h : SP K n (tSeq t (tSeq u v)) env S P) : SP K n (tSeq (tSeq t u) v) env S P := h

/-! ### a def's promise: G args S result S' -/
def SpD (K : PySem.W.Frag) (G : List Sl → List Dat → Dat → List Dat → Prop) : Sp := fun vs H Q _ => ∃ B as S ss r S', Ok K B H as S ∧ RepSs K B as vs ss ∧ G ss S r S' ∧
  ∀ v B' H', Ok K B' H' as S' → Evo B H as B' H' → Rep K B' v r → Q v H'
theorem sp_body {G : List Sl → List Dat → Dat → List Dat → Prop} {N : List Str} {vs : List V} {Q : VK} {E : XK} (h : SpD K G vs H Q E)
    (k : ∀ ss S r S', G ss S r S' → SP K S.length t (ss.map some ++ List.replicate (N.length - ss.length) none) S { rt := fun r' T => r' = r ∧ T = S', nx := fun _ T => r = .non ∧ T.take S.length = S' }) :
    t { nx := fun _ H' => Q .non H', rt := Q } (start N vs) H := by
  obtain ⟨B, as, S, ss, r, S', c, rs, g, q⟩ := h
  refine k ss S r S' g B H as B B H as _ c.len ⟨Evl.Ex.refl B, List.take_length, Evo.refl, fun a ha => ?_⟩ c (EnvR.start rs) _ ⟨fun env' T B' H' as' σ' f c' g' ⟨p1, p2⟩ => ?_, fun v r' T B' H' c' e' r1 ⟨p1, p2⟩ => ?_, fun _ _ _ _ _ _ _ _ _ p => p.elim, fun _ _ _ _ _ _ _ _ _ p => p.elim⟩
  · rw [List.drop_length] at ha; cases ha
  · subst p1
    have c2 := c'.upto as.length
    rw [f.base, c.len, p2] at c2
    exact q .non B' H' c2 f.evo .non
  · subst p1 p2
    exact q v B' H' c' e' r1
theorem spd_len {G : List Sl → List Dat → Dat → List Dat → Prop} {k : Nat} (h : ∀ ss S r S', G ss S r S' → ss.length = k) : ∀ vs H Q E, SpD K G vs H Q E → vs.length = k := fun vs H Q E q => by
  obtain ⟨B, as, S, ss, r, S', c, rs, g, _⟩ := q
  rw [rs.length]
  exact h ss S r S' g
theorem ev_call {G : List Sl → List Dat → Dat → List Dat → Prop} {ss : List Sl} {E : XK} (h : EvA K tA env S ss S1) (hg : G ss S1 d S2) : Ev K (tCall (SpD K G) [] E tA) env S (.d d) S2 := fun B H as σ c g Q q =>
  h B H as σ c g _ fun vs B1 H1 c1 e1 r1 => ⟨B1, as, S1, ss, d, S2, c1, by rw [List.append_nil]; exact r1, hg, fun v B2 H2 c2 e2 r2 => q v B2 H2 c2 (e1.trans e2) r2⟩
end
end RW

set_option Elab.async false
set_option linter.all false
set_option maxRecDepth 100000
set_option maxHeartbeats 4000000
namespace RW
open PySem PySem.Spec PyProof.Rows L2
open Evl (Ex)
section
variable {K : PySem.W.Frag} {n : Nat} {te ta tb tc to ti : TE} {tt tu : TT} {tA tR : TA} {env env' : Env1} {S S1 S2 S3 : List Dat} {x y z : Sl} {d e : Dat} {ds es : List Dat} {r r' : R2} {P P' : Post} {t u : TS}
  {B B0 B1 B' H H0 H1 H' : Hp} {as as0 as1 : List Addr} {D : Ends} {σ : L2.St} {i : Nat} {a b c : Bool}
/-! ### truth -/
theorem et_test (h : Ev K te env S (.d (.bl b)) S1) : EvT K (tTest te) env S b S1 := fun B H as σ c g Q q => h B H as σ c g _ fun v B1 H1 c1 e1 r1 => by
  cases r1; exact ⟨b, rfl, q B1 H1 c1 e1⟩
theorem et_B (h : Ev K te env S (.d (.bl b)) S1) : EvT K (tB te) env S b S1 := fun B H as σ c g Q q => h B H as σ c g _ fun v B1 H1 c1 e1 r1 => by
  cases r1; exact ⟨b, rfl, q B1 H1 c1 e1⟩
theorem et_yes : EvT K tYes env S true S := fun B H as σ c g Q q => q B H c Evo.refl
theorem et_and (h1 : EvT K tt env S a S1) (h2 : a = true → EvT K tu env S1 b S2) (h3 : a = false → S2 = S1 ∧ b = false) : EvT K (tAnd tt tu) env S b S2 := fun B H as σ c g Q q =>
  h1 B H as σ c g _ fun B1 H1 c1 e1 => by
    cases a with
    | true => exact h2 rfl B1 H1 as σ c1 (g.mono e1.ex) Q fun B2 H2 c2 e2 => q B2 H2 c2 (e1.trans e2)
    | false =>
      obtain ⟨e2, e3⟩ := h3 rfl
      subst e2 e3
      exact q B1 H1 c1 e1
theorem et_or (h1 : EvT K tt env S a S1) (h2 : a = false → EvT K tu env S1 b S2) (h3 : a = true → S2 = S1 ∧ b = true) : EvT K (tOr tt tu) env S b S2 := fun B H as σ c g Q q =>
  h1 B H as σ c g _ fun B1 H1 c1 e1 => by
    cases a with
    | false => exact h2 rfl B1 H1 as σ c1 (g.mono e1.ex) Q fun B2 H2 c2 e2 => q B2 H2 c2 (e1.trans e2)
    | true =>
      obtain ⟨e2, e3⟩ := h3 rfl
      subst e2 e3
      exact q B1 H1 c1 e1
/-- both without change -/
theorem et_andP (h1 : EvT K tt env S a S) (h2 : a = true → EvT K tu env S b S) : EvT K (tAnd tt tu) env S (a && b) S := by
  cases a with
  | true => exact et_and h1 (fun _ => by simpa using h2 rfl) (fun h => by cases h)
  | false => exact et_and h1 (fun h => by cases h) (fun _ => ⟨rfl, rfl⟩)
theorem et_orP (h1 : EvT K tt env S a S) (h2 : a = false → EvT K tu env S b S) : EvT K (tOr tt tu) env S (a || b) S := by
  cases a with
  | false => exact et_or h1 (fun _ => by simpa using h2 rfl) (fun h => by cases h)
  | true => exact et_or h1 (fun h => by cases h) (fun _ => ⟨rfl, rfl⟩)
theorem et_not (h1 : EvT K tt env S a S1) : EvT K (tNot tt) env S (!a) S1 := fun B H as σ c g Q q => h1 B H as σ c g _ fun B1 H1 c1 e1 => q B1 H1 c1 e1
theorem ev_andV (h1 : Ev K ta env S (.d (.bl a)) S) (h2 : a = true → Ev K tb env S (.d (.bl b)) S) : Ev K (tAndV ta tb) env S (.d (.bl (a && b))) S := fun B H as σ c g Q q =>
  h1 B H as σ c g _ fun v B1 H1 c1 e1 r1 => by
    cases r1
    refine ⟨a, rfl, ?_⟩
    cases a with
    | true => exact h2 rfl B1 H1 as σ c1 (g.mono e1.ex) Q fun v B2 H2 c2 e2 r2 => q v B2 H2 c2 (e1.trans e2) r2
    | false => exact q _ B1 H1 c1 e1 (.bl false)
theorem ev_orV (h1 : Ev K ta env S (.d (.bl a)) S) (h2 : a = false → Ev K tb env S (.d (.bl b)) S) : Ev K (tOrV ta tb) env S (.d (.bl (a || b))) S := fun B H as σ c g Q q =>
  h1 B H as σ c g _ fun v B1 H1 c1 e1 r1 => by
    cases r1
    refine ⟨a, rfl, ?_⟩
    cases a with
    | false => exact h2 rfl B1 H1 as σ c1 (g.mono e1.ex) Q fun v B2 H2 c2 e2 r2 => q v B2 H2 c2 (e1.trans e2) r2
    | true => exact q _ B1 H1 c1 e1 (.bl true)
theorem ev_notV (h1 : Ev K ta env S (.d (.bl a)) S1) : Ev K (tNotV ta) env S (.d (.bl (!a))) S1 := fun B H as σ c g Q q =>
  h1 B H as σ c g _ fun v B1 H1 c1 e1 r1 => by
    cases r1
    exact ⟨a, rfl, q _ B1 H1 c1 e1 (.bl _)⟩
theorem ev_if (h : EvT K tt env S b S1) (h1 : b = true → Ev K ta env S1 x S2) (h2 : b = false → Ev K tb env S1 x S2) : Ev K (tIf tt ta tb) env S x S2 := fun B H as σ c g Q q =>
  h B H as σ c g _ fun B1 H1 c1 e1 => by
    cases b with
    | true => exact h1 rfl B1 H1 as σ c1 (g.mono e1.ex) Q fun v B2 H2 c2 e2 r2 => q v B2 H2 c2 (e1.trans e2) r2
    | false => exact h2 rfl B1 H1 as σ c1 (g.mono e1.ex) Q fun v B2 H2 c2 e2 r2 => q v B2 H2 c2 (e1.trans e2) r2
/-- a op b op' c -/
theorem ev_chain (h1 : Ev K ta env S x S1) (h2 : Ev K tb env S1 y S2) (hr : Op2 K r x y S2 (.bl a)) (h3 : a = true → Ev K tc env S2 z S2) (hr' : a = true → Op2 K r' y z S2 (.bl b)) : Ev K (tChain r r' ta tb tc) env S (.d (.bl (a && b))) S2 := fun B H as σ c g Q q =>
  h1 B H as σ c g _ fun v B1 H1 c1 e1 r1 => h2 B1 H1 as σ c1 (g.mono e1.ex) _ fun w B2 H2 c2 e2 r2 => hr B2 H2 as v w c2 (r1.mono e2.ex) r2 _ fun u B3 H3 c3 e3 r3 => by
    cases r3
    refine ⟨a, rfl, ?_⟩
    have e03 := (e1.trans e2).trans e3
    cases a with
    | true => exact h3 rfl B3 H3 as σ c3 (g.mono e03.ex) _ fun w' B4 H4 c4 e4 r4 => hr' rfl B4 H4 as w w' c4 ((r2.mono e3.ex).mono e4.ex) r4 Q fun u B5 H5 c5 e5 r5 => q u B5 H5 c5 ((e03.trans e4).trans e5) r5
    | false => exact q _ B3 H3 c3 e03 (.bl false)
/-- truth of a list, a tuple (if xs:) -/
def tTru (K : PySem.W.Frag) (ta : TE) : TT := fun σ H Q => ta σ H fun x H' => ∃ k, TruV K x H' k ∧ Q k H'
theorem pt_tru {X : Cx} {e : Expr} {ta : TE} (ha : PE X e ta) (he : ∀ whole, isTrue e X.env whole = (do let v ← whole; standAt e.pos; holding [v] (truthy v)) := by intro _; rfl) : PT X e (tTru X.K ta) := pt_truth ha he
theorem isEmpty_reps {vs : List V} {ds : List Dat} (r : Reps K B vs ds) : vs.isEmpty = ds.isEmpty := by cases r <;> rfl
theorem et_seq (h : Ev K ta env S x S1) (hs : Seq S1 x ds) : EvT K (tTru K ta) env S (!ds.isEmpty) S1 := fun B H as σ c g Q q => h B H as σ c g _ fun v B1 H1 c1 e1 r1 => by
  obtain ⟨a, k, vs, rfl, hq, hr⟩ := hs.read c1 r1
  refine ⟨!ds.isEmpty, ?_, q B1 H1 c1 e1⟩
  rw [← isEmpty_reps hr]
  cases k with
  | true => exact .inl ⟨vs, hq, rfl⟩
  | false => exact .inr (.inl ⟨vs, hq, rfl⟩)
theorem et_bl (h : Ev K ta env S (.d (.bl b)) S1) : EvT K (tTru K ta) env S b S1 := fun B H as σ c g Q q => h B H as σ c g _ fun v B1 H1 c1 e1 r1 => by
  cases r1; exact ⟨b, rfl, q B1 H1 c1 e1⟩

/-! ### calls of built-ins by values -/
theorem ev_cb {r : List V → Hp → VK → Prop} {xs : List Sl} (h : EvA K tA env S xs S1) (hc : CallD K r xs S1 d S2) : Ev K (tCB r tA) env S (.d d) S2 := fun B H as σ c g Q q =>
  h B H as σ c g _ fun vs B1 H1 c1 e1 r1 => hc B1 H1 as vs c1 r1 Q fun u B2 H2 c2 e2 r2 => q u B2 H2 c2 (e1.trans e2) r2
def rLenD (K : PySem.W.Frag) : List V → Hp → VK → Prop := fun xs H Q => ∃ p ys, xs = [.ref p] ∧ (SqL K H p ys ∨ SqT K H p ys) ∧ Q (.int ys.length) H
theorem call_lenD {X : Cx} : CallR X (.builtin "len") (rLenD X.K) := call_len_seq
theorem cd_len (h : Seq S x ds) : CallD K (rLenD K) [x] S (.int ds.length) S := fun B H as vs c r Q q => by
  cases r with
  | cons r1 rr =>
    cases rr
    obtain ⟨a, k, ws, rfl, hq, hr⟩ := h.read c r1
    exact ⟨a, ws, rfl, sq_or hq, by rw [hr.length]; exact q _ B H c Evo.refl (.int _)⟩
theorem cd_lenS {ns : List Int} : CallD K (rLenD K) [.d (.scr ns)] S (.int ns.length) S := fun B H as vs c r Q q => by
  cases r with
  | cons r1 rr =>
    cases rr
    cases r1 with
    | scr h =>
      refine ⟨_, _, rfl, .inl (Evl.ex_l c.ex h), ?_⟩
      rw [List.length_map]
      exact q _ B H c Evo.refl (.int _)
theorem cd_sum {ns : List Int} (h : SeqL S x (ns.map Dat.int)) : CallD K (rSum K) [x] S (.int ns.sum) S := fun B H as vs c r Q q => by
  cases r with
  | cons r1 rr =>
    cases rr
    obtain ⟨a, ws, rfl, hq, hr⟩ := h.read c r1
    rw [hr.ints] at hq
    exact ⟨a, ns, rfl, Evl.sq_of hq, q _ B H c Evo.refl (.int _)⟩
theorem cd_all {bs : List Bool} (h : SeqL S x (bs.map Dat.bl)) : CallD K (rAll K) [x] S (.bl (bs.all id)) S := fun B H as vs c r Q q => by
  cases r with
  | cons r1 rr =>
    cases rr
    obtain ⟨a, ws, rfl, hq, hr⟩ := h.read c r1
    rw [hr.bls] at hq
    exact ⟨a, bs, rfl, Evl.sq_of hq, q _ B H c Evo.refl (.bl _)⟩
theorem cd_any {bs : List Bool} (h : SeqL S x (bs.map Dat.bl)) : CallD K (rAny K) [x] S (.bl (bs.any id)) S := fun B H as vs c r Q q => by
  cases r with
  | cons r1 rr =>
    cases rr
    obtain ⟨a, ws, rfl, hq, hr⟩ := h.read c r1
    rw [hr.bls] at hq
    exact ⟨a, bs, rfl, Evl.sq_of hq, q _ B H c Evo.refl (.bl _)⟩
def rTupD (K : PySem.W.Frag) : List V → Hp → VK → Prop := fun xs H Q => ∃ p ys, xs = [.ref p] ∧ ((SqL K H p ys ∧ ∀ l, H l = none → Q (.ref l) (upd H l (.tup ys))) ∨ (SqT K H p ys ∧ Q (.ref p) H))
theorem call_tupD {X : Cx} (hc : X.calm = true) : CallR X (.type "tuple") (rTupD X.K) := by first | exact call_tuple_of | exact call_tuple_of hc
theorem cd_tup (h : SeqL S x ds) : CallD K (rTupD K) [x] S (.tup ds) S := fun B H as vs c r Q q => by
  cases r with
  | cons r1 rr =>
    cases rr
    obtain ⟨a, ws, rfl, hq, hr⟩ := h.read c r1
    exact ⟨a, ws, rfl, .inl ⟨Evl.sq_of hq, fun l hl => q _ (upd B l (.tup ws)) _ (c.new hl) (Evo.new c hl) (.tup (Evl.st_of upd_same) (hr.mono (Evl.Ex.new (c.Bnone hl))))⟩⟩
def rLstD (K : PySem.W.Frag) : List V → Hp → VK → Prop := fun xs H Q => ∃ p ys, xs = [.ref p] ∧ (SqL K H p ys ∨ SqT K H p ys) ∧ ∀ l, H l = none → Q (.ref l) (upd H l (.lst ys))
theorem call_lstD {X : Cx} (hc : X.calm = true) : CallR X (.type "list") (rLstD X.K) := by first | exact call_list_of | exact call_list_of hc
theorem en_list (h : EvA K tA env S [x] S1) (hs : Seq S1 x ds) : EvN K (tCB (rLstD K) tA) env S ds S1 := fun B H as σ c g Q q =>
  h B H as σ c g _ fun vs B1 H1 c1 e1 r1 => by
    cases r1 with
    | cons r1 rr =>
      cases rr
      obtain ⟨a, k, ws, rfl, hq, hr⟩ := hs.read c1 r1
      exact ⟨a, ws, rfl, sq_or hq, fun l hl => evn_new c c1 e1 hl hr q⟩
def rMax2D : List V → Hp → VK → Prop := fun xs H Q => ∃ i j, xs = [.int i, .int j] ∧ Q (.int (if j > i then j else i)) H
theorem call_max2D {X : Cx} (hc : X.calm = true) : CallR X (.builtin "max") rMax2D := call_max2 hc
theorem cd_max2 {i j : Int} : CallD K rMax2D [.d (.int i), .d (.int j)] S (.int (max i j)) S := fun B H as vs c r Q q => by
  cases r with
  | cons r1 rr =>
    cases rr with
    | cons r2 rr =>
      cases rr; cases r1; cases r2
      refine ⟨i, j, rfl, ?_⟩
      have e : (if j > i then j else i) = max i j := by rw [Int.max_def]; split <;> split <;> omega
      rw [e]
      exact q _ B H c Evo.refl (.int _)
def rMin2D : List V → Hp → VK → Prop := fun xs H Q => ∃ i j, xs = [.int i, .int j] ∧ Q (.int (if j < i then j else i)) H
theorem call_min2D {X : Cx} (hc : X.calm = true) : CallR X (.builtin "min") rMin2D := call_min2 hc
theorem cd_min2 {i j : Int} : CallD K rMin2D [.d (.int i), .d (.int j)] S (.int (min i j)) S := fun B H as vs c r Q q => by
  cases r with
  | cons r1 rr =>
    cases rr with
    | cons r2 rr =>
      cases rr; cases r1; cases r2
      refine ⟨i, j, rfl, ?_⟩
      have e : (if j < i then j else i) = min i j := by rw [Int.min_def]; split <;> split <;> omega
      rw [e]
      exact q _ B H c Evo.refl (.int _)
def rAbsD : List V → Hp → VK → Prop := fun xs H Q => ∃ i, xs = [.int i] ∧ Q (.int (if i < 0 then -i else i)) H
theorem call_absD {X : Cx} : CallR X (.builtin "abs") rAbsD := call_abs
theorem cd_abs {i : Int} : CallD K rAbsD [.d (.int i)] S (.int (i.natAbs : Int)) S := fun B H as vs c r Q q => by
  cases r with
  | cons r1 rr =>
    cases rr; cases r1
    refine ⟨i, rfl, ?_⟩
    have e : (if i < 0 then -i else i) = (i.natAbs : Int) := by split <;> omega
    rw [e]
    exact q _ B H c Evo.refl (.int _)
def rIntD : List V → Hp → VK → Prop := fun xs H Q => (∃ i, xs = [.int i] ∧ Q (.int i) H) ∨ ∃ b, xs = [.bl b] ∧ Q (.int (b2i b)) H
theorem call_intD {X : Cx} : CallR X (.type "int") rIntD := call_int1
theorem cd_int {i : Int} : CallD K rIntD [.d (.int i)] S (.int i) S := fun B H as vs c r Q q => by
  cases r with
  | cons r1 rr =>
    cases rr; cases r1
    exact .inl ⟨i, rfl, q _ B H c Evo.refl (.int _)⟩
theorem cd_intB : CallD K rIntD [.d (.bl b)] S (.int (b2i b)) S := fun B H as vs c r Q q => by
  cases r with
  | cons r1 rr =>
    cases rr; cases r1
    exact .inr ⟨b, rfl, q _ B H c Evo.refl (.int _)⟩
end
end RW

set_option Elab.async false
set_option linter.all false
set_option maxRecDepth 100000
set_option maxHeartbeats 4000000
namespace RW
open PySem PySem.Spec PyProof.Rows L2
open Evl (Ex)
section
variable {K : PySem.W.Frag} {n : Nat} {te ta tb tc to ti : TE} {tt tu : TT} {tA tR : TA} {env env' : Env1} {S S1 S2 S3 : List Dat} {x y z : Sl} {d e : Dat} {ds es : List Dat} {r r' : R2} {P P' : Post} {t u : TS}
  {B B0 B1 B' H H0 H1 H' : Hp} {as as0 as1 : List Addr} {D : Ends} {σ : L2.St} {i : Nat} {a b c : Bool}
/-! ### + and slices -/
theorem reps_nil {vs : List V} : Reps K B vs [] → vs = [] := fun h => by cases h; rfl
theorem reps_ne {vs : List V} (r : Reps K B vs ds) : vs = [] ↔ ds = [] := by cases r <;> simp
theorem op2_catT (hl : ds.length + es.length ≤ sizeLine) : Op2 K (rCatA K) (.d (.tup ds)) (.d (.tup es)) S (.tup (ds ++ es)) := fun B H as v w c h1 h2 Q q => by
  cases h1 with
  | tup h1 r1 =>
    cases h2 with
    | tup h2 r2 =>
      rename_i a1 xs a2 ys
      refine ⟨a1, a2, xs, ys, rfl, rfl, Evl.ex_t c.ex h1, Evl.ex_t c.ex h2, by rw [r1.length, r2.length]; exact hl, fun e => ?_, fun _ e => ?_, fun _ _ p hp => ?_⟩
      · have : ds = [] := (reps_ne r1).mp e
        subst this
        exact q _ B H c Evo.refl (.tup h2 r2)
      · have : es = [] := (reps_ne r2).mp e
        subst this
        rw [List.append_nil] at q
        exact q _ B H c Evo.refl (.tup h1 r1)
      · exact q _ (upd B p _) _ (c.new hp) (Evo.new c hp) (.tup (Evl.st_of upd_same) ((r1.append r2).mono (Evl.Ex.new (c.Bnone hp))))
/-- a binary operation that makes a new list -/
theorem en_cat {ds es : List Dat} (ha : Ev K ta env S x S1) (hb : Ev K tb env S1 y S2) (hx : SeqL S2 x ds) (hy : SeqL S2 y es) (hl : ds.length + es.length ≤ sizeLine) : EvN K (tOp rCat ta tb) env S (ds ++ es) S2 := fun B H as σ c g Q q =>
  ha B H as σ c g _ fun v B1 H1 c1 e1 r1 => hb B1 H1 as σ c1 (g.mono e1.ex) _ fun w B2 H2 c2 e2 r2 => by
    obtain ⟨a1, xs, rfl, h1, q1⟩ := hx.read c2 (r1.mono e2.ex)
    obtain ⟨a2, ys, rfl, h2, q2⟩ := hy.read c2 r2
    exact ⟨a1, a2, xs, ys, rfl, rfl, h1, h2, by rw [q1.length, q2.length]; exact hl, fun p hp => evn_new c c2 (e1.trans e2) hp (q1.append q2) q⟩
theorem reps_rep {vs : List V} (r : Reps K B vs ds) : ∀ k : Nat, Reps K B (List.replicate k vs).flatten (List.replicate k ds).flatten
  | 0 => .nil
  | k + 1 => by
    rw [List.replicate_succ, List.replicate_succ, List.flatten_cons, List.flatten_cons]
    exact r.append (reps_rep r k)
theorem en_rep {ds : List Dat} {k : Int} (ha : Ev K ta env S x S1) (hb : Ev K tb env S1 (.d (.int k)) S2) (hx : SeqL S2 x ds) (hk : -(2 ^ 63) ≤ k ∧ k < 2 ^ 63) (hl : ds.length * k.toNat ≤ sizeLine) : EvN K (tOp rRep ta tb) env S (List.replicate k.toNat ds).flatten S2 := fun B H as σ c g Q q =>
  ha B H as σ c g _ fun v B1 H1 c1 e1 r1 => hb B1 H1 as σ c1 (g.mono e1.ex) _ fun w B2 H2 c2 e2 r2 => by
    obtain ⟨a1, xs, rfl, h1, q1⟩ := hx.read c2 (r1.mono e2.ex)
    cases r2
    exact ⟨a1, k, xs, rfl, rfl, h1, hk.1, hk.2, by rw [q1.length]; exact hl, fun p hp => evn_new c c2 (e1.trans e2) hp (reps_rep q1 _) q⟩
def cutD (xs : List Dat) (lo hi : Option Int) : List Dat := (xs.drop (HT.sIx xs.length 0 lo)).take (HT.sIx xs.length xs.length hi - HT.sIx xs.length 0 lo)
theorem reps_cut {vs : List V} (r : Reps K B vs ds) (lo hi : Option Int) : Reps K B (cutV vs lo hi) (cutD ds lo hi) := by
  unfold cutV cutD
  rw [r.length]
  exact (r.drop _).take _
def EvO (K : PySem.W.Frag) (to : TO) (env : Env1) (S : List Dat) (o : Option Int) (S' : List Dat) : Prop :=
  ∀ B H as σ, Ok K B H as S → EnvR K B as σ env → ∀ Q : Option Int → Hp → Prop, (∀ B' H', Ok K B' H' as S' → Evo B H as B' H' → Q o H') → to σ H Q
theorem eo_none : EvO K tNoPart env S none S := fun B H as σ c g Q q => q B H c Evo.refl
theorem eo_some {k : Int} (h : Ev K te env S (.d (.int k)) S1) : EvO K (tPart te) env S (some k) S1 := fun B H as σ c g Q q => h B H as σ c g _ fun v B1 H1 c1 e1 r1 => by
  cases r1; exact ⟨k, rfl, q B1 H1 c1 e1⟩
theorem cutD_whole {lo hi : Option Int} (h : HT.sIx ds.length 0 lo = 0 ∧ HT.sIx ds.length ds.length hi = ds.length) : cutD ds lo hi = ds := by
  unfold cutD
  rw [h.1, h.2, List.drop_zero, Nat.sub_zero, List.take_length]
/-- t[lo:hi], a tuple -/
theorem ev_slT {tl th : TO} {lo hi : Option Int} (h : Ev K te env S (.d (.tup ds)) S1) (hl : EvO K tl env S1 lo S2) (hh : EvO K th env S2 hi S3) : Ev K (tSl (rSlA K) te tl th) env S (.d (.tup (cutD ds lo hi))) S3 := fun B H as σ c g Q q =>
  h B H as σ c g _ fun v B1 H1 c1 e1 r1 => hl B1 H1 as σ c1 (g.mono e1.ex) _ fun B2 H2 c2 e2 => hh B2 H2 as σ c2 (g.mono (e1.trans e2).ex) _ fun B3 H3 c3 e3 => by
    have r3 : Rep K B3 v (.tup ds) := Rep.mono (e2.trans e3).ex r1
    have e03 := (e1.trans e2).trans e3
    cases r3 with
    | tup h1 r1 =>
      refine ⟨_, _, rfl, Evl.ex_t c3.ex h1, fun hw => ?_, fun hw p hp => ?_⟩
      · rw [r1.length] at hw
        rw [cutD_whole hw] at q
        exact q _ B3 H3 c3 e03 (.tup h1 r1)
      · exact q _ (upd B3 p _) _ (c3.new hp) (e03.trans (Evo.new c3 hp)) (.tup (Evl.st_of upd_same) ((reps_cut r1 lo hi).mono (Evl.Ex.new (c3.Bnone hp))))
/-- xs[lo:hi], a list -/
theorem en_slL {tl th : TO} {lo hi : Option Int} (h : Ev K te env S x S1) (hl : EvO K tl env S1 lo S2) (hh : EvO K th env S2 hi S3) (hx : SeqL S3 x ds) : EvN K (tSl (rSlL K) te tl th) env S (cutD ds lo hi) S3 := fun B H as σ c g Q q =>
  h B H as σ c g _ fun v B1 H1 c1 e1 r1 => hl B1 H1 as σ c1 (g.mono e1.ex) _ fun B2 H2 c2 e2 => hh B2 H2 as σ c2 (g.mono (e1.trans e2).ex) _ fun B3 H3 c3 e3 => by
    obtain ⟨a1, xs, rfl, h1, q1⟩ := hx.read c3 (r1.mono (e2.trans e3).ex)
    exact ⟨a1, xs, rfl, Evl.sq_of h1, fun p hp => evn_new c c3 ((e1.trans e2).trans e3) hp (reps_cut q1 lo hi) q⟩

/-! ### what is walked -/
structure WalkD (K : PySem.W.Frag) (B : Hp) (J : It) (G : List Addr → List Dat → Prop) (ds : List Dat) : Prop where
  go : ∀ B2 H2 as2 S2 i, Ex B B2 → Ok K B2 H2 as2 S2 → G as2 S2 → i < ds.length → J.go i H2
  yld : ∀ B2 H2 as2 S2 i x H3, Ex B B2 → Ok K B2 H2 as2 S2 → G as2 S2 → i < ds.length → J.yld i H2 x H3 → ∃ B3 d, Ok K B3 H3 as2 S2 ∧ Evo B2 H2 as2 B3 H3 ∧ ds[i]? = some d ∧ Rep K B3 x d
  stop : ∀ B2 H2 as2 S2, Ex B B2 → Ok K B2 H2 as2 S2 → G as2 S2 → J.stop ds.length H2
def IterD (K : PySem.W.Frag) (wi : TI) (env : Env1) (S : List Dat) (G : List Addr → List Addr → List Dat → Prop) (ds : List Dat) (S1 : List Dat) : Prop :=
  ∀ B H as σ, Ok K B H as S → EnvR K B as σ env → ∀ R : It → Hp → Prop, (∀ J B1 H1, Ok K B1 H1 as S1 → Evo B H as B1 H1 → WalkD K B1 J (G as) ds → R J H1) → wi σ H R
/-- nothing is asked: what is walked is known -/
def G0 : List Addr → List Addr → List Dat → Prop := fun _ _ _ => True
/-- the k-th changed thing, left as it is while it is walked -/
def Gc (k : Nat) (ds : List Dat) : List Addr → List Addr → List Dat → Prop := fun as as2 S2 => as2[k]? = as[k]? ∧ S2[k]? = some (.lst ds)
theorem walk_known {a : Addr} {vs : List V} {k : Bool} (hq : Sq K k B a vs) (r : Reps K B vs ds) (G : List Addr → List Dat → Prop) : WalkD K B (ItS K k a) G ds where
  go := fun B2 H2 as2 S2 i e c _ hi => by
    obtain ⟨v, hv, _⟩ := r.get (List.getElem?_eq_getElem hi)
    cases k with
    | true => exact ⟨vs, v, Evl.ex_l c.ex (Evl.ex_l e hq), hv⟩
    | false => exact ⟨vs, v, Evl.ex_t c.ex (Evl.ex_t e hq), hv⟩
  yld := fun B2 H2 as2 S2 i x H3 e c _ hi y => by
    obtain ⟨v, hv, rv⟩ := r.get (List.getElem?_eq_getElem hi)
    cases k with
    | true =>
      obtain ⟨rfl, y⟩ := y
      have := y vs (Evl.ex_l c.ex (Evl.ex_l e hq))
      rw [hv] at this
      cases this
      exact ⟨B2, _, c, Evo.refl, List.getElem?_eq_getElem hi, rv.mono e⟩
    | false =>
      obtain ⟨rfl, y⟩ := y
      have := y vs (Evl.ex_t c.ex (Evl.ex_t e hq))
      rw [hv] at this
      cases this
      exact ⟨B2, _, c, Evo.refl, List.getElem?_eq_getElem hi, rv.mono e⟩
  stop := fun B2 H2 as2 S2 e c _ => by
    cases k with
    | true => exact ⟨vs, Evl.ex_l c.ex (Evl.ex_l e hq), by rw [r.length]; exact Nat.le_refl _⟩
    | false => exact ⟨vs, Evl.ex_t c.ex (Evl.ex_t e hq), by rw [r.length]; exact Nat.le_refl _⟩
theorem it_lst (h : Ev K te env S (.d (.lst ds)) S1) : IterD K (iSeq K te) env S G0 ds S1 := fun B H as σ c g R q => h B H as σ c g _ fun v B1 H1 c1 e1 r1 => by
  cases r1 with
  | lst h r => exact ⟨_, true, rfl, ⟨_, Evl.sq_of (c1.ex _ _ h)⟩, q _ B1 H1 c1 e1 (walk_known (k := true) (Evl.sq_of h) r _)⟩
theorem it_tup (h : Ev K te env S (.d (.tup ds)) S1) : IterD K (iSeq K te) env S G0 ds S1 := fun B H as σ c g R q => h B H as σ c g _ fun v B1 H1 c1 e1 r1 => by
  cases r1 with
  | tup h r => exact ⟨_, false, rfl, ⟨_, Evl.ex_t c1.ex h⟩, q _ B1 H1 c1 e1 (walk_known (k := false) h r _)⟩
theorem it_cell {k : Nat} (h : Ev K te env S (.c k) S1) (hk : S1[k]? = some (.lst ds)) : IterD K (iSeq K te) env S (Gc k ds) ds S1 := fun B H as σ c g R q => h B H as σ c g _ fun v B1 H1 c1 e1 r1 => by
  obtain ⟨a, ha, rfl⟩ := r1
  obtain ⟨_, q0⟩ := c1.cells k a _ ha hk
  obtain ⟨vs, hv, rv⟩ := q0.lst
  have rd : ∀ {B2 H2 as2 S2}, Ok K B2 H2 as2 S2 → Gc k ds as as2 S2 → ∃ ws, H2 a = some (.lst ws) ∧ Reps K B2 ws ds := fun {B2 H2 as2 S2} c2 g2 => by
    obtain ⟨g1, g2⟩ := g2
    obtain ⟨_, q0⟩ := c2.cells k a _ (g1.trans ha) g2
    obtain ⟨ws, hw, rw'⟩ := q0.lst
    exact ⟨ws, hw, rw'⟩
  refine ⟨a, true, rfl, ⟨vs, Evl.sq_of hv⟩, q _ B1 H1 c1 e1 ⟨fun B2 H2 as2 S2 i e c2 g2 hi => ?_, fun B2 H2 as2 S2 i x H3 e c2 g2 hi y => ?_, fun B2 H2 as2 S2 e c2 g2 => ?_⟩⟩
  · obtain ⟨ws, hw, rw'⟩ := rd c2 g2
    obtain ⟨v, hv, _⟩ := rw'.get (List.getElem?_eq_getElem hi)
    exact ⟨ws, v, Evl.sq_of hw, hv⟩
  · obtain ⟨ws, hw, rw'⟩ := rd c2 g2
    obtain ⟨v, hv, rv⟩ := rw'.get (List.getElem?_eq_getElem hi)
    obtain ⟨rfl, y⟩ := y
    have := y ws (Evl.sq_of hw)
    rw [hv] at this
    cases this
    exact ⟨B2, _, c2, Evo.refl, List.getElem?_eq_getElem hi, rv⟩
  · obtain ⟨ws, hw, rw'⟩ := rd c2 g2
    exact ⟨ws, Evl.sq_of hw, by rw [rw'.length]; exact Nat.le_refl _⟩
theorem it_script {ns : List Int} (h : Ev K te env S (.d (.scr ns)) S1) : IterD K (iSeq K te) env S G0 (ns.map Dat.int) S1 := fun B H as σ c g R q => h B H as σ c g _ fun v B1 H1 c1 e1 r1 => by
  cases r1 with
  | scr h =>
    have rr : ∀ ns : List Int, Reps K B1 (ns.map V.int) (ns.map Dat.int) := fun ns => by
      induction ns with
      | nil => exact .nil
      | cons n ns ih => exact .cons (.int n) ih
    exact ⟨_, true, rfl, ⟨_, Evl.ex_l c1.ex h⟩, q _ B1 H1 c1 e1 (walk_known (k := true) h (rr ns) _)⟩
/-- range(n), range(lo, hi) -/
def rng (lo : Int) (n : Nat) : List Dat := (List.range n).map fun i => Dat.int (lo + (i : Nat))
theorem rng_get {lo : Int} {n i : Nat} (h : i < n) : (rng lo n)[i]? = some (.int (lo + (i : Nat))) := by
  unfold rng
  rw [List.getElem?_map, List.getElem?_range h]
  rfl
theorem rng_len {lo : Int} {n : Nat} : (rng lo n).length = n := by unfold rng; rw [List.length_map, List.length_range]
theorem walk_rng {lo : Int} {n : Nat} {G : List Addr → List Dat → Prop} : WalkD K B (Itr lo n) G (rng lo n) where
  go := fun B2 H2 as2 S2 i _ _ _ hi => by rw [rng_len] at hi; exact hi
  yld := fun B2 H2 as2 S2 i x H3 _ c _ hi y => by
    rw [rng_len] at hi
    obtain ⟨rfl, rfl⟩ := y
    exact ⟨B2, _, c, Evo.refl, rng_get hi, .int _⟩
  stop := fun B2 H2 as2 S2 _ _ _ => by rw [rng_len]; exact Nat.le_refl _
theorem it_range1 {j : Int} (h : EvA K tA env S [.d (.int j)] S1) (hj : -(2 ^ 62) ≤ j ∧ j < 2 ^ 62) : IterD K (iRng1 tA) env S G0 (rng 0 j.toNat) S1 := fun B H as σ c g R q => h B H as σ c g _ fun vs B1 H1 c1 e1 r1 => by
  cases r1 with
  | cons r1 rr =>
    cases rr; cases r1
    exact ⟨j, rfl, hj.1, hj.2, q _ B1 H1 c1 e1 walk_rng⟩
theorem it_range2 {i j : Int} (h : EvA K tA env S [.d (.int i), .d (.int j)] S1) (hi : -(2 ^ 62) ≤ i ∧ i < 2 ^ 62) (hj : -(2 ^ 62) ≤ j ∧ j < 2 ^ 62) : IterD K (iRng2 tA) env S G0 (rng i (j - i).toNat) S1 := fun B H as σ c g R q => h B H as σ c g _ fun vs B1 H1 c1 e1 r1 => by
  cases r1 with
  | cons r1 rr =>
    cases rr with
    | cons r2 rr =>
      cases rr; cases r1; cases r2
      exact ⟨i, j, rfl, ⟨hi.1, hi.2, hj.1, hj.2⟩, q _ B1 H1 c1 e1 walk_rng⟩
/-- zip -/
def zipD (ds es : List Dat) : List Dat := List.zipWith (fun x y => Dat.tup [x, y]) ds es
theorem zipD_len : (zipD ds es).length = min ds.length es.length := by unfold zipD; rw [List.length_zipWith]
theorem zipD_get {i : Nat} {d e : Dat} (h1 : ds[i]? = some d) (h2 : es[i]? = some e) : (zipD ds es)[i]? = some (.tup [d, e]) := by
  unfold zipD
  rw [List.getElem?_zipWith, h1, h2]
/-- a sequence that stays: known data, or a changed thing that no one changes now -/
def GS (x : Sl) (ds : List Dat) : List Addr → List Addr → List Dat → Prop := match x with
  | .d _ => fun _ _ _ => True
  | .c k => fun as as2 S2 => as2[k]? = as[k]? ∧ S2[k]? = some (.lst ds)
theorem seq_stays {v : V} (c : Ok K B H as S) (hx : Seq S x ds) (r : RepS K B as v x) : ∃ a k, v = .ref a ∧ (∃ vs, Sq K k H a vs) ∧ ∀ B2 H2 as2 S2, Ex B B2 → Ok K B2 H2 as2 S2 → GS x ds as as2 S2 → ∃ ws, Sq K k H2 a ws ∧ Reps K B2 ws ds := by
  rcases hx with rfl | rfl | ⟨k, rfl, hk⟩
  · cases r with
    | lst h r => exact ⟨_, true, rfl, ⟨_, Evl.sq_of (c.ex _ _ h)⟩, fun B2 H2 as2 S2 e c2 _ => ⟨_, Evl.sq_of (c2.ex _ _ (e _ _ h)), r.mono e⟩⟩
  · cases r with
    | tup h r => exact ⟨_, false, rfl, ⟨_, Evl.ex_t c.ex h⟩, fun B2 H2 as2 S2 e c2 _ => ⟨_, Evl.ex_t c2.ex (Evl.ex_t e h), r.mono e⟩⟩
  · obtain ⟨a, ha, rfl⟩ := r
    obtain ⟨_, q0⟩ := c.cells k a _ ha hk
    obtain ⟨vs, hv, _⟩ := q0.lst
    refine ⟨a, true, rfl, ⟨vs, Evl.sq_of hv⟩, fun B2 H2 as2 S2 e c2 g2 => ?_⟩
    obtain ⟨g1, g2⟩ := g2
    obtain ⟨_, q0⟩ := c2.cells k a _ (g1.trans ha) g2
    obtain ⟨ws, hw, rw'⟩ := q0.lst
    exact ⟨ws, Evl.sq_of hw, rw'⟩
theorem sq_inj {k : Bool} {a : Addr} {xs ys : List V} (c : Ok K B H as S) (h1 : Sq K k H a xs) (h2 : Sq K k H a ys) (hk : ∀ o : Obj, K.lookup a = some o → False ∨ True) : True := trivial
theorem it_zip (h : EvA K tA env S [x, y] S1) (hx : Seq S1 x ds) (hy : Seq S1 y es) : IterD K (iZipG K tA) env S (fun as as2 S2 => GS x ds as as2 S2 ∧ GS y es as as2 S2) (zipD ds es) S1 := fun B H as σ c g R q => h B H as σ c g _ fun vs B1 H1 c1 e1 r1 => by
  cases r1 with
  | cons r1 rr =>
    cases rr with
    | cons r2 rr =>
      cases rr
      obtain ⟨a1, k1, rfl, ⟨w1, q1⟩, st1⟩ := seq_stays c1 hx r1
      obtain ⟨a2, k2, rfl, ⟨w2, q2⟩, st2⟩ := seq_stays c1 hy r2
      refine ⟨a1, a2, k1, k2, w1, w2, rfl, q1, q2, q _ B1 H1 c1 e1 ⟨fun B2 H2 as2 S2 i e c2 g2 hi => ?_, fun B2 H2 as2 S2 i x H3 e c2 g2 hi y => ?_, fun B2 H2 as2 S2 e c2 g2 => ?_⟩⟩
      · obtain ⟨u1, p1, rp1⟩ := st1 B2 H2 as2 S2 e c2 g2.1
        obtain ⟨u2, p2, rp2⟩ := st2 B2 H2 as2 S2 e c2 g2.2
        rw [zipD_len] at hi
        obtain ⟨v1, hv1, _⟩ := rp1.get (List.getElem?_eq_getElem (show i < ds.length by omega))
        obtain ⟨v2, hv2, _⟩ := rp2.get (List.getElem?_eq_getElem (show i < es.length by omega))
        exact ⟨u1, u2, v1, v2, p1, p2, hv1, hv2⟩
      · obtain ⟨u1, p1, rp1⟩ := st1 B2 H2 as2 S2 e c2 g2.1
        obtain ⟨u2, p2, rp2⟩ := st2 B2 H2 as2 S2 e c2 g2.2
        obtain ⟨T, v1, v2, rfl, hT, rfl, y1, y2⟩ := y
        obtain ⟨d1, hd1, r1⟩ := rp1.get' (y1 u1 p1)
        obtain ⟨d2, hd2, r2⟩ := rp2.get' (y2 u2 p2)
        have hB : Ex B2 (upd B2 T (.tup [v1, v2])) := Evl.Ex.new (c2.Bnone hT)
        exact ⟨upd B2 T (.tup [v1, v2]), .tup [d1, d2], c2.new hT, Evo.new c2 hT, zipD_get hd1 hd2, .tup (Evl.st_of upd_same) (.cons (r1.mono hB) (.cons (r2.mono hB) .nil))⟩
      · obtain ⟨u1, p1, rp1⟩ := st1 B2 H2 as2 S2 e c2 g2.1
        obtain ⟨u2, p2, rp2⟩ := st2 B2 H2 as2 S2 e c2 g2.2
        refine ⟨u1, u2, p1, p2, ?_, ?_, ?_⟩ <;> rw [zipD_len] <;> have := rp1.length <;> have := rp2.length <;> omega

/-! ### targets -/
def TgD (K : PySem.W.Frag) (g : TG) (d : Dat) (is : List Nat) (f : Env1 → Env1) : Prop :=
  ∀ B H as S σ env v, Ok K B H as S → EnvR K B as σ env → Rep K B v d → ∀ Q : L2.St → Hp → Prop, (∀ σ', EnvR K B as σ' (f env) → (∀ vs : List Nat, (∀ i ∈ is, i ∈ vs) → L2.wipe σ' vs = L2.wipe σ vs) → Q σ' H) → g v σ H Q
theorem set_comm_none {σ : L2.St} {i j : Nat} {x : Option V} (h : i ≠ j) : (σ.set i x).set j none = (σ.set j none).set i x := (List.set_comm _ _ h)
theorem wipe_set {σ : L2.St} {i : Nat} {x : Option V} : ∀ {vs : List Nat}, i ∈ vs → L2.wipe (σ.set i x) vs = L2.wipe σ vs
  | [], h => by cases h
  | v :: vs, h => by
    unfold L2.wipe
    by_cases hi : i ∈ vs
    · rw [wipe_set hi]
    · have hv : i = v := by
        rcases List.mem_cons.mp h with h | h
        · exact h
        · exact absurd h hi
      subst hv
      have key : ∀ ws : List Nat, i ∉ ws → L2.wipe (σ.set i x) ws = (L2.wipe σ ws).set i x := by
        intro ws
        induction ws with
        | nil => intro _; rfl
        | cons w ws ih =>
          intro hn
          unfold L2.wipe
          rw [ih (fun z => hn (List.mem_cons_of_mem _ z))]
          exact List.set_comm _ _ (fun z => hn (by rw [z]; exact List.mem_cons_self))
      rw [key vs hi, List.set_set]
theorem tg_name {j : Nat} : TgD K (gName j) d [j] (fun env => env.set j (some (.d d))) := fun B H as S σ env v c g r Q q =>
  q _ (EnvR.set (s := .d d) j g r) fun vs h => wipe_set (h j (by simp))
theorem tg_pair {j k : Nat} : TgD K (gTup K 2 (gCons (gName j) (gCons (gName k) gNil))) (.tup [d, e]) [j, k] (fun env => (env.set j (some (.d d))).set k (some (.d e))) := fun B H as S σ env v c g r Q q => by
  cases r with
  | tup h r =>
    cases r with
    | cons r1 r =>
      cases r with
      | cons r2 r =>
        cases r
        refine ⟨_, _, rfl, Evl.ex_t c.ex h, rfl, _, _, rfl, _, _, rfl, rfl, q _ (EnvR.set (s := .d e) k (EnvR.set (s := .d d) j g r1) r2) fun vs hv => ?_⟩
        rw [wipe_set (hv k (by simp)), wipe_set (hv j (by simp))]
theorem tg_three {j k l : Nat} {f : Dat} : TgD K (gTup K 3 (gCons (gName j) (gCons (gName k) (gCons (gName l) gNil)))) (.tup [d, e, f]) [j, k, l] (fun env => ((env.set j (some (.d d))).set k (some (.d e))).set l (some (.d f))) := fun B H as S σ env v c g r Q q => by
  cases r with
  | tup h r =>
    cases r with
    | cons r1 r =>
      cases r with
      | cons r2 r =>
        cases r with
        | cons r3 r =>
          cases r
          refine ⟨_, _, rfl, Evl.ex_t c.ex h, rfl, _, _, rfl, _, _, rfl, _, _, rfl, rfl, q _ (EnvR.set (s := .d f) l (EnvR.set (s := .d e) k (EnvR.set (s := .d d) j g r1) r2) r3) fun vs hv => ?_⟩
          rw [wipe_set (hv l (by simp)), wipe_set (hv k (by simp)), wipe_set (hv j (by simp))]
/-- (a, b) = e -/
theorem sp_asg {g : TG} {is : List Nat} {f : Env1 → Env1} (h : Ev K te env S (.d d) S1) (hg : TgD K g d is f) (k : SP K n u (f env) S1 P) : SP K n (tSeq (tAsg te g) u) env S P := fun B0 H0 as0 Bk B H as σ hl f0 c g0 D m =>
  h B H as σ c g0 _ fun v B1 H1 c1 e1 r1 => hg B1 H1 as S1 σ env v c1 (g0.mono e1.ex) r1 _ fun σ' g' _ => k B0 H0 as0 Bk B1 H1 as σ' hl (f0.step e1) c1 g' D m

/-! ### for -/
/-- env may know less -/
theorem sp_for {wi : TI} {g : TG} {tb : TS} {G : List Addr → List Addr → List Dat → Prop} (hw : IterD K wi env S G ds S1) (Inv : Nat → Env1 → List Dat → Prop) (h0 : Inv 0 env S1)
    (hG : ∀ i env' S' as as2, Inv i env' S' → as.length = S1.length → as2.length = S'.length → as2.take n = as.take n → G as as2 S')
    (hs : ∀ i d env' S', ds[i]? = some d → Inv i env' S' → ∃ is f, TgD K g d is f ∧ SP K n tb (f env') S' { P with nx := Inv (i + 1), ct := Inv (i + 1), bk := P.nx })
    (hd : ∀ env' S', Inv ds.length env' S' → P.nx env' S') : SP K n (tFor wi g tb) env S P := fun B0 H0 as0 Bk B H as σ hl f0 c g0 D m =>
  hw B H as σ c g0 _ fun J B1 H1 c1 e1 w => by
    subst hl
    have f1 := f0.step e1
    refine ⟨fun i mm σ' H' => mm = ds.length - i ∧ i ≤ ds.length ∧ ∃ env' S' B' as', Fr B0 H0 as0 B1 B' H' as' ∧ Ok K B' H' as' S' ∧ EnvR K B' as' σ' env' ∧ Inv i env' S', ⟨_, rfl, Nat.zero_le _, env, S1, B1, as, ⟨Evl.Ex.refl _, f1.base, f1.evo, f1.loc⟩, c1, g0.mono e1.ex, h0⟩, ?_⟩
    rintro i mm σ' H' ⟨rfl, hi, env', S', B', as', f', c', g', hinv⟩
    have ex' := f'.kn
    have hg := hG i env' S' as as' hinv c1.len c'.len (by rw [f'.base, f1.base])
    by_cases hlt : i < ds.length
    · refine .inr ⟨w.go B' H' as' S' i ex' c' hg hlt, fun σ2 H2 => ∃ env2 S2 B2 as2, Fr B0 H0 as0 B1 B2 H2 as2 ∧ Ok K B2 H2 as2 S2 ∧ EnvR K B2 as2 σ2 env2 ∧ Inv (i + 1) env2 S2, fun σ2 H2 hN => ⟨ds.length - (i + 1), by omega, rfl, hlt, hN⟩, fun x H2 hy => ?_⟩
      obtain ⟨B2, d, c2, e2, hd2, r2⟩ := w.yld B' H' as' S' i x H2 ex' c' hg hlt hy
      obtain ⟨is, f, tg, hbody⟩ := hs i d env' S' hd2 hinv
      refine tg B2 H2 as' S' σ' env' x c2 (g'.mono e2.ex) r2 _ fun σ3 g3 _ => ?_
      have f2 := f'.step e2
      refine hbody B0 H0 as0 B1 B2 H2 as' σ3 rfl f2 c2 g3 _ ⟨?_, m.rt, ?_, ?_⟩
      · exact fun env4 S4 B4 H4 as4 σ4 f4 c4 g4 p4 => ⟨env4, S4, B4, as4, f4, c4, g4, p4⟩
      · exact fun env4 S4 B4 H4 as4 σ4 f4 c4 g4 p4 => m.nx env4 S4 B4 H4 as4 σ4 ⟨f1.kn.trans f4.kn, f4.base, f4.evo, f4.loc⟩ c4 g4 p4
      · exact fun env4 S4 B4 H4 as4 σ4 f4 c4 g4 p4 => ⟨env4, S4, B4, as4, f4, c4, g4, p4⟩
    · have e : i = ds.length := by omega
      subst e
      exact .inl ⟨w.stop B' H' as' S' ex' c' hg, m.nx env' S' B' H' as' σ' ⟨f1.kn.trans f'.kn, f'.base, f'.evo, f'.loc⟩ c' g' (hd env' S' hinv)⟩
end
end RW

set_option Elab.async false
set_option linter.all false
set_option maxRecDepth 100000
set_option maxHeartbeats 4000000
namespace RW
open PySem PySem.Spec PyProof.Rows L2
open Evl (Ex)
section
variable {K : PySem.W.Frag} {n : Nat} {te ta tb tc to ti : TE} {tt tu : TT} {tA tR : TA} {env env' : Env1} {S S1 S2 S3 : List Dat} {x y z : Sl} {d e : Dat} {ds es : List Dat} {r r' : R2} {P P' : Post} {t u : TS}
  {B B0 B1 B' H H0 H1 H' : Hp} {as as0 as1 : List Addr} {D : Ends} {σ : L2.St} {i : Nat} {a b c : Bool}
/-- a list that nothing knows, and what it holds -/
structure Acc (K : PySem.W.Frag) (p : Addr) (B H : Hp) (as : List Addr) (acc : List Dat) : Prop where
  nb : B p = none
  na : p ∉ as
  at_ : ∃ vs, H p = some (.lst vs) ∧ Reps K B vs acc
theorem Acc.step {p : Addr} {acc : List Dat} (h : Acc K p B H as acc) (e : Evo B H as B1 H1) : Acc K p B1 H1 as acc := by
  obtain ⟨vs, h1, h2⟩ := h.at_
  exact ⟨(e.gr p (by rw [h1]; simp)).trans h.nb, h.na, vs, e.fr p _ h.na h1, h2.mono e.ex⟩
/-- a list that nothing knows may change -/
theorem Ok.other {p : Addr} {o : HO} (c : Ok K B H as S) (hb : B p = none) (ha : p ∉ as) : Ok K B (upd H p o) as S where
  ex := fun a u q => by
    rw [upd_ne (by rintro rfl; rw [hb] at q; cases q)]
    exact c.ex a u q
  len := c.len
  cells := fun k a s h1 h2 => by
    obtain ⟨q1, q2⟩ := c.cells k a s h1 h2
    have ne : a ≠ p := by rintro rfl; exact ha (List.mem_of_getElem? h1)
    refine ⟨q1, ?_⟩
    obtain ⟨o, q3, q4⟩ := q2
    exact ⟨o, by rw [upd_ne ne]; exact q3, q4⟩
  nd := c.nd
theorem Evo.other {p : Addr} {o : HO} (e : Evo B H as B1 H1) (hp : H p = none) : Evo B H as B1 (upd H1 p o) :=
  ⟨e.ex, fun a u n q => by rw [upd_ne (by rintro rfl; rw [hp] at q; cases q)]; exact e.fr a u n q, e.gr, fun a q => by rw [upd_ne (by rintro rfl; exact q hp)]; exact e.pr a q⟩
theorem Acc.snoc {p : Addr} {acc : List Dat} {v : V} (h : Acc K p B H as acc) (r : Rep K B v d) : ∃ vs, H p = some (.lst vs) ∧ vs.length = acc.length ∧ Acc K p B (upd H p (.lst (vs ++ [v]))) as (acc ++ [d]) := by
  obtain ⟨vs, h1, h2⟩ := h.at_
  exact ⟨vs, h1, h2.length, h.nb, h.na, _, upd_same, h2.append (.cons r .nil)⟩
/-- [e for target in iter if test] -/
theorem en_lc {wi : TI} {g : TG} {vs : List Nat} {G : List Addr → List Addr → List Dat → Prop} (hw : IterD K wi env S G ds S1) (hz : ds.length ≤ sizeLine) (Inv : Nat → List Dat → List Dat → Prop) (h0 : Inv 0 [] S1)
    (hG : ∀ i acc S', Inv i acc S' → ∀ as : List Addr, as.length = S1.length → as.length = S'.length → G as as S')
    (hs : ∀ i d acc S', ds[i]? = some d → Inv i acc S' → ∃ is f b S2, TgD K g d is f ∧ (∀ i ∈ is, i ∈ vs) ∧ EvT K tt (f (wipeE env vs)) S' b S2 ∧
      (b = true → ∃ r S3, Ev K te (f (wipeE env vs)) S2 (.d r) S3 ∧ Inv (i + 1) (acc ++ [r]) S3) ∧ (b = false → Inv (i + 1) acc S2))
    {S' : List Dat} (hd : ∀ acc S2, Inv ds.length acc S2 → acc = es ∧ S2 = S') : EvN K (tLc wi g tt te vs) env S es S' := fun B H as σ c g0 Q q =>
  hw B H as σ c g0 _ fun J B1 H1 c1 e1 w Dl hDl => by
    have hD0 : H Dl = none := e1.old hDl
    have c1' : Ok K B1 (upd H1 Dl (.lst [])) as S1 := c1.other (c1.Bnone hDl) (c1.fresh hDl)
    have e1' : Evo B H as B1 (upd H1 Dl (.lst [])) := e1.other hD0
    refine ⟨fun i mm H' => mm = ds.length - i ∧ i ≤ ds.length ∧ ∃ S' B' acc, Ok K B' H' as S' ∧ Evo B H as B' H' ∧ Ex B1 B' ∧ Acc K Dl B' H' as acc ∧ acc.length ≤ i ∧ Inv i acc S', ⟨_, rfl, Nat.zero_le _, S1, B1, [], c1', e1', Evl.Ex.refl _, ⟨c1.Bnone hDl, c1.fresh hDl, [], upd_same, .nil⟩, Nat.zero_le _, h0⟩, ?_⟩
    rintro i mm H' ⟨rfl, hi, S', B', acc, c', e', ex', hacc, hal, hinv⟩
    have hg := hG i acc S' hinv as c1.len c'.len
    by_cases hlt : i < ds.length
    · refine .inr ⟨w.go B' H' as S' i ex' c' hg hlt, fun H2 => ∃ S2 B2 acc2, Ok K B2 H2 as S2 ∧ Evo B H as B2 H2 ∧ Ex B1 B2 ∧ Acc K Dl B2 H2 as acc2 ∧ acc2.length ≤ i + 1 ∧ Inv (i + 1) acc2 S2, fun H2 hN => ⟨ds.length - (i + 1), by omega, rfl, hlt, hN⟩, fun x H2 hy => ?_⟩
      obtain ⟨B2, d, c2, e2, hd2, r2⟩ := w.yld B' H' as S' i x H2 ex' c' hg hlt hy
      obtain ⟨is, f, b, S2, tg, his, htt, ht, hf⟩ := hs i d acc S' hd2 hinv
      have gw : EnvR K B2 as (L2.wipe σ vs) (wipeE env vs) := ((g0.mono e1.ex).wipe vs).mono (ex'.trans e2.ex)
      refine tg B2 H2 as S' _ _ x c2 gw r2 _ fun σ3 g3 hw3 => ⟨?_, ?_⟩
      · rw [hw3 vs his]
        have : ∀ ws : List Nat, (∀ j ∈ ws, j ∈ vs) → L2.wipe (L2.wipe σ vs) ws = L2.wipe σ vs := by
          intro ws
          induction ws with
          | nil => intro _; rfl
          | cons j ws ih =>
            intro h
            show (L2.wipe (L2.wipe σ vs) ws).set j none = L2.wipe σ vs
            have e0 : L2.wipe (L2.wipe σ vs) ws = L2.wipe σ vs := ih fun k hk => h k (List.mem_cons_of_mem _ hk)
            rw [e0]
            have hj := h j List.mem_cons_self
            have key : ∀ (us : List Nat), j ∈ us → (L2.wipe σ us).set j none = L2.wipe σ us := by
              intro us
              induction us with
              | nil => intro h; cases h
              | cons k us ih =>
                intro hk
                unfold L2.wipe
                by_cases hj : j = k
                · subst hj; rw [List.set_set]
                · rw [List.set_comm _ _ (fun z => hj z.symm)]
                  rw [ih ((List.mem_cons.mp hk).resolve_left hj)]
            exact key vs hj
        exact this vs fun _ h => h
      · refine htt B2 H2 as σ3 c2 g3 _ fun B3 H3 c3 e3 => ?_
        have ac3 := (hacc.step e2).step e3
        have e03 := (e'.trans e2).trans e3
        have ex3 := (ex'.trans e2.ex).trans e3.ex
        cases b with
        | false => exact ⟨S2, B3, acc, c3, e03, ex3, ac3, by omega, hf rfl⟩
        | true =>
          obtain ⟨r, S3, hev, hinv'⟩ := ht rfl
          show te σ3 H3 _
          refine hev B3 H3 as σ3 c3 (g3.mono e3.ex) _ fun v B4 H4 c4 e4 r4 => ?_
          have ac4 := ac3.step e4
          obtain ⟨ws, hw4, hl4, ac5⟩ := ac4.snoc r4
          refine ⟨ws, hw4, by rw [hl4]; omega, S3, B4, acc ++ [r], c4.other ac4.nb ac4.na, (e03.trans e4).other hD0, ex3.trans e4.ex, ac5, by rw [List.length_append]; simp; omega, hinv'⟩
    · have e : i = ds.length := by omega
      subst e
      obtain ⟨e1, e2⟩ := hd acc S' hinv
      subst e1 e2
      obtain ⟨ws, hw4, hr4⟩ := hacc.at_
      exact .inl ⟨w.stop B' H' as S' ex' c' hg, q Dl B' H' ws c' e' hD0 hacc.nb hw4 hr4⟩
/-- without a test, each element by itself -/
theorem en_map {wi : TI} {g : TG} {vs : List Nat} {G : List Addr → List Addr → List Dat → Prop} {is : List Nat} (hw : IterD K wi env S G ds S1) (hz : ds.length ≤ sizeLine)
    (hG : ∀ as : List Addr, as.length = S1.length → G as as S1) (his : ∀ i ∈ is, i ∈ vs) (f : Dat → Env1 → Env1) (F : Dat → Dat)
    (hs : ∀ (i : Nat) (d : Dat), ds[i]? = some d → TgD K g d is (f d) ∧ Ev K te (f d (wipeE env vs)) S1 (.d (F d)) S1) : EvN K (tLc wi g tYes te vs) env S (ds.map F) S1 := by
  refine en_lc (es := ds.map F) (S' := S1) hw hz (fun i acc S' => acc = (ds.take i).map F ∧ S' = S1) ⟨by simp, rfl⟩ (fun i acc S' h as l1 l2 => by rw [h.2]; exact hG as l1) (fun i d acc S' hd h => ?_) (fun acc S2 h => ?_)
  · obtain ⟨rfl, rfl⟩ := h
    obtain ⟨tg, hev⟩ := hs i d hd
    refine ⟨is, f d, true, S', tg, his, et_yes, fun _ => ⟨_, _, hev, ?_, rfl⟩, fun h => by cases h⟩
    have hl := (List.getElem?_eq_some_iff.mp hd).1
    have e : ds[i] = d := (List.getElem?_eq_some_iff.mp hd).2
    rw [List.take_succ_eq_append_getElem hl, e, List.map_append]
    rfl
  · obtain ⟨rfl, rfl⟩ := h
    exact ⟨by rw [List.take_length], rfl⟩
/-- with a test -/
theorem en_filter {wi : TI} {g : TG} {vs : List Nat} {G : List Addr → List Addr → List Dat → Prop} {is : List Nat} (hw : IterD K wi env S G ds S1) (hz : ds.length ≤ sizeLine)
    (hG : ∀ as : List Addr, as.length = S1.length → G as as S1) (his : ∀ i ∈ is, i ∈ vs) (f : Dat → Env1 → Env1) (F : Dat → Dat) (T : Dat → Bool)
    (hs : ∀ (i : Nat) (d : Dat), ds[i]? = some d → TgD K g d is (f d) ∧ EvT K tt (f d (wipeE env vs)) S1 (T d) S1 ∧ (T d = true → Ev K te (f d (wipeE env vs)) S1 (.d (F d)) S1)) : EvN K (tLc wi g tt te vs) env S ((ds.filter T).map F) S1 := by
  refine en_lc (es := (ds.filter T).map F) (S' := S1) hw hz (fun i acc S' => acc = ((ds.take i).filter T).map F ∧ S' = S1) ⟨by simp, rfl⟩ (fun i acc S' h as l1 l2 => by rw [h.2]; exact hG as l1) (fun i d acc S' hd h => ?_) (fun acc S2 h => ?_)
  · obtain ⟨rfl, rfl⟩ := h
    obtain ⟨tg, htt, hev⟩ := hs i d hd
    have hl := (List.getElem?_eq_some_iff.mp hd).1
    have e : ds[i] = d := (List.getElem?_eq_some_iff.mp hd).2
    refine ⟨is, f d, T d, S', tg, his, htt, fun h => ⟨_, _, hev h, ?_, rfl⟩, fun h => ⟨?_, rfl⟩⟩
    · rw [List.take_succ_eq_append_getElem hl, e, List.filter_append, List.map_append]
      simp [h]
    · rw [List.take_succ_eq_append_getElem hl, e, List.filter_append, List.map_append]
      simp [h]
  · obtain ⟨rfl, rfl⟩ := h
    exact ⟨by rw [List.take_length], rfl⟩
end
end RW

set_option Elab.async false
set_option linter.all false
set_option maxRecDepth 100000
set_option maxHeartbeats 4000000
namespace RW
open PySem PySem.Spec PyProof.Rows L2
open Evl (Ex)
section
variable {K : PySem.W.Frag} {n : Nat} {te ta tb tc to ti : TE} {tt tu : TT} {tA tR : TA} {env env' : Env1} {S S1 S2 S3 : List Dat} {x y z : Sl} {d e : Dat} {ds es : List Dat} {r r' : R2} {P P' : Post} {t u : TS}
  {B B0 B1 B' H H0 H1 H' : Hp} {as as0 as1 : List Addr} {D : Ends} {σ : L2.St} {i : Nat} {a b c : Bool}
theorem wipe_none {j : Nat} : ∀ {us : List Nat}, j ∈ us → (L2.wipe σ us).set j none = L2.wipe σ us
  | [], h => by cases h
  | k :: us, hk => by
    show ((L2.wipe σ us).set k none).set j none = (L2.wipe σ us).set k none
    by_cases hj : j = k
    · subst hj; rw [List.set_set]
    · rw [List.set_comm _ _ (fun z => hj z.symm), wipe_none ((List.mem_cons.mp hk).resolve_left hj)]
theorem wipe_wipe {vs : List Nat} : ∀ {ws : List Nat}, (∀ j ∈ ws, j ∈ vs) → L2.wipe (L2.wipe σ vs) ws = L2.wipe σ vs
  | [], _ => rfl
  | j :: ws, h => by
    show (L2.wipe (L2.wipe σ vs) ws).set j none = L2.wipe σ vs
    rw [wipe_wipe fun k hk => h k (List.mem_cons_of_mem _ hk), wipe_none (h j List.mem_cons_self)]
theorem flat_take {α β : Type} (f : α → List β) {l : List α} {i : Nat} {x : α} (h : l[i]? = some x) : (l.take (i + 1)).flatMap f = (l.take i).flatMap f ++ f x := by
  obtain ⟨hl, e⟩ := List.getElem?_eq_some_iff.mp h
  rw [List.take_succ_eq_append_getElem hl, e, List.flatMap_append]
  simp
theorem flat_le {α β : Type} (f : α → List β) {l : List α} {i : Nat} {x : α} (h : l[i]? = some x) : ((l.take i).flatMap f).length + (f x).length ≤ (l.flatMap f).length := by
  have h1 : (l.take (i + 1)).flatMap f ++ (l.drop (i + 1)).flatMap f = l.flatMap f := by
    rw [← List.flatMap_append, List.take_append_drop]
  rw [← h1, flat_take f h, List.length_append, List.length_append]
  omega
theorem map_take {α β : Type} (f : α → β) {l : List α} {i : Nat} {x : α} (h : l[i]? = some x) : (l.take (i + 1)).map f = (l.take i).map f ++ [f x] := by
  obtain ⟨hl, e⟩ := List.getElem?_eq_some_iff.mp h
  rw [List.take_succ_eq_append_getElem hl, e, List.map_append]
  rfl
/-- [e for x in xs for y in ..] -/
theorem en_flat {wi wi1 : TI} {g g1 : TG} {vs vs1 : List Nat} {G G1 : List Addr → List Addr → List Dat → Prop} {is is1 : List Nat} (hw : IterD K wi env S G ds S1) (inn : Dat → List Dat) (F : Dat → Dat → Dat)
    (hz : (ds.flatMap fun d => (inn d).map (F d)).length ≤ sizeLine) (hG : ∀ as : List Addr, as.length = S1.length → G as as S1) (hG1 : ∀ as : List Addr, as.length = S1.length → G1 as as S1)
    (his : ∀ i ∈ is, i ∈ vs) (his1 : ∀ i ∈ is1, i ∈ vs1) (hv1 : ∀ i ∈ vs1, i ∈ vs) (f : Dat → Env1 → Env1) (f1 : Dat → Dat → Env1 → Env1)
    (hs : ∀ (i : Nat) (d : Dat), ds[i]? = some d → TgD K g d is (f d) ∧ IterD K wi1 (f d (wipeE env vs)) S1 G1 (inn d) S1 ∧ ∀ (j : Nat) (e : Dat), (inn d)[j]? = some e →
      TgD K g1 e is1 (f1 d e) ∧ Ev K te (f1 d e (wipeE (f d (wipeE env vs)) vs1)) S1 (.d (F d e)) S1) :
    EvN K (tLc2 wi g tYes wi1 g1 tYes te vs vs1) env S (ds.flatMap fun d => (inn d).map (F d)) S1 := fun B H as σ c g0 Q q =>
  hw B H as σ c g0 _ fun J B1 H1 c1 e1 w Dl hDl => by
    have hD0 : H Dl = none := e1.old hDl
    have c1' : Ok K B1 (upd H1 Dl (.lst [])) as S1 := c1.other (c1.Bnone hDl) (c1.fresh hDl)
    have e1' : Evo B H as B1 (upd H1 Dl (.lst [])) := e1.other hD0
    have hg := hG as c1.len
    have hg1 := hG1 as c1.len
    refine ⟨fun i mm H' => mm = ds.length - i ∧ i ≤ ds.length ∧ ∃ B', Ok K B' H' as S1 ∧ Evo B H as B' H' ∧ Ex B1 B' ∧ Acc K Dl B' H' as ((ds.take i).flatMap fun d => (inn d).map (F d)), ⟨_, rfl, Nat.zero_le _, B1, c1', e1', Evl.Ex.refl _, ⟨c1.Bnone hDl, c1.fresh hDl, [], upd_same, .nil⟩⟩, ?_⟩
    rintro i mm H' ⟨rfl, hi, B', c', e', ex', hacc⟩
    by_cases hlt : i < ds.length
    · refine .inr ⟨w.go B' H' as S1 i ex' c' hg hlt, fun H2 => ∃ B2, Ok K B2 H2 as S1 ∧ Evo B H as B2 H2 ∧ Ex B1 B2 ∧ Acc K Dl B2 H2 as ((ds.take (i + 1)).flatMap fun d => (inn d).map (F d)), fun H2 hN => ⟨ds.length - (i + 1), by omega, rfl, hlt, hN⟩, fun x H2 hy => ?_⟩
      obtain ⟨B2, d, c2, e2, hd2, r2⟩ := w.yld B' H' as S1 i x H2 ex' c' hg hlt hy
      obtain ⟨tg, hw1, hin⟩ := hs i d hd2
      have gw : EnvR K B2 as (L2.wipe σ vs) (wipeE env vs) := ((g0.mono e1.ex).wipe vs).mono (ex'.trans e2.ex)
      refine tg B2 H2 as S1 _ _ x c2 gw r2 _ fun σ3 g3 hw3 => ⟨?_, ?_⟩
      · rw [hw3 vs his, wipe_wipe fun _ h => h]
      · show wi1 σ3 H2 _
        refine hw1 B2 H2 as σ3 c2 g3 _ fun J1 B3 H3 c3 e3 w1 => ?_
        have ac3 := (hacc.step e2).step e3
        have e03 := (e'.trans e2).trans e3
        have ex3 := (ex'.trans e2.ex).trans e3.ex
        refine ⟨fun j kk H5 => kk = (inn d).length - j ∧ j ≤ (inn d).length ∧ ∃ B5, Ok K B5 H5 as S1 ∧ Evo B H as B5 H5 ∧ Ex B3 B5 ∧ Acc K Dl B5 H5 as (((ds.take i).flatMap fun d => (inn d).map (F d)) ++ ((inn d).take j).map (F d)),
          ⟨_, rfl, Nat.zero_le _, B3, c3, e03, Evl.Ex.refl _, by simpa using ac3⟩, ?_⟩
        rintro j kk H5 ⟨rfl, hj, B5, c5, e5, ex5, ac5⟩
        by_cases hlj : j < (inn d).length
        · refine .inr ⟨w1.go B5 H5 as S1 j ex5 c5 hg1 hlj, fun H6 => ∃ B6, Ok K B6 H6 as S1 ∧ Evo B H as B6 H6 ∧ Ex B3 B6 ∧ Acc K Dl B6 H6 as (((ds.take i).flatMap fun d => (inn d).map (F d)) ++ ((inn d).take (j + 1)).map (F d)), fun H6 hN => ⟨(inn d).length - (j + 1), by omega, rfl, hlj, hN⟩, fun x6 H6 hy6 => ?_⟩
          obtain ⟨B6, e6, c6, ev6, he6, r6⟩ := w1.yld B5 H5 as S1 j x6 H6 ex5 c5 hg1 hlj hy6
          obtain ⟨tg1, hev⟩ := hin j e6 he6
          have gw1 : EnvR K B6 as (L2.wipe σ3 vs1) (wipeE (f d (wipeE env vs)) vs1) := (((g3.mono e3.ex).mono ex5).wipe vs1).mono ev6.ex
          refine tg1 B6 H6 as S1 _ _ x6 c6 gw1 r6 _ fun σ7 g7 hw7 => ⟨?_, ?_⟩
          · rw [hw7 vs1 his1, wipe_wipe fun _ h => h]
          · show te σ7 H6 _
            refine hev B6 H6 as σ7 c6 g7 _ fun v B7 H7 c7 e7 r7 => ?_
            have ac7 := (ac5.step ev6).step e7
            obtain ⟨ws, hw8, hl8, ac8⟩ := ac7.snoc r7
            refine ⟨ws, hw8, ?_, B7, c7.other ac7.nb ac7.na, ((e5.trans ev6).trans e7).other hD0, (ex5.trans ev6.ex).trans e7.ex, ?_⟩
            · have hb := flat_le (fun d => (inn d).map (F d)) hd2
              rw [hl8, List.length_append, List.length_map, List.length_take]
              rw [List.length_map] at hb
              omega
            · rw [map_take (F d) he6, ← List.append_assoc]
              exact ac8
        · have ej : j = (inn d).length := by omega
          subst ej
          refine .inl ⟨w1.stop B5 H5 as S1 ex5 c5 hg1, B5, c5, e5, ex3.trans ex5, ?_⟩
          rw [flat_take (fun d => (inn d).map (F d)) hd2]
          rw [List.take_length] at ac5
          exact ac5
    · have e : i = ds.length := by omega
      subst e
      rw [List.take_length] at hacc
      obtain ⟨ws, hw4, hr4⟩ := hacc.at_
      exact .inl ⟨w.stop B' H' as S1 ex' c' hg, q Dl B' H' ws c' e' hD0 hacc.nb hw4 hr4⟩
end
end RW

set_option Elab.async false
set_option linter.all false
set_option maxRecDepth 100000
set_option maxHeartbeats 4000000
namespace RW
open PySem PySem.Spec PyProof.Rows L2
open Evl (Ex)
section
variable {K : PySem.W.Frag} {n : Nat} {te ta tb tc to ti tv : TE} {tt tu : TT} {tA tR : TA} {env env' : Env1} {S S1 S2 S3 : List Dat} {x y z : Sl} {d e : Dat} {ds es : List Dat} {r r' : R2} {P P' : Post} {t u : TS}
  {B B0 B1 B' H H0 H1 H' : Hp} {as as0 as1 : List Addr} {D : Ends} {σ : L2.St} {i k : Nat} {a b c : Bool}
/-! ### what is changed -/
theorem Ok.setc {p : Addr} {o : HO} {s : Dat} (c : Ok K B H as S) (hk : as[k]? = some p) (r : CellO K B o s) : Ok K B (upd H p o) as (S.set k s) where
  ex := fun a u q => by
    have hl : k < S.length := by rw [← c.len]; exact (List.getElem?_eq_some_iff.mp hk).1
    obtain ⟨hb, _⟩ := c.cells k p S[k] hk (List.getElem?_eq_getElem hl)
    rw [upd_ne (by rintro rfl; rw [hb] at q; cases q)]
    exact c.ex a u q
  len := by rw [List.length_set]; exact c.len
  cells := fun j a s' h1 h2 => by
    by_cases hj : k = j
    · subst hj
      have hl : k < S.length := by rw [← c.len]; exact (List.getElem?_eq_some_iff.mp hk).1
      rw [List.getElem?_set_self hl] at h2
      cases h2
      rw [hk] at h1
      cases h1
      exact ⟨(c.cells k p S[k] hk (List.getElem?_eq_getElem hl)).1, o, upd_same, r⟩
    · rw [List.getElem?_set_ne hj] at h2
      obtain ⟨q1, o', q3, q4⟩ := c.cells j a s' h1 h2
      have ne : a ≠ p := by
        rintro rfl
        have hkl := (List.getElem?_eq_some_iff.mp hk).1
        exact hj ((List.getElem_inj (h₀ := hkl) (h₁ := (List.getElem?_eq_some_iff.mp h1).1) c.nd).mp (by rw [(List.getElem?_eq_some_iff.mp hk).2, (List.getElem?_eq_some_iff.mp h1).2]))
      exact ⟨q1, o', by rw [upd_ne ne]; exact q3, q4⟩
  nd := c.nd
theorem Evo.setc {p : Addr} {o : HO} (hk : p ∈ as) : Evo B H as B (upd H p o) :=
  ⟨Evl.Ex.refl B, fun a u n q => by rw [upd_ne (by rintro rfl; exact n hk)]; exact q, fun _ _ => rfl, fun a q => by
    by_cases h : a = p
    · subst h; rw [upd_same]; simp
    · rw [upd_ne h]; exact q⟩
/-- xs.append(e) -/
theorem ev_append (ho : Ev K to env S (.c k) S1) (h : Ev K te env S1 (.d d) S2) (h1 : ∃ es, S1[k]? = some (.lst es)) (hs : S2[k]? = some (.lst ds)) (hl : ds.length < sizeLine) : Ev K (tBM K "list" rAppend to (tCons te tNil)) env S (.d .non) (S2.set k (.lst (ds ++ [d]))) := fun B H as σ c g Q q =>
  ho B H as σ c g _ fun v B1 H1 c1 e1 r1 => by
    obtain ⟨p, hp, rfl⟩ := r1
    obtain ⟨es, hes⟩ := h1
    obtain ⟨ws, hw, rw'⟩ := (c1.cells k p _ hp hes).2.lst
    refine ⟨.inl ⟨rfl, ws, Evl.sq_of hw⟩, h B1 H1 as σ c1 (g.mono e1.ex) _ fun v B2 H2 c2 e2 r2 => ?_⟩
    obtain ⟨vs, hv, rv⟩ := (c2.cells k p _ hp hs).2.lst
    refine ⟨p, vs, v, rfl, rfl, hv, by rw [rv.length]; exact hl, q .non B2 _ (c2.setc hp (show CellO K B2 (.lst _) (.lst _) from rv.append (.cons r2 .nil))) ((e1.trans e2).trans (Evo.setc (List.mem_of_getElem? hp))) .non⟩
/-- xs.extend(ys) -/
theorem ev_extend (ho : Ev K to env S (.c k) S1) (h : Ev K te env S1 (.d (.lst es)) S2) (h1 : ∃ es, S1[k]? = some (.lst es)) (hs : S2[k]? = some (.lst ds)) (hl : ds.length + es.length ≤ sizeLine) : Ev K (tBM K "list" rExtend to (tCons te tNil)) env S (.d .non) (S2.set k (.lst (ds ++ es))) := fun B H as σ c g Q q =>
  ho B H as σ c g _ fun v B1 H1 c1 e1 r1 => by
    obtain ⟨p, hp, rfl⟩ := r1
    obtain ⟨es', hes⟩ := h1
    obtain ⟨ws, hw, rw'⟩ := (c1.cells k p _ hp hes).2.lst
    refine ⟨.inl ⟨rfl, ws, Evl.sq_of hw⟩, h B1 H1 as σ c1 (g.mono e1.ex) _ fun v B2 H2 c2 e2 r2 => ?_⟩
    obtain ⟨vs, hv, rv⟩ := (c2.cells k p _ hp hs).2.lst
    cases r2 with
    | lst h3 r3 =>
      refine ⟨p, _, vs, _, rfl, rfl, hv, c2.ex _ _ h3, by rw [rv.length, r3.length]; exact hl, q .non B2 _ (c2.setc hp (show CellO K B2 (.lst _) (.lst _) from rv.append r3)) ((e1.trans e2).trans (Evo.setc (List.mem_of_getElem? hp))) .non⟩
/-- xs[i] = e -/
theorem sp_setitem {j : Nat} {iv : Int} (h : Ev K te env S (.d d) S1) (ho : Ev K to env S1 (.c k) S2) (hi : Ev K ti env S2 (.d (.int iv)) S3) (hs : S3[k]? = some (.lst ds)) (hj : ixN ds.length iv = some j) (q : SP K n u env (S3.set k (.lst (ds.set j d))) P) :
    SP K n (tSeq (tAsg te (gSub to ti rSetL)) u) env S P := fun B0 H0 as0 Bk B H as σ hl f c g D m =>
  h B H as σ c g _ fun v B1 H1 c1 e1 r1 => ho B1 H1 as σ c1 (g.mono e1.ex) _ fun w B2 H2 c2 e2 r2 => hi B2 H2 as σ c2 (g.mono (e1.trans e2).ex) _ fun w3 B3 H3 c3 e3 r3 => by
    obtain ⟨p, hp, rfl⟩ := r2
    cases r3
    obtain ⟨vs, hv, rv⟩ := (c3.cells k p _ hp hs).2.lst
    have e03 := ((e1.trans e2).trans e3).trans (Evo.setc (o := .lst (vs.set j v)) (List.mem_of_getElem? hp))
    exact ⟨p, vs, iv, j, rfl, rfl, hv, by rw [rv.length]; exact hj, q B0 H0 as0 Bk B3 _ as σ hl (f.step e03) (c3.setc hp (show CellO K B3 (.lst _) (.lst _) from Reps.set j (Rep.mono (e2.trans e3).ex r1) rv)) (g.mono e03.ex) D m⟩
/-- x op= e -/
theorem sp_aug {fn : Int → Int → Int} {p q : Int} (hx : env[i]? = some (some (.d (.int p)))) (h : Ev K te env S (.d (.int q)) S1) (k : SP K n u (env.set i (some (.d (.int (fn p q))))) S1 P) : SP K n (tSeq (tAug i te (ipI fn)) u) env S P := fun B0 H0 as0 Bk B H as σ hl f c g D m => by
  obtain ⟨v, h1, h2⟩ := g.2 i _ hx
  cases h2
  exact ⟨_, h1, h B H as σ c g _ fun w B1 H1 c1 e1 r1 => by
    cases r1
    exact ⟨p, q, rfl, rfl, k B0 H0 as0 Bk B1 H1 as _ hl (f.step e1) c1 (EnvR.set (s := .d (.int (fn p q))) i (g.mono e1.ex) (.int _)) D m⟩⟩
theorem sp_aug1 {fn : Int → Int → Int} {p q : Int} (hx : env[i]? = some (some (.d (.int p)))) (h : Ev K te env S (.d (.int q)) S1) (k : P.nx (env.set i (some (.d (.int (fn p q))))) S1) : SP K n (tAug i te (ipI fn)) env S P := fun B0 H0 as0 Bk B H as σ hl f c g D m => by
  obtain ⟨v, h1, h2⟩ := g.2 i _ hx
  cases h2
  exact ⟨_, h1, h B H as σ c g _ fun w B1 H1 c1 e1 r1 => by
    cases r1
    exact ⟨p, q, rfl, rfl, m.nx _ S1 B1 H1 as _ (f.step e1) c1 (EnvR.set (s := .d (.int (fn p q))) i (g.mono e1.ex) (.int _)) k⟩⟩
/-- a, b = e1, e2 -/
theorem sp_par {i j : Nat} (h : EvA K tA env S [x, y] S1) (k : SP K n u ((env.set i (some x)).set j (some y)) S1 P) : SP K n (tSeq (tPar i j tA) u) env S P := fun B0 H0 as0 Bk B H as σ hl f c g D m =>
  h B H as σ c g _ fun vs B1 H1 c1 e1 r1 => by
    cases r1 with
    | cons r1 rr =>
      cases rr with
      | cons r2 rr =>
        cases rr
        exact ⟨_, _, rfl, k B0 H0 as0 Bk B1 H1 as _ hl (f.step e1) c1 (((g.mono e1.ex).set i r1).set j r2) D m⟩
/-! ### instances -/
def putFD (f : Str) (v : Dat) : List (Str × Dat) → List (Str × Dat)
  | [] => [(f, v)]
  | (g, x) :: r => if g = f then (g, v) :: r else (g, x) :: putFD f v r
theorem RepF.put {f : Str} {v : V} : ∀ {vs : List (Str × V)} {fs : List (Str × Dat)}, Rep K B v d → RepF K B vs fs → RepF K B (putF f v vs) (putFD f d fs)
  | _, _, h, .nil => .cons h .nil
  | _, _, h, .cons (f := g) h1 r => by
    unfold putF putFD
    split
    · exact .cons h r
    · exact .cons h1 (RepF.put h r)
theorem RepF.length : ∀ {vs : List (Str × V)} {fs : List (Str × Dat)}, RepF K B vs fs → vs.length = fs.length
  | _, _, .nil => rfl
  | _, _, .cons _ r => by rw [List.length_cons, List.length_cons, RepF.length r]
theorem ev_fld {C : Addr} {fs : List (Str × Dat)} {f : Str} (h : Ev K ta env S (.d (.ins C fs)) S1) (cl : Cls K C) (na : NoAttr K C f) (hf : fs.lookup f = some d) : Ev K (tFld K ta f) env S (.d d) S1 := fun B H as σ c g Q q =>
  h B H as σ c g _ fun v B1 H1 c1 e1 r1 => by
    cases r1 with
    | ins h1 r1 =>
      obtain ⟨v, hv, rv⟩ := r1.get hf
      exact ⟨_, C, _, _, v, rfl, c1.ex _ _ h1, cl, na, hv, q v B1 H1 c1 e1 rv⟩
theorem ev_fldC {C : Addr} {fs : List (Str × Dat)} {f : Str} (h : Ev K ta env S (.c k) S1) (hs : S1[k]? = some (.ins C fs)) (cl : Cls K C) (na : NoAttr K C f) (hf : fs.lookup f = some d) : Ev K (tFld K ta f) env S (.d d) S1 := fun B H as σ c g Q q =>
  h B H as σ c g _ fun v B1 H1 c1 e1 r1 => by
    obtain ⟨p, hp, rfl⟩ := r1
    obtain ⟨dx, vs, hv, rv⟩ := (c1.cells k p _ hp hs).2.ins
    obtain ⟨v, hv', rv'⟩ := rv.get hf
    exact ⟨p, C, dx, vs, v, rfl, hv, cl, na, hv', q v B1 H1 c1 e1 rv'⟩
/-- self.f = e -/
theorem sp_fld {C : Addr} {fs : List (Str × Dat)} {f : Str} (h : Ev K tv env S (.d d) S1) (ho : Ev K ta env S1 (.c k) S2) (hs : S2[k]? = some (.ins C fs)) (cl : Cls K C) (na : NoAttr K C f) (hl : fs.length < 1000) (q : SP K n u env (S2.set k (.ins C (putFD f d fs))) P) :
    SP K n (tSeq (sFld K ta tv f) u) env S P := fun B0 H0 as0 Bk B H as σ hl0 f0 c g D m =>
  h B H as σ c g _ fun v B1 H1 c1 e1 r1 => ho B1 H1 as σ c1 (g.mono e1.ex) _ fun w B2 H2 c2 e2 r2 => by
    obtain ⟨p, hp, rfl⟩ := r2
    obtain ⟨dx, vs, hv, rv⟩ := (c2.cells k p _ hp hs).2.ins
    have e03 := (e1.trans e2).trans (Evo.setc (o := .ins C dx (putF f v vs)) (List.mem_of_getElem? hp))
    exact ⟨p, C, dx, vs, rfl, hv, cl, na, by rw [rv.length]; exact hl, q B0 H0 as0 Bk B2 _ as σ hl0 (f0.step e03) (c2.setc hp (show CellO K B2 (.ins C dx _) (.ins C _) from ⟨rfl, RepF.put (Rep.mono e2.ex r1) rv⟩)) (g.mono e03.ex) D m⟩
theorem sp_fld1 {C : Addr} {fs : List (Str × Dat)} {f : Str} (h : Ev K tv env S (.d d) S1) (ho : Ev K ta env S1 (.c k) S2) (hs : S2[k]? = some (.ins C fs)) (cl : Cls K C) (na : NoAttr K C f) (hl : fs.length < 1000) (q : P.nx env (S2.set k (.ins C (putFD f d fs)))) :
    SP K n (sFld K ta tv f) env S P := fun B0 H0 as0 Bk B H as σ hl0 f0 c g D m =>
  h B H as σ c g _ fun v B1 H1 c1 e1 r1 => ho B1 H1 as σ c1 (g.mono e1.ex) _ fun w B2 H2 c2 e2 r2 => by
    obtain ⟨p, hp, rfl⟩ := r2
    obtain ⟨dx, vs, hv, rv⟩ := (c2.cells k p _ hp hs).2.ins
    have e03 := (e1.trans e2).trans (Evo.setc (o := .ins C dx (putF f v vs)) (List.mem_of_getElem? hp))
    exact ⟨p, C, dx, vs, rfl, hv, cl, na, by rw [rv.length]; exact hl, m.nx _ _ B2 _ as _ (f0.step e03) (c2.setc hp (show CellO K B2 (.ins C dx _) (.ins C _) from ⟨rfl, RepF.put (Rep.mono e2.ex r1) rv⟩)) (g.mono e03.ex) q⟩
/-- C(e, ..): a new instance, filled by its __init__ -/
theorem ev_make {C : Addr} {G : List Sl → List Dat → Dat → List Dat → Prop} {ss : List Sl} {E : XK} {fs : List (Str × Dat)} (h : EvA K tA env S ss S1) (hg : G (.c S1.length :: ss) (S1 ++ [.ins C []]) .non (S2 ++ [.ins C fs])) (hl : S2.length = S1.length) :
    Ev K (tMake C (SpD K G) [] E tA) env S (.d (.ins C fs)) S2 := fun B H as σ c g Q q =>
  h B H as σ c g _ fun vs B1 H1 c1 e1 r1 x dx hx hdx hne => by
    have hB := c1.Bnone hx
    have hxa := c1.fresh hx
    have hdB := c1.Bnone hdx
    have hda := c1.fresh hdx
    have c2 : Ok K B1 (upd (upd H1 dx (.own x)) x (.ins C dx [])) as S1 := (c1.other hdB hda).other hB hxa
    have e2 : Evo B1 H1 as B1 (upd (upd H1 dx (.own x)) x (.ins C dx [])) := (Evo.refl.other hdx).other hx
    have c3 : Ok K B1 (upd (upd H1 dx (.own x)) x (.ins C dx [])) (as ++ [x]) (S1 ++ [.ins C []]) := c2.push hB hxa (CellAt.ofI upd_same .nil)
    have r3 : RepSs K B1 (as ++ [x]) (.ref x :: (vs ++ [])) (.c S1.length :: ss) := by
      refine .cons ⟨x, by rw [← c1.len]; simp, rfl⟩ ?_
      rw [List.append_nil]
      have grow : ∀ {vs : List V} {ss : List Sl}, RepSs K B1 as vs ss → RepSs K B1 (as ++ [x]) vs ss := by
        intro vs ss h
        induction h with
        | nil => exact .nil
        | cons h _ ih => exact .cons h.grow ih
      exact grow r1
    refine ⟨B1, as ++ [x], _, _, _, _, c3, r3, hg, fun v B4 H4 c4 e4 r4 => ⟨by cases r4; rfl, ?_⟩⟩
    have hk : (as ++ [x])[as.length]? = some x := by simp
    have hs : (S2 ++ [Dat.ins C fs])[as.length]? = some (.ins C fs) := by
      rw [c1.len, ← hl]; simp
    obtain ⟨hb4, hc4⟩ := c4.cells as.length x _ hk hs
    obtain ⟨dx', ws, hw, rw'⟩ := hc4.ins
    have c5 : Ok K B4 H4 as S2 := by
      have := c4.upto as.length
      rw [List.take_left, show as.length = S2.length by rw [c1.len, hl], List.take_left] at this
      exact this
    have nd := c4.nd
    have hx4 : x ∉ as := fun hm => (List.nodup_append.mp nd).2.2 x hm x (by simp) rfl
    have x0 : H x = none := e1.old hx
    have e5 : Evo B H as B4 H4 := by
      have e12 := e1.trans e2
      refine ⟨e12.ex.trans e4.ex, fun a o hn q => e4.fr a o (fun hm => (List.mem_append.mp hm).elim hn fun z => ?_) (e12.fr a o hn q), fun a q => (e4.gr a (e12.pr a q)).trans (e12.gr a q), fun a q => e4.pr a (e12.pr a q)⟩
      rw [List.mem_singleton.mp z, x0] at q
      cases q
    refine q (.ref x) (upd B4 x (.ins C dx' ws)) H4 (c5.know hw hb4 hx4) ⟨e5.ex.trans (Evl.Ex.new hb4), e5.fr, fun a q => by rw [upd_ne (by rintro rfl; exact q x0)]; exact e5.gr a q, e5.pr⟩ (.ins upd_same (RepF.mono (Evl.Ex.new hb4) rw'))
end
end RW

set_option Elab.async false
set_option linter.all false
set_option maxRecDepth 100000
set_option maxHeartbeats 4000000
namespace RW
open PySem PySem.Spec PyProof.Rows L2
open Evl (Ex)
section
variable {K : PySem.W.Frag} {n : Nat} {te ta tb tc to ti tv : TE} {tt tu : TT} {tA tR : TA} {env env' : Env1} {S S1 S2 S3 : List Dat} {x y z : Sl} {d e : Dat} {ds es : List Dat} {r r' : R2} {P P' : Post} {t u : TS}
  {B B0 B1 B' H H0 H1 H' : Hp} {as as0 as1 : List Addr} {D : Ends} {σ : L2.St} {i k : Nat} {a b c : Bool}
/-! ### enumerate, reversed(range) -/
def enumD (ds : List Dat) : List Dat := ds.mapIdx fun i d => Dat.tup [.int (i : Nat), d]
theorem enumD_len : (enumD ds).length = ds.length := by unfold enumD; rw [List.length_mapIdx]
theorem enumD_get {i : Nat} {d : Dat} (h : ds[i]? = some d) : (enumD ds)[i]? = some (.tup [.int (i : Nat), d]) := by
  unfold enumD
  rw [List.getElem?_mapIdx, h]
  rfl
theorem it_enum (h : EvA K tA env S [x] S1) (hx : Seq S1 x ds) : IterD K (iEnumG K tA) env S (fun as as2 S2 => GS x ds as as2 S2) (enumD ds) S1 := fun B H as σ c g R q => h B H as σ c g _ fun vs B1 H1 c1 e1 r1 => by
  cases r1 with
  | cons r1 rr =>
    cases rr
    obtain ⟨a1, k1, rfl, ⟨w1, q1⟩, st1⟩ := seq_stays c1 hx r1
    refine ⟨a1, k1, w1, rfl, q1, q _ B1 H1 c1 e1 ⟨fun B2 H2 as2 S2 i e c2 g2 hi => ?_, fun B2 H2 as2 S2 i x H3 e c2 g2 hi y => ?_, fun B2 H2 as2 S2 e c2 g2 => ?_⟩⟩
    · obtain ⟨u1, p1, rp1⟩ := st1 B2 H2 as2 S2 e c2 g2
      rw [enumD_len] at hi
      obtain ⟨v1, hv1, _⟩ := rp1.get (List.getElem?_eq_getElem hi)
      exact ⟨u1, v1, p1, hv1⟩
    · obtain ⟨u1, p1, rp1⟩ := st1 B2 H2 as2 S2 e c2 g2
      obtain ⟨T, v1, rfl, hT, rfl, y1⟩ := y
      obtain ⟨d1, hd1, r1⟩ := rp1.get' (y1 u1 p1)
      have hB : Ex B2 (upd B2 T (.tup [.int (i : Nat), v1])) := Evl.Ex.new (c2.Bnone hT)
      exact ⟨upd B2 T (.tup [.int (i : Nat), v1]), .tup [.int (i : Nat), d1], c2.new hT, Evo.new c2 hT, enumD_get hd1, .tup (Evl.st_of upd_same) (.cons (.int _) (.cons (r1.mono hB) .nil))⟩
    · obtain ⟨u1, p1, rp1⟩ := st1 B2 H2 as2 S2 e c2 g2
      exact ⟨u1, p1, by rw [enumD_len, rp1.length]⟩
/-- hi - 1, .., lo -/
def rngR (lo : Int) (n : Nat) : List Dat := (List.range n).map fun i => Dat.int (lo + (n : Int) - 1 + (i : Nat) * (-1))
theorem rngR_len {lo : Int} {n : Nat} : (rngR lo n).length = n := by unfold rngR; rw [List.length_map, List.length_range]
theorem rngR_get {lo : Int} {n i : Nat} (h : i < n) : (rngR lo n)[i]? = some (.int (lo + (n : Int) - 1 + (i : Nat) * (-1))) := by
  unfold rngR
  rw [List.getElem?_map, List.getElem?_range h]
  rfl
theorem walk_rngR {lo : Int} {n : Nat} {G : List Addr → List Dat → Prop} : WalkD K B (Itc (lo + (n : Int) - 1) (-1) n) G (rngR lo n) where
  go := fun B2 H2 as2 S2 i _ _ _ hi => by rw [rngR_len] at hi; exact hi
  yld := fun B2 H2 as2 S2 i x H3 _ c _ hi y => by
    rw [rngR_len] at hi
    obtain ⟨rfl, rfl⟩ := y
    exact ⟨B2, _, c, Evo.refl, rngR_get hi, .int _⟩
  stop := fun B2 H2 as2 S2 _ _ _ => by rw [rngR_len]; exact Nat.le_refl _
theorem it_rev1 {j : Int} (h : Ev K ta env S (.d (.int j)) S1) (hj : -(2 ^ 62) ≤ j ∧ j < 2 ^ 62) : IterD K (iRevR (tRg1 ta)) env S G0 (rngR 0 j.toNat) S1 := fun B H as σ c g R q => h B H as σ c g _ fun v B1 H1 c1 e1 r1 => by
  cases r1
  refine ⟨j, rfl, by decide, by decide, hj.1, hj.2, ?_⟩
  have e0 : (j - 0).toNat = j.toNat := by rw [Int.sub_zero]
  rw [e0]
  exact q _ B1 H1 c1 e1 walk_rngR
/-! ### == of data -/
mutual
def py : Dat → PyData
  | .non => .none
  | .bl b => .bool b
  | .int i => .int i
  | .str s => .str s
  | .tup xs => .tuple (pyAll xs)
  | .lst xs => .list (pyAll xs)
  | .ty _ => .none
  | .scr _ => .none
  | .ins _ _ => .none
  | .adr _ => .none
def pyAll : List Dat → List PyData
  | [] => []
  | x :: xs => py x :: pyAll xs
end
inductive Pl : Nat → Dat → Prop
  | non {m : Nat} : Pl m .non
  | bl {m : Nat} (b : Bool) : Pl m (.bl b)
  | int {m : Nat} (i : Int) : Pl m (.int i)
  | str {m : Nat} {s : Str} (h : (PyData.str s).canLay0 = true) : Pl m (.str s)
  | tup {m : Nat} {ds : List Dat} (h : ∀ d ∈ ds, Pl m d) : Pl (m + 1) (.tup ds)
  | lst {m : Nat} {ds : List Dat} (h : ∀ d ∈ ds, Pl m d) : Pl (m + 1) (.lst ds)
theorem pyAll_lay {m : Nat} : ∀ {ds : List Dat}, (∀ d ∈ ds, (py d).canLay0 = true ∧ (py d).depth ≤ m) → PyData.canLayAll0 (pyAll ds) = true ∧ PyData.depthAll (pyAll ds) ≤ m
  | [], _ => ⟨rfl, Nat.zero_le _⟩
  | d :: ds, h => by
    obtain ⟨h1, h2⟩ := pyAll_lay (ds := ds) fun d hd => h d (List.mem_cons_of_mem _ hd)
    obtain ⟨h3, h4⟩ := h d List.mem_cons_self
    refine ⟨?_, ?_⟩
    · show (PyData.canLay0 (py d) && PyData.canLayAll0 (pyAll ds)) = true
      rw [h1, h3]; rfl
    · show max (PyData.depth (py d)) (PyData.depthAll (pyAll ds)) ≤ m
      omega
theorem Pl.lay {m : Nat} (h : Pl m d) : (py d).canLay0 = true ∧ (py d).depth ≤ m := by
  induction h with
  | non => exact ⟨rfl, Nat.zero_le _⟩
  | bl b => exact ⟨rfl, Nat.zero_le _⟩
  | int i => exact ⟨rfl, Nat.zero_le _⟩
  | str h => exact ⟨h, Nat.zero_le _⟩
  | tup h ih =>
    obtain ⟨h1, h2⟩ := pyAll_lay ih
    exact ⟨h1, Nat.succ_le_succ h2⟩
  | lst h ih =>
    obtain ⟨h1, h2⟩ := pyAll_lay ih
    exact ⟨h1, Nat.succ_le_succ h2⟩
theorem Pl.shaped {m : Nat} (h : Pl m d) (hm : m ≤ 64) : SeqAt.shaped (py d) = true := by
  unfold SeqAt.shaped
  rw [h.lay.1, decide_eq_true (Nat.le_trans h.lay.2 hm)]
  rfl
theorem dpAll_of {m : Nat} : ∀ {vs : List V} {ds : List Dat}, (∀ d ∈ ds, ∀ v, Rep K H v d → Dp K H v (py d)) → Reps K H vs ds → DpAll K H vs (pyAll ds)
  | _, [], _, .nil => .nil
  | _, d :: ds, h, .cons r rr => .cons (h d List.mem_cons_self _ r) (dpAll_of (m := m) (fun d hd => h d (List.mem_cons_of_mem _ hd)) rr)
theorem Pl.dp {m : Nat} (h : Pl m d) : ∀ v, Rep K H v d → Dp K H v (py d) := by
  induction h with
  | non => intro v r; cases r; exact .non
  | bl b => intro v r; cases r; exact .bl b
  | int i => intro v r; cases r; exact .int i
  | str h => intro v r; cases r; exact .str _
  | tup h ih =>
    intro v r
    cases r with
    | tup h1 r1 => exact .tup h1 (dpAll_of (m := 0) ih r1)
  | lst h ih =>
    intro v r
    cases r with
    | lst h1 r1 => exact .lst (Evl.sq_of h1) (dpAll_of (m := 0) ih r1)
/-- what an operand is, as data -/
def PlS (S : List Dat) (x : Sl) (m : Nat) (d : Dat) : Prop := Pl m d ∧ (x = .d d ∨ ∃ k ds, x = .c k ∧ d = .lst ds ∧ S[k]? = some (.lst ds))
theorem plS_d {m : Nat} (h : Pl m d) : PlS S (.d d) m d := ⟨h, .inl rfl⟩
theorem plS_c {m k : Nat} (h : Pl m (.lst ds)) (hk : S[k]? = some (.lst ds)) : PlS S (.c k) m (.lst ds) := ⟨h, .inr ⟨k, ds, rfl, rfl, hk⟩⟩
theorem PlS.dp {m : Nat} {v : V} (h : PlS S x m d) (c : Ok K B H as S) (r : RepS K B as v x) : Dp K H v (py d) := by
  obtain ⟨hp, rfl | ⟨k, ds, rfl, rfl, hk⟩⟩ := h
  · exact hp.dp v (Rep.mono c.ex r)
  · obtain ⟨a, ha, rfl⟩ := r
    obtain ⟨vs, hv, rv⟩ := (c.cells k a _ ha hk).2.lst
    have rv' : Reps K H vs ds := Reps.mono c.ex rv
    exact hp.dp (.ref a) (.lst hv rv')
def eqD (d e : Dat) : Bool := PyData.eqv (py d) (py e)
theorem op2_eqD {m1 m2 : Nat} (h1 : PlS S x m1 d) (h2 : PlS S y m2 e) (hm1 : m1 ≤ 64) (hm2 : m2 ≤ 64) : Op2 K (rEqD K) x y S (.bl (eqD d e)) := fun B H as v w c r1 r2 Q q =>
  ⟨py d, py e, h1.dp c r1, h2.dp c r2, h1.1.shaped hm1, h2.1.shaped hm2, q _ B H c Evo.refl (.bl _)⟩
theorem op2_neD {m1 m2 : Nat} (h1 : PlS S x m1 d) (h2 : PlS S y m2 e) (hm1 : m1 ≤ 64) (hm2 : m2 ≤ 64) : Op2 K (rNeD K) x y S (.bl (!eqD d e)) := fun B H as v w c r1 r2 Q q =>
  ⟨py d, py e, h1.dp c r1, h2.dp c r2, h1.1.shaped hm1, h2.1.shaped hm2, q _ B H c Evo.refl (.bl _)⟩
theorem eqD_refl {m : Nat} (h : Pl m d) : eqD d d = true := SeqAt.eqv_refl _ h.lay.1
theorem eqD_int {i j : Int} : eqD (.int i) (.int j) = decide (i = j) := by
  show (i == j) = _
  by_cases h : i = j
  · subst h; simp
  · simp [h]
theorem eqvAll_map {α : Type} [DecidableEq α] (f : α → Dat) (h : ∀ x y, eqD (f x) (f y) = decide (x = y)) : ∀ xs ys : List α, PyData.eqvAll (pyAll (xs.map f)) (pyAll (ys.map f)) = decide (xs = ys)
  | [], [] => by simp [pyAll, PyData.eqvAll]
  | [], y :: ys => by simp [pyAll, PyData.eqvAll]
  | x :: xs, [] => by simp [pyAll, PyData.eqvAll]
  | x :: xs, y :: ys => by
    show (PyData.eqv (py (f x)) (py (f y)) && PyData.eqvAll (pyAll (xs.map f)) (pyAll (ys.map f))) = _
    rw [eqvAll_map f h xs ys]
    have := h x y
    unfold eqD at this
    rw [this]
    by_cases h1 : x = y <;> by_cases h2 : xs = ys <;> simp [h1, h2]
theorem eqD_tup {α : Type} [DecidableEq α] (f : α → Dat) (h : ∀ x y, eqD (f x) (f y) = decide (x = y)) (xs ys : List α) : eqD (.tup (xs.map f)) (.tup (ys.map f)) = decide (xs = ys) := eqvAll_map f h xs ys
theorem eqD_lst {α : Type} [DecidableEq α] (f : α → Dat) (h : ∀ x y, eqD (f x) (f y) = decide (x = y)) (xs ys : List α) : eqD (.lst (xs.map f)) (.lst (ys.map f)) = decide (xs = ys) := eqvAll_map f h xs ys
theorem op2_eq_int {i j : Int} : Op2 K rEq (.d (.int i)) (.d (.int j)) S (.bl (decide (i = j))) := fun B H as v w c h1 h2 Q q => by
  cases h1; cases h2
  have e : decide (V.int i = V.int j) = decide (i = j) := by
    by_cases h : i = j
    · subst h; simp
    · simp [h]
  refine ⟨rfl, ?_⟩
  rw [e]
  exact q _ B H c Evo.refl (.bl _)
theorem op2_ne_int {i j : Int} : Op2 K rNe (.d (.int i)) (.d (.int j)) S (.bl (!decide (i = j))) := fun B H as v w c h1 h2 Q q => by
  cases h1; cases h2
  have e : decide (V.int i = V.int j) = decide (i = j) := by
    by_cases h : i = j
    · subst h; simp
    · simp [h]
  refine ⟨rfl, ?_⟩
  rw [e]
  exact q _ B H c Evo.refl (.bl _)
/-! ### isinstance -/
def tyD : Dat → Option String
  | .non => some "NoneType"
  | .bl _ => some "bool"
  | .int _ => some "int"
  | .str _ => some "str"
  | .tup _ => some "tuple"
  | .lst _ => some "list"
  | _ => none
theorem tyX_of {T : String} {v : V} (c : Ok K B H as S) (h : tyD d = some T) (r : Rep K B v d) : TyX K H v (.type T) := by
  cases r with
  | non => cases h; exact .base .non
  | bl b => cases h; exact .base (.bl b)
  | int i => cases h; exact .base (.int i)
  | str s => cases h; exact .base (.str s)
  | ty n => cases h
  | tup h1 r1 =>
    cases h
    rcases Evl.ex_t c.ex h1 with (z | ⟨o, z⟩) | ⟨o, its, n, z, zc, _⟩
    · exact .base (.tup z)
    · exact .fTuple z
    · exact .kTuple z zc
  | lst h1 r1 => cases h; exact .base (.lst (c.ex _ _ h1))
  | scr h1 => cases h
  | ins h1 r1 => cases h
  | adr a => cases h
theorem cd_isi {T N : String} (h : tyD d = some T) (hk : kitB T N = some b) : CallD K (rIsi K) [.d d, .d (.ty N)] S (.bl b) S := fun B H as vs c r Q q => by
  cases r with
  | cons r1 rr =>
    cases rr with
    | cons r2 rr =>
      cases rr; cases r2
      exact ⟨_, _, .type T, .type N, b, rfl, .ty N, tyX_of c h r1, kit_ty hk, q _ B H c Evo.refl (.bl b)⟩
/-- what an own class is for isinstance -/
structure InsC (K : PySem.W.Frag) (C : Addr) : Prop where
  cl : Cls K C
  ha : PySem.W.findIn K (.ref C) "__class__" = some (some (.builtin "object.__class__"))
  hn : PySem.W.specialIn K (.builtin "object.__class__") "__get__" = some (some (.builtin "getset_descriptor.__get__"))
  htk : PySem.W.takesIn K (.builtin "object.__class__") = some true
  hm : PySem.W.mroIn K C (.type "object") = some true
theorem cd_isiI {C : Addr} {fs : List (Str × Dat)} {cv : V} {cu : Value} {cd : Dat} (T : InsC K C) (hc : ∀ B v, Rep K B v cd → v = cv) (hcv : ClsV cv cu) (hk : PySem.W.kitOne K (.ref C) cu = some b) : CallD K (rIsi K) [.d (.ins C fs), .d cd] S (.bl b) S := fun B H as vs c r Q q => by
  cases r with
  | cons r1 rr =>
    cases rr with
    | cons r2 rr =>
      cases rr
      have e := hc _ _ r2
      subst e
      cases r1 with
      | ins h1 r1 => exact ⟨_, _, .ref C, cu, b, rfl, hcv, .base (.ins (c.ex _ _ h1) T.cl T.ha T.hn T.htk T.hm), hk, q _ B H c Evo.refl (.bl b)⟩
/-- an instance, asked for its own class -/
theorem cd_isiO {C C' : Addr} {fs : List (Str × Dat)} (T : InsC K C) (hk : PySem.W.kitOne K (.ref C) (.ref C') = some b) : CallD K (rIsi K) [.d (.ins C fs), .d (.adr C')] S (.bl b) S :=
  cd_isiI T (fun B v r => by cases r; rfl) (.own C') hk
/-- another value, asked for an own class -/
theorem cd_isiN {T : String} {C : Addr} (h : tyD d = some T) (hk : PySem.W.kitOne K (.type T) (.ref C) = some b) : CallD K (rIsi K) [.d d, .d (.adr C)] S (.bl b) S := fun B H as vs c r Q q => by
  cases r with
  | cons r1 rr =>
    cases rr with
    | cons r2 rr =>
      cases rr; cases r2
      exact ⟨_, _, .type T, .ref C, b, rfl, .own C, tyX_of c h r1, hk, q _ B H c Evo.refl (.bl b)⟩
end
end RW

set_option Elab.async false
set_option linter.all false
set_option maxRecDepth 100000
set_option maxHeartbeats 4000000
namespace RW
open PySem PySem.Spec PyProof.Rows L2
open Evl (Ex)
section
variable {K : PySem.W.Frag} {n : Nat} {te ta tb tc to ti tv : TE} {tt tu : TT} {tA tR : TA} {env env' : Env1} {S S1 S2 S3 : List Dat} {x y z : Sl} {d e : Dat} {ds es : List Dat} {r r' : R2} {P P' : Post} {t u : TS}
  {B B0 B1 B' H H0 H1 H' : Hp} {as as0 as1 : List Addr} {D : Ends} {σ : L2.St} {i j : Int} {k : Nat} {a b c : Bool}
theorem o_le : Op2 K (rI0 fun i j => V.bl (decide (i ≤ j))) (.d (.int i)) (.d (.int j)) S (.bl (decide (i ≤ j))) := op2_int0 fun B => .bl _
theorem o_lt : Op2 K (rI0 fun i j => V.bl (decide (i < j))) (.d (.int i)) (.d (.int j)) S (.bl (decide (i < j))) := op2_int0 fun B => .bl _
theorem o_gt : Op2 K (rI0 fun i j => V.bl (decide (j < i))) (.d (.int i)) (.d (.int j)) S (.bl (decide (j < i))) := op2_int0 fun B => .bl _
theorem o_ge : Op2 K (rI0 fun i j => V.bl (decide (j ≤ i))) (.d (.int i)) (.d (.int j)) S (.bl (decide (j ≤ i))) := op2_int0 fun B => .bl _
theorem o_leT (h : i ≤ j) : Op2 K (rI0 fun i j => V.bl (decide (i ≤ j))) (.d (.int i)) (.d (.int j)) S (.bl true) := by have := @o_le K S i j; rwa [decide_eq_true h] at this
theorem o_ltT (h : i < j) : Op2 K (rI0 fun i j => V.bl (decide (i < j))) (.d (.int i)) (.d (.int j)) S (.bl true) := by have := @o_lt K S i j; rwa [decide_eq_true h] at this
theorem o_add : Op2 K (rI0 fun i j => V.int (i + j)) (.d (.int i)) (.d (.int j)) S (.int (i + j)) := op2_int0 fun B => .int _
theorem o_sub : Op2 K (rI0 fun i j => V.int (i - j)) (.d (.int i)) (.d (.int j)) S (.int (i - j)) := op2_int0 fun B => .int _
theorem o_mul (h : CMul i j) : Op2 K (rI CMul fun i j => V.int (i * j)) (.d (.int i)) (.d (.int j)) S (.int (i * j)) := op2_int h fun B => .int _
theorem o_mod (h : 0 < j) : Op2 K (rI (fun x j => 0 < j) fun i j => V.int (i % j)) (.d (.int i)) (.d (.int j)) S (.int (i % j)) := op2_int h fun B => .int _
theorem o_fdivW (h : CDivW i j) : Op2 K (rI CDivW fun i j => V.int (i / j)) (.d (.int i)) (.d (.int j)) S (.int (i / j)) := op2_int h fun B => .int _
theorem o_pow (h : CPow i j) : Op2 K (rI CPow fun i j => V.int (i ^ j.toNat)) (.d (.int i)) (.d (.int j)) S (.int (i ^ j.toNat)) := op2_int h fun B => .int _
theorem o_neg : Op1 K (rU fun i => V.int (-i)) (.d (.int i)) S (.int (-i)) := op1_int fun B => .int _
theorem cm_l (h1 : -(2 ^ 64) < i) (h2 : i < 2 ^ 64) : CMul i j := .inl ⟨h1, h2⟩
theorem cm_r (h1 : -(2 ^ 64) < j) (h2 : j < 2 ^ 64) : CMul i j := .inr ⟨h1, h2⟩
/-- ** of any base -/
def CPowW (i j : Int) : Prop := 0 ≤ j ∧ (Builtin.Int.intBits i : Int) * j ≤ 2 ^ 27
theorem op_powW {X : Cx} : OpR X (binaryOp .Pow) (rI CPowW fun i j => .int (i ^ j.toNat)) := opI fun i j t u A E s hc q => pow_int hc.1 hc.2 q
theorem o_powW (h : CPowW i j) : Op2 K (rI CPowW fun i j => V.int (i ^ j.toNat)) (.d (.int i)) (.d (.int j)) S (.int (i ^ j.toNat)) := op2_int h fun B => .int _
theorem en_mapA {α : Type} {xs : List α} {g : α → Dat} (h : α → Dat) {wi : TI} {tg : TG} {vs : List Nat} {G : List Addr → List Addr → List Dat → Prop} {is : List Nat} (hw : IterD K wi env S G (xs.map g) S1) (hz : xs.length ≤ sizeLine)
    (hG : ∀ as : List Addr, as.length = S1.length → G as as S1) (his : ∀ i ∈ is, i ∈ vs) (f : α → Env1 → Env1)
    (hs : ∀ (a : α), a ∈ xs → TgD K tg (g a) is (f a) ∧ Ev K te (f a (wipeE env vs)) S1 (.d (h a)) S1) : EvN K (tLc wi tg tYes te vs) env S (xs.map h) S1 := by
  refine en_lc (es := xs.map h) (S' := S1) hw (by rw [List.length_map]; exact hz) (fun i acc S' => acc = (xs.take i).map h ∧ S' = S1) ⟨by simp, rfl⟩ (fun i acc S' h as l1 l2 => by rw [h.2]; exact hG as l1) (fun i d acc S' hd hi => ?_) (fun acc S2 h => ?_)
  · obtain ⟨rfl, rfl⟩ := hi
    rw [List.getElem?_map, Option.map_eq_some_iff] at hd
    obtain ⟨a, ha, rfl⟩ := hd
    obtain ⟨tg, hev⟩ := hs a (List.mem_of_getElem? ha)
    exact ⟨is, f a, true, S', tg, his, et_yes, fun _ => ⟨_, _, hev, (map_take h ha).symm, rfl⟩, fun h => by cases h⟩
  · obtain ⟨rfl, rfl⟩ := h
    exact ⟨by rw [List.length_map, List.take_length], rfl⟩
theorem filter_take {α : Type} (T : α → Bool) {l : List α} {i : Nat} {x : α} (h : l[i]? = some x) : (l.take (i + 1)).filter T = (l.take i).filter T ++ (if T x = true then [x] else []) := by
  have hl := (List.getElem?_eq_some_iff.mp h).1
  have e : l[i] = x := (List.getElem?_eq_some_iff.mp h).2
  rw [List.take_succ_eq_append_getElem hl, e, List.filter_append]
  congr 1
  by_cases q : T x = true <;> simp [q]
theorem en_filterA {α : Type} {xs : List α} {g : α → Dat} (T : α → Bool) (h : α → Dat) {wi : TI} {tg : TG} {vs : List Nat} {G : List Addr → List Addr → List Dat → Prop} {is : List Nat} (hw : IterD K wi env S G (xs.map g) S1) (hz : xs.length ≤ sizeLine)
    (hG : ∀ as : List Addr, as.length = S1.length → G as as S1) (his : ∀ i ∈ is, i ∈ vs) (f : α → Env1 → Env1)
    (hs : ∀ (a : α), a ∈ xs → TgD K tg (g a) is (f a) ∧ EvT K tt (f a (wipeE env vs)) S1 (T a) S1 ∧ (T a = true → Ev K te (f a (wipeE env vs)) S1 (.d (h a)) S1)) : EvN K (tLc wi tg tt te vs) env S ((xs.filter T).map h) S1 := by
  refine en_lc (es := (xs.filter T).map h) (S' := S1) hw (by rw [List.length_map]; exact hz) (fun i acc S' => acc = ((xs.take i).filter T).map h ∧ S' = S1) ⟨by simp, rfl⟩ (fun i acc S' h as l1 l2 => by rw [h.2]; exact hG as l1) (fun i d acc S' hd hi => ?_) (fun acc S2 h => ?_)
  · obtain ⟨rfl, rfl⟩ := hi
    rw [List.getElem?_map, Option.map_eq_some_iff] at hd
    obtain ⟨a, ha, rfl⟩ := hd
    obtain ⟨tg, htt, hev⟩ := hs a (List.mem_of_getElem? ha)
    refine ⟨is, f a, T a, S', tg, his, htt, fun q => ⟨_, _, hev q, ?_, rfl⟩, fun q => ⟨?_, rfl⟩⟩
    · rw [filter_take T ha, if_pos q, List.map_append]; rfl
    · rw [filter_take T ha, if_neg (by simp [q]), List.append_nil]
  · obtain ⟨rfl, rfl⟩ := h
    exact ⟨by rw [List.length_map, List.take_length], rfl⟩
/-- with a state that goes along: the vat -/
theorem en_fold {α β : Type} {xs : List α} {g : α → Dat} {es : List β} (h : β → Dat) (Sf : Nat → List Dat) {wi : TI} {tg : TG} {vs : List Nat} {G : List Addr → List Addr → List Dat → Prop} {is : List Nat} (hw : IterD K wi env S G (xs.map g) (Sf 0)) (hz : xs.length ≤ sizeLine) (hl : es.length = xs.length)
    (hG : ∀ i (as : List Addr), as.length = (Sf i).length → G as as (Sf i)) (hSl : ∀ i, (Sf i).length = (Sf 0).length) (his : ∀ i ∈ is, i ∈ vs) (f : α → Env1 → Env1)
    (hs : ∀ (i : Nat) (a : α) (b : β), xs[i]? = some a → es[i]? = some b → TgD K tg (g a) is (f a) ∧ Ev K te (f a (wipeE env vs)) (Sf i) (.d (h b)) (Sf (i + 1))) : EvN K (tLc wi tg tYes te vs) env S (es.map h) (Sf xs.length) := by
  refine en_lc (es := es.map h) (S' := Sf xs.length) hw (by rw [List.length_map]; exact hz) (fun i acc S' => acc = (es.take i).map h ∧ S' = Sf i) ⟨by simp, rfl⟩ (fun i acc S' h as l1 l2 => by rw [h.2] at l2 ⊢; exact hG i as l2) (fun i d acc S' hd hi => ?_) (fun acc S2 h => ?_)
  · obtain ⟨rfl, rfl⟩ := hi
    rw [List.getElem?_map, Option.map_eq_some_iff] at hd
    obtain ⟨a, ha, rfl⟩ := hd
    have hlt : i < es.length := by rw [hl]; exact (List.getElem?_eq_some_iff.mp ha).1
    obtain ⟨tg, hev⟩ := hs i a es[i] ha (List.getElem?_eq_getElem hlt)
    exact ⟨is, f a, true, _, tg, his, et_yes, fun _ => ⟨_, _, hev, (map_take h (List.getElem?_eq_getElem hlt)).symm, rfl⟩, fun h => by cases h⟩
  · obtain ⟨rfl, rfl⟩ := h
    refine ⟨?_, by rw [List.length_map]⟩
    rw [List.length_map, List.take_of_length_le (by omega)]
theorem sp_forA {α : Type} {xs : List α} {g : α → Dat} {wi : TI} {tg : TG} {tb : TS} {G : List Addr → List Addr → List Dat → Prop} (hw : IterD K wi env S G (xs.map g) S1) (Inv : Nat → Env1 → List Dat → Prop) (h0 : Inv 0 env S1)
    (hG : ∀ i env' S' as as2, Inv i env' S' → as.length = S1.length → as2.length = S'.length → as2.take n = as.take n → G as as2 S')
    (hs : ∀ i a env' S', xs[i]? = some a → Inv i env' S' → ∃ is f, TgD K tg (g a) is f ∧ SP K n tb (f env') S' { P with nx := Inv (i + 1), ct := Inv (i + 1), bk := P.nx })
    (hd : ∀ env' S', Inv xs.length env' S' → P.nx env' S') : SP K n (tFor wi tg tb) env S P := by
  refine sp_for hw Inv h0 hG (fun i d env' S' hd hi => ?_) (fun env' S' h => hd env' S' (by rwa [List.length_map] at h))
  rw [List.getElem?_map, Option.map_eq_some_iff] at hd
  obtain ⟨a, ha, rfl⟩ := hd
  exact hs i a env' S' ha hi
theorem rng_map {lo : Int} {n : Nat} : rng lo n = (List.range n).map fun i => Dat.int (lo + (i : Nat)) := rfl
theorem zip_map {α β : Type} (f : α → Dat) (g : β → Dat) (u : List α) (v : List β) : zipD (u.map f) (v.map g) = (u.zip v).map fun p => Dat.tup [f p.1, g p.2] := by
  unfold zipD
  rw [List.zipWith_map]
  induction u generalizing v with
  | nil => rfl
  | cons x u ih => cases v with
    | nil => rfl
    | cons y v => simp [ih]
theorem enum_map {α : Type} (f : α → Dat) (u : List α) : enumD (u.map f) = u.zipIdx.map fun p => Dat.tup [.int (p.2 : Nat), f p.1] := by
  unfold enumD
  apply List.ext_getElem
  · simp
  · intro i h1 h2; simp
theorem WalkD.weak {J : It} {G G' : List Addr → List Dat → Prop} (w : WalkD K B J G ds) (h : ∀ as2 S2, G' as2 S2 → G as2 S2) : WalkD K B J G' ds :=
  ⟨fun B2 H2 as2 S2 i e c g hi => w.go B2 H2 as2 S2 i e c (h _ _ g) hi, fun B2 H2 as2 S2 i x H3 e c g hi y => w.yld B2 H2 as2 S2 i x H3 e c (h _ _ g) hi y, fun B2 H2 as2 S2 e c g => w.stop B2 H2 as2 S2 e c (h _ _ g)⟩
theorem IterD.weak {wi : TI} {G G' : List Addr → List Addr → List Dat → Prop} (w : IterD K wi env S G ds S1) (h : ∀ as as2 S2, G' as as2 S2 → G as as2 S2) : IterD K wi env S G' ds S1 := fun B H as σ c g R q =>
  w B H as σ c g R fun J B1 H1 c1 e1 w1 => q J B1 H1 c1 e1 (w1.weak (h as))
theorem it_zipA {α β : Type} {u : List α} {v : List β} {f : α → Dat} {g : β → Dat} {x y : Dat} (h : EvA K tA env S [.d x, .d y] S1) (hx : Seq S1 (.d x) (u.map f)) (hy : Seq S1 (.d y) (v.map g)) : IterD K (iZipG K tA) env S G0 ((u.zip v).map fun p => Dat.tup [f p.1, g p.2]) S1 := by
  rw [← zip_map]; exact (it_zip h hx hy).weak fun _ _ _ _ => ⟨trivial, trivial⟩
theorem it_enumA {α : Type} {u : List α} {f : α → Dat} {x : Dat} (h : EvA K tA env S [.d x] S1) (hx : Seq S1 (.d x) (u.map f)) : IterD K (iEnumG K tA) env S G0 (u.zipIdx.map fun p => Dat.tup [.int (p.2 : Nat), f p.1]) S1 := by
  rw [← enum_map]; exact (it_enum h hx).weak fun _ _ _ _ => trivial
/-- return a new list that was just made -/
def SpN (K : PySem.W.Frag) (G : List Sl → List Dat → List Dat → List Dat → Prop) : Sp := fun vs H Q _ => ∃ B as S ss r S', Ok K B H as S ∧ RepSs K B as vs ss ∧ G ss S r S' ∧
  ∀ p B' H' ws, Ok K B' H' as S' → Evo B H as B' H' → H p = none → B' p = none → H' p = some (.lst ws) → Reps K B' ws r → Q (.ref p) H'
theorem en_call {G : List Sl → List Dat → List Dat → List Dat → Prop} {ss : List Sl} {E : XK} (h : EvA K tA env S ss S1) (hg : G ss S1 ds S2) : EvN K (tCall (SpN K G) [] E tA) env S ds S2 := fun B H as σ c g Q q =>
  h B H as σ c g _ fun vs B1 H1 c1 e1 r1 => ⟨B1, as, S1, ss, ds, S2, c1, by rw [List.append_nil]; exact r1, hg, fun p B2 H2 ws c2 e2 hp hb hl r2 => q p B2 H2 ws c2 (e1.trans e2) (e1.old hp) hb hl r2⟩
theorem spn_len {G : List Sl → List Dat → List Dat → List Dat → Prop} {k : Nat} (h : ∀ ss S r S', G ss S r S' → ss.length = k) : ∀ vs H Q E, SpN K G vs H Q E → vs.length = k := fun vs H Q E q => by
  obtain ⟨B, as, S, ss, r, S', c, rs, g, _⟩ := q
  rw [rs.length]
  exact h ss S r S' g
/-- isinstance told as a fact of the data -/
theorem cd_sortedI {ns ns' : List Int} (h : SeqL S x (ns.map Dat.int)) (hp : ns.Perm ns') (hs : ns'.Pairwise (· ≤ ·)) : CallD K (rSortedI K) [x] S (.lst (ns'.map Dat.int)) S := fun B H as vs c r Q q => by
  cases r with
  | cons r1 rr =>
    cases rr
    obtain ⟨a, ws, rfl, hq, hr⟩ := h.read c r1
    rw [hr.ints] at hq
    refine ⟨a, ns, rfl, Evl.sq_of hq, fun ms p h1 h2 hpn => ?_⟩
    have e : ms = ns' := (h1.trans hp).eq_of_pairwise (fun a b _ _ h1 h2 => Int.le_antisymm h1 h2) h2 hs
    subst e
    have rr : ∀ ms : List Int, Reps K (upd B p (.lst (ms.map V.int))) (ms.map V.int) (ms.map Dat.int) := fun ms => by
      have : ∀ (ks : List Int) (B : Hp), Reps K B (ks.map V.int) (ks.map Dat.int) := fun ks B => by
        induction ks with
        | nil => exact .nil
        | cons k ks ih => exact .cons (.int k) ih
      exact this ms _
    exact q _ (upd B p (.lst (ms.map V.int))) _ (c.new hpn) (Evo.new c hpn) (.lst upd_same (rr ms))
theorem ix_seqK {X : Cx} (K : PySem.W.Frag) (h : X.K = K := by rfl) : IxR X (rIx K) := h ▸ ix_seq
theorem pi_seqK {X : Cx} (K : PySem.W.Frag) {tg l : Expr} {tl : TE} (hl : PE X l tl) (h : X.K = K := by rfl) : PI X tg l (iSeq K tl) := h ▸ pi_seq hl
theorem pt_truK {X : Cx} (K : PySem.W.Frag) {e : Expr} {ta : TE} (ha : PE X e ta) (h : X.K = K := by rfl) (he : ∀ whole, isTrue e X.env whole = (do let v ← whole; standAt e.pos; holding [v] (truthy v)) := by intro _; rfl) : PT X e (tTru K ta) := h ▸ pt_tru ha he
theorem call_lenK {X : Cx} (K : PySem.W.Frag) (h : X.K = K := by rfl) : CallR X (.builtin "len") (rLenD K) := h ▸ call_lenD
theorem call_tupK {X : Cx} (K : PySem.W.Frag) (hc : X.calm = true) (h : X.K = K := by rfl) : CallR X (.type "tuple") (rTupD K) := h ▸ call_tupD hc
end
end RW

set_option Elab.async false
set_option linter.all false
set_option maxRecDepth 100000
set_option maxHeartbeats 4000000
namespace RW
open PySem PySem.Spec PyProof.Rows L2
open Evl (Ex)
section
variable {K : PySem.W.Frag} {n : Nat} {te ta tb tc to ti tv : TE} {tt tu : TT} {tA tR : TA} {env env' : Env1} {S S1 S2 S3 : List Dat} {x y z : Sl} {d e : Dat} {ds es : List Dat} {r r' : R2} {P P' : Post} {t u : TS}
  {B B0 B1 B2 B' H H0 H1 H2 H' : Hp} {as as0 as1 : List Addr} {D : Ends} {σ : L2.St} {j k : Nat} {a b c : Bool}
theorem Evo.kept {p : Addr} {o : HO} (e : Evo B1 H1 as B2 H2) (hp : p ∉ as) (h1 : H1 p = some o) (hb : B1 p = none) : H2 p = some o ∧ B2 p = none :=
  ⟨e.fr p o hp h1, (e.gr p (by rw [h1]; simp)).trans hb⟩
/-- (xs, y) with xs a new list that will be changed -/
theorem sp_pairC (h : EvN K ta env S ds S1) (hv : Ev K tb env S1 y S2) (q : SP K n u ((env.set j (some (.c S2.length))).set k (some y)) (S2 ++ [.lst ds]) P) :
    SP K n (tSeq (tAsg (tTup (tCons ta (tCons tb tNil))) (gTup K 2 (gCons (gName j) (gCons (gName k) gNil)))) u) env S P := fun B0 H0 as0 Bk B H as σ hl f c g D m =>
  h B H as σ c g _ fun p B1 H1 vs c1 e1 hp hb h1 r1 => hv B1 H1 as σ c1 (g.mono e1.ex) _ fun w B2 H2 c2 e2 r2 => ⟨by show 2 ≤ sizeLine; decide, fun t ht => by
    have hpa : p ∉ as := c.fresh hp
    obtain ⟨k1, k2⟩ := e2.kept hpa h1 hb
    have c3 := c2.new (o := .tup [.ref p, w]) ht
    have e3 := Evo.new (o := .tup [.ref p, w]) c2 ht
    have e03 := (e1.trans e2).trans e3
    have npt : p ≠ t := by rintro rfl; rw [ht] at k1; cases k1
    refine ⟨t, _, rfl, Evl.st_of upd_same, rfl, _, _, rfl, _, _, rfl, rfl, ?_⟩
    refine q B0 H0 as0 Bk _ _ (as ++ [p]) _ hl ((f.step e03).push (f.evo.old hp)) (c3.push (by rw [upd_ne npt]; exact k2) hpa (.ofL (by rw [upd_ne npt]; exact k1) ((r1.mono e2.ex).mono e3.ex))) ((((g.mono e03.ex).grow).set (s := .c S2.length) j ?_).set k ((r2.mono e3.ex).grow)) D m
    exact ⟨p, by rw [← c2.len]; simp, rfl⟩⟩
/-- both new lists -/
theorem sp_pairCC (h : EvN K ta env S ds S1) (hv : EvN K tb env S1 es S2) (q : SP K n u ((env.set j (some (.c S2.length))).set k (some (.c (S2.length + 1)))) (S2 ++ [.lst ds] ++ [.lst es]) P) :
    SP K n (tSeq (tAsg (tTup (tCons ta (tCons tb tNil))) (gTup K 2 (gCons (gName j) (gCons (gName k) gNil)))) u) env S P := fun B0 H0 as0 Bk B H as σ hl f c g D m =>
  h B H as σ c g _ fun p B1 H1 vs c1 e1 hp hb h1 r1 => hv B1 H1 as σ c1 (g.mono e1.ex) _ fun p2 B2 H2 ws c2 e2 hp2 hb2 h2 r2 => ⟨by show 2 ≤ sizeLine; decide, fun t ht => by
    have hpa : p ∉ as := c.fresh hp
    have hpa2 : p2 ∉ as := c1.fresh hp2
    have hpp : p ≠ p2 := by rintro rfl; rw [hp2] at h1; cases h1
    obtain ⟨k1, k2⟩ := e2.kept hpa h1 hb
    have c3 := c2.new (o := .tup [.ref p, .ref p2]) ht
    have e3 := Evo.new (o := .tup [.ref p, .ref p2]) c2 ht
    have e03 := (e1.trans e2).trans e3
    have npt : p ≠ t := by rintro rfl; rw [ht] at k1; cases k1
    have npt2 : p2 ≠ t := by rintro rfl; rw [ht] at h2; cases h2
    refine ⟨t, _, rfl, Evl.st_of upd_same, rfl, _, _, rfl, _, _, rfl, rfl, ?_⟩
    have c4 := c3.push (p := p) (by rw [upd_ne npt]; exact k2) hpa (.ofL (by rw [upd_ne npt]; exact k1) ((r1.mono e2.ex).mono e3.ex))
    have c5 := c4.push (p := p2) (by rw [upd_ne npt2]; exact hb2) (by simp [hpa2, hpp.symm]) (.ofL (by rw [upd_ne npt2]; exact h2) (r2.mono e3.ex))
    have f4 := (f.step e03).push (f.evo.old hp)
    refine q B0 H0 as0 Bk _ _ (as ++ [p] ++ [p2]) _ hl (f4.push (f.evo.old (e1.old hp2))) c5 ((((g.mono e03.ex).grow).grow.set (s := .c S2.length) j ?_).set (s := .c (S2.length + 1)) k ?_) D m
    · exact ⟨p, by rw [← c2.len]; simp, rfl⟩
    · exact ⟨p2, by rw [← c2.len]; simp, rfl⟩⟩
end
end RW
namespace RW
open PySem PySem.Spec PyProof.Rows L2
section
variable {K : PySem.W.Frag} {te : TE} {tA : TA} {env : Env1} {S S1 S1' : List Dat} {r : Sl} {rs : List Sl} {ds : List Dat}
theorem Ev.toS (h : Ev K te env S r S1) (e : S1 = S1') : Ev K te env S r S1' := e ▸ h
theorem EvN.toS (h : EvN K te env S ds S1) (e : S1 = S1') : EvN K te env S ds S1' := e ▸ h
theorem EvA.toS (h : EvA K tA env S rs S1) (e : S1 = S1') : EvA K tA env S rs S1' := e ▸ h
theorem it_rangeN {m : Nat} (h : EvA K tA env S [.d (.int m)] S1) (hm : m ≤ 1000) : IterD K (iRng1 tA) env S G0 ((List.range m).map fun i => Dat.int (0 + (i : Nat))) S1 := by
  have := it_range1 h ⟨by omega, by omega⟩
  rwa [Int.toNat_natCast, rng_map] at this
end
end RW

set_option Elab.async false
set_option linter.all false
set_option maxRecDepth 100000
set_option maxHeartbeats 4000000
namespace RwT
open PySem PySem.Spec PyProof.Rows L2
theorem tuple_mul1 (l : Addr) (items : Array Value) (n : Nat) (dd : Option Addr) (sl : Array (Option Value)) (u : Tok) :
    Meets (Builtin.«tuple.__mul__» ⟨[.ref l, .int 1 u], []⟩) (fun _ R s => s.heap.get? l = some { cls := .type "tuple", dict := dd, data := .seq items n, slots := sl } ∧
      R (.ok (.ret (Value.ref l))) s) :=
  .of_wp fun prog w A R s h => by
    obtain ⟨hp, g, d, tk, os⟩ := s
    obtain ⟨hl, h⟩ := h
    have f1 := AutoSeq1.idx_int
    wp_walk using wpAny_loadPart' hl
    repeat (first
      | (refine wpAny_ite_false (decide_eq_false (by decide)) ?_; wp_walk using wpAny_loadPart' hl)
      | (refine wpAny_ite_true (by simp) ?_; wp_walk using wpAny_loadPart' hl))
    exact ⟨_, rfl, h⟩
/-- tuple * n, n from 1 on -/
def rRepA (K : PySem.W.Frag) : R2 := fun x y H Q => ∃ l k xs, x = .ref l ∧ y = .int k ∧ SqT K H l xs ∧ xs ≠ [] ∧ 1 ≤ k ∧ k ≤ 1000 ∧ xs.length ≤ 1000 ∧ (k = 1 → Q (.ref l) H) ∧ (2 ≤ k → ∀ p, H p = none → Q (.ref p) (upd H p (.tup (List.replicate k.toNat xs).flatten)))
theorem op_repA {X : Cx} : OpR X (binaryOp .Mult) (rRepA X.K) := by
  intro pins s σ H x y v u Q I rx ry h
  obtain ⟨l, k, xs, rfl, rfl, hT, hne, h1, h2, hz, q1, q2⟩ := h
  by_cases hk : 2 ≤ k
  · exact op_repT pins s σ H _ _ v u Q I rx ry ⟨l, k, xs, rfl, rfl, hT, hne, hk, h2, hz, q2 hk⟩
  obtain rfl : k = 1 := by omega
  cases rx
  obtain ⟨t, rfl⟩ := ry
  obtain ⟨its, r, ⟨⟨cls, dd, data, sl⟩, ho, hc, n, hd⟩, hs⟩ := I.tuple hT
  simp only at hc hd
  subst hc hd
  refine wpAny_binaryOp_repeat_ref (T := "tuple") (U := "int") (by decide) ⟨_, ho, rfl⟩ (fun s' => typeIs_int s' 1 t) noFill_tuple_mul F.fills_int_mul F.slot_int_rmul repeat_tuple F.slot_int_index.lookup
    (call_meets F.slot_int_rmul (typeIs_int s 1 t) F.entry_int_rmul (F.args_int_rmul_2 _ _) (int_rmul_tuple 1 t l its.toArray n dd sl)
      ⟨ho, rfl, ⟨_, ho, rfl⟩, call_meets F.slot_tuple_mul ⟨_, ho, rfl⟩ F.entry_tuple_mul (F.args_tuple_mul_2 _ _) (tuple_mul1 l its.toArray n dd sl t) ⟨ho, ?_⟩⟩)
  exact ⟨.ref l, _, I, rfl, q1 rfl⟩
end RwT
namespace RW
open PySem PySem.Spec PyProof.Rows L2
theorem o_repA {K : PySem.W.Frag} {S : List Dat} {ds : List Dat} {k : Int} (hne : ds ≠ []) (h1 : 1 ≤ k) (h2 : k ≤ 1000) (hz : ds.length ≤ 1000) : Op2 K (RwT.rRepA K) (.d (.tup ds)) (.d (.int k)) S (.tup (List.replicate k.toNat ds).flatten) := fun B H as v w c r1 r2 Q q => by
  cases r2
  cases r1 with
  | tup h1' rr =>
    refine ⟨_, _, _, rfl, rfl, Evl.ex_t c.ex h1', fun e => hne ((reps_ne rr).mp e), h1, h2, by rw [rr.length]; exact hz, fun e => ?_, fun _ p hp => ?_⟩
    · subst e
      have : (List.replicate (1 : Int).toNat ds).flatten = ds := by simp
      rw [this] at q
      exact q _ B H c Evo.refl (.tup h1' rr)
    · exact q _ (upd B p _) _ (c.new hp) (Evo.new c hp) (.tup (Evl.st_of upd_same) ((reps_rep rr _).mono (Evl.Ex.new (c.Bnone hp))))
end RW

set_option Elab.async false
set_option linter.all false
set_option maxRecDepth 100000
set_option maxHeartbeats 4000000
namespace RW
open PySem PySem.Spec PyProof.Rows L2
open Evl (Ex)
theorem it_down {K : PySem.W.Frag} {tA : TA} {env : Env1} {S S1 : List Dat} {m : Nat} (h : EvA K tA env S [.d (.int ((m : Int) - 1)), .d (.int (-1)), .d (.int (-1))] S1) (hm : m ≤ 1000) : IterD K (iRng3 tA) env S G0 (rngR 0 m) S1 := fun B H as σ c g R q =>
  h B H as σ c g _ fun vs B1 H1 c1 e1 r1 => by
    cases r1 with
    | cons r1 rr =>
      cases rr with
      | cons r2 rr =>
        cases rr with
        | cons r3 rr =>
          cases rr
          cases r1; cases r2; cases r3
          have hc : RgC ((m : Int) - 1) (-1) (-1) m := by
            have := RgC.neg (i := (m : Int) - 1) (j := -1) (by omega) (by omega) (by omega) (by omega)
            rwa [show ((m : Int) - 1 - -1).toNat = m by omega] at this
          have hw : WalkD K B1 (Itc (0 + (m : Int) - 1) (-1) m) (G0 as) (rngR 0 m) := walk_rngR
          rw [show (0 : Int) + (m : Int) - 1 = (m : Int) - 1 by omega] at hw
          exact ⟨_, _, _, m, rfl, hc, q _ B1 H1 c1 e1 hw⟩
end RW

set_option Elab.async false
set_option linter.all false
set_option maxRecDepth 100000
set_option maxHeartbeats 4000000
namespace RW
open PySem PySem.Spec PyProof.Rows L2
open Evl (Ex)
/-! ### x is True, x is False: whatever x is -/
def rIsX (neg : Bool) : R2 := fun x y H Q => ∃ b : Bool, y = .bl b ∧ Q (.bl (neg != decide (x = .bl b))) H
theorem plainIs_bl {x : V} {v : Value} {b : Bool} (r : RelV x v) : plainIs v (.bool b) = true ∧ (v == Value.bool b) = decide (x = .bl b) := by
  cases x with
  | bl c =>
    cases (show v = Value.bool c from r)
    refine ⟨rfl, ?_⟩
    by_cases e : c = b
    · subst e; simp
    · have h1 : ¬ (V.bl c = V.bl b) := fun z => e (V.bl.inj z)
      rw [decide_eq_false h1]
      exact beq_eq_false_iff_ne.mpr fun z => e (Value.bool.inj z)
  | non => cases (show v = Value.none from r); exact ⟨rfl, by rw [decide_eq_false (fun z => nomatch z)]; exact beq_eq_false_iff_ne.mpr fun z => nomatch z⟩
  | int i => obtain ⟨t, rfl⟩ := r; exact ⟨rfl, by rw [decide_eq_false (fun z => nomatch z)]; exact beq_eq_false_iff_ne.mpr fun z => nomatch z⟩
  | str i => obtain ⟨t, rfl⟩ := r; exact ⟨rfl, by rw [decide_eq_false (fun z => nomatch z)]; exact beq_eq_false_iff_ne.mpr fun z => nomatch z⟩
  | byt i => obtain ⟨t, rfl⟩ := r; exact ⟨rfl, by rw [decide_eq_false (fun z => nomatch z)]; exact beq_eq_false_iff_ne.mpr fun z => nomatch z⟩
  | flt i => obtain ⟨t, rfl⟩ := r; exact ⟨rfl, by rw [decide_eq_false (fun z => nomatch z)]; exact beq_eq_false_iff_ne.mpr fun z => nomatch z⟩
  | ref a => cases (show v = Value.ref a from r); exact ⟨rfl, by rw [decide_eq_false (fun z => nomatch z)]; exact beq_eq_false_iff_ne.mpr fun z => nomatch z⟩
  | ty n => cases (show v = Value.type n from r); exact ⟨rfl, by rw [decide_eq_false (fun z => nomatch z)]; exact beq_eq_false_iff_ne.mpr fun z => nomatch z⟩
theorem op_isX {X : Cx} : OpR X (compareOp .Is) (rIsX false) := by
  intro pins s σ H x y v u Q I rx ry h
  obtain ⟨b, rfl, q⟩ := h
  cases (show u = Value.bool b from ry)
  obtain ⟨h1, h2⟩ := plainIs_bl (b := b) rx
  refine wpAny_is_plain h1 ⟨.bl (decide (x = .bl b)), H, I, ?_, by simpa using q⟩
  rw [h2]; rfl
theorem op_notX {X : Cx} : OpR X (compareOp .IsNot) (rIsX true) := by
  intro pins s σ H x y v u Q I rx ry h
  obtain ⟨b, rfl, q⟩ := h
  cases (show u = Value.bool b from ry)
  obtain ⟨h1, h2⟩ := plainIs_bl (b := b) rx
  refine wpAny_isNot_plain h1 ⟨.bl (!decide (x = .bl b)), H, I, ?_, by simpa using q⟩
  rw [h2]; rfl
section
variable {K : PySem.W.Frag} {S : List Dat} {i : Int} {b c : Bool} {neg : Bool}
theorem o_isX_int : Op2 K (rIsX neg) (.d (.int i)) (.d (.bl b)) S (.bl neg) := fun B H as v w k h1 h2 Q q => by
  cases h1; cases h2
  refine ⟨b, rfl, ?_⟩
  have e : (neg != decide (V.int i = V.bl b)) = neg := by cases neg <;> rfl
  rw [e]
  exact q _ B H k Evo.refl (.bl _)
end
end RW

set_option Elab.async false
set_option linter.all false
set_option maxRecDepth 100000
set_option maxHeartbeats 4000000
namespace RwT
open PySem PySem.Spec PyProof.Rows L2
section
variable {prog : Program} {w : World} {A : Around} {E : Value → Shared → Prop} {s : Shared} {K : PySem.W.Frag} {x y C f : Addr} {ox oy : Obj} {od od' : Option Obj}
theorem entry_ne (hu : A.units < cLine) (X : K.In s.heap) (I : PySem.W.InstAt s.heap x ox C od) (hs : PySem.W.findIn K (.ref C) "__eq__" = some (some (.ref f))) (hf : PySem.W.isFn K (.ref f) = true) {Q : Fin → Shared → Prop}
    (hcall : wpAny (model prog w) A (call (.ref f) [.ref x, .ref y]) (fun v s' => ∃ b, v = .bool b ∧ Q (.done (.ret (.bool (!b)))) s') E s) :
    wpAny (model prog w) A (Builtin.«object.__ne__» ⟨[.ref x, .ref y], []⟩) Q E s := by
  unfold Builtin.«object.__ne__»
  repeat (first
    | with_reducible refine wpAny_cRoomFor hu ?_
    | (refine wpAny_bind (m := callSpecialIfBound? (.ref x) (Str.ofString "__eq__") [.ref y])
        (PySem.W.ifBound_K X I hs hf (wpAny_mono hcall (fun r s' hr => by
          obtain ⟨b, rfl, hq⟩ := hr
          repeat (first | exact hq | exact wpAny_pure hq | exact wpAny_truthy_bool hq | (refine wpAny_bind (m := truthy (.bool _)) (wpAny_truthy_bool ?_)) | wp_step)) fun _ _ e => e)))
    | wp_step)
theorem ifBound_objNe {M : Model} {args : List Value} {Q : Option Value → Shared → Prop} (X : K.In s.heap) (I : PySem.W.InstAt s.heap x ox C od) (hs : PySem.W.findIn K (.ref C) "__ne__" = some (some (.builtin "object.__ne__")))
    (h : wpAny M A (call (.builtin "object.__ne__") (.ref x :: args)) (fun v => Q (some v)) E s) : wpAny M A (callSpecialIfBound? (.ref x) "__ne__" args) Q E s := by
  simp only [callSpecialIfBound?, bindSpecialIfBound?]
  refine wpAny_holding (wpAny_bind (wpAny_bind (wpAny_bind (I.type.here ((PySem.W.looks_findIn X hs).here ?_)))))
  refine wpAny_bind (wpAny_askSetting (wpAny_ite ?_))
  have fin : wpAny M A (call (.builtin "object.__ne__") ([.ref x] ++ args) >>= fun v => pure (some v)) Q E s := wpAny_bind (wpAny_mono h (fun v s' h' => wpAny_pure h') fun _ _ h' => h')
  split
  · exact wpAny_bind (wpAny_of_eq (F.cmp_object.ne.bind _) (wpAny_pure (by exact fin)))
  · exact wpAny_tryCatch (wpAny_bind (wpAny_of_eq (F.cmp_object.ne.bind _) (wpAny_pure (by exact fin))))
theorem rich_ne (hu : A.units + 1 < cLine) (X : K.In s.heap) (I : PySem.W.InstAt s.heap x ox C od) (I' : PySem.W.InstAt s.heap y oy C od') (hm : PySem.W.mroIn K C (.type "object") = some true)
    (hn : PySem.W.findIn K (.ref C) "__ne__" = some (some (.builtin "object.__ne__"))) (hs : PySem.W.findIn K (.ref C) "__eq__" = some (some (.ref f))) (hf : PySem.W.isFn K (.ref f) = true) {Q : Value → Shared → Prop}
    (hcall : wpAny (model prog w) A.in1 (call (.ref f) [.ref x, .ref y]) (fun v s' => ∃ b, v = .bool b ∧ Q (.bool (!b)) s') E s) :
    wpAny (model prog w) A (richCompare .NotEq (.ref x) (.ref y)) Q E s := by
  have one : wpAny (model prog w) A (tryCompare (.ref x) "__ne__" (.ref y)) (fun r s' => ∃ b, r = some (Value.bool b) ∧ Q (.bool b) s') E s := by
    unfold tryCompare
    refine wpAny_bind (ifBound_objNe X I hn (wpAny_call (codeAny_call_builtin F.cmp_object.ne.plain F.cmpEntry_ne (PySem.W.check_slot F.cmpKind_ne F.cmpSplit_ne (I.type.andThen (PySem.W.looks_mroIn X hm)) (F.cmpArgs_ne _ _)
      (entry_ne (A := A.in1) hu X I hs hf (wpAny_mono hcall (fun v s' hv => ?_) fun _ _ e => e))))))
    obtain ⟨b, rfl, hq⟩ := hv
    first | exact ⟨b, rfl, wpAny_pure ⟨_, rfl, hq⟩⟩ | exact ⟨b, rfl, wpAny_pure (wpAny_pure ⟨_, rfl, hq⟩)⟩
  unfold richCompare
  simp only [oneThing_ref]
  refine wpAny_holding (wpAny_bind (wpAny_cRoomFor (Nat.lt_of_succ_lt hu) ?_))
  rw [cmpInfo_NotEq]
  dsimp only
  refine wpAny_bind (I.type.here (wpAny_bind (I'.type.here ?_)))
  rw [show (Value.ref C != Value.ref C) = false from by simp]
  simp only [Bool.false_eq_true, if_false]
  refine wpAny_bind (wpAny_pure ?_)
  simp only [Bool.false_eq_true, if_false]
  refine wpAny_bind (wpAny_mono one (fun v s' hv => ?_) fun _ _ e => e)
  obtain ⟨b, rfl, hq⟩ := hv
  first | exact wpAny_pure hq | exact wpAny_pure (wpAny_pure hq)
end
/-- what is known of a class with an own == -/
structure OwnC (K : PySem.W.Frag) (C f : Addr) : Prop where
  eq : PySem.W.findIn K (.ref C) "__eq__" = some (some (.ref f))
  fn : PySem.W.isFn K (.ref f) = true
  ne : PySem.W.findIn K (.ref C) "__ne__" = some (some (.builtin "object.__ne__"))
  ob : PySem.W.mroIn K C (.type "object") = some true
  sub : PySem.W.notFirst K C (.ref C) = true
def rOwn (C : Addr) (sp : Sp) (E : XK) (neg : Bool) : R2 := fun x y H Q => ∃ a b dx dy fs gs, x = .ref a ∧ y = .ref b ∧ H a = some (.ins C dx fs) ∧ H b = some (.ins C dy gs) ∧ sp [.ref a, .ref b] H (fun v H' => ∃ k, v = .bl k ∧ Q (.bl (neg != k)) H') E
section
variable {X : Cx} {CX : CXT} {n : Nat} {C f : Addr} {fd : FuncData} {ps : List Str} {sp : Sp} {E : XK}
theorem call_own {A : Around} (hr : Room n A) (hA : A.frames = X.A.frames) (F : FnOk X.prog X.w X.K X.mg X.base CX n f fd ps sp) (hb : L2.Binds X.K fd ps []) (hx : Passes CX X E) {pins : List (Addr × Obj)} {σ : L2.St} {H : Hp} {s : Shared} (I : Inv X pins σ H s) {a b : Addr} {Q : VK} (h : sp [.ref a, .ref b] H Q E) :
    wpAny (model X.prog X.w) A (call (.ref f) [.ref a, .ref b]) (EP X pins σ Q) X.xe s := by
  have e0 : Env0 X.prog X.w X.K X.mg X.base A X.stack s H := by
    have e := I.env0
    exact ⟨by rw [hA]; exact e.frames, e.mod, e.bs, e.bsz, e.funs, e.frf, e.hok, e.bare⟩
  have hl := F.len _ _ _ _ h
  have r2 : Vals [V.ref a, V.ref b] [Value.ref a, Value.ref b] := .cons rfl (.cons rfl .nil)
  refine wpAny_call (codeAny_mono (F.run A X.stack s H ⟨[.ref a, .ref b], []⟩ [.ref a, .ref b] [.ref a, .ref b] _ E hr e0 (by
    have := hb s [.ref a, .ref b] I.kIn (by simpa using hl)
    simpa using this) r2 h) fun r s' hq => ?_)
  cases r with
  | error e => exact hx pins σ H s e s' I hq
  | ok fl =>
    cases fl with
    | ret w => exact I.after hq
    | next => exact False.elim hq
    | brk => exact False.elim hq
    | cont => exact False.elim hq
theorem op_ownEq (O : OwnC X.K C f) (hr : Room n X.A) (F : FnOk X.prog X.w X.K X.mg X.base CX n f fd ps sp) (hb : L2.Binds X.K fd ps []) (hx : Passes CX X E) : OpR X (compareOp .Eq) (rOwn C sp E false) := by
  intro pins s σ H x y v u Q I rx ry h
  obtain ⟨a, b, dx, dy, fs, gs, rfl, rfl, ha, hb', hp⟩ := h
  cases rx
  cases ry
  obtain ⟨mA, J, _⟩ := ins_get I.hok ha
  obtain ⟨mB, J', _⟩ := ins_get I.hok hb'
  obtain ⟨od, J, _⟩ := J.look
  obtain ⟨od', J', _⟩ := J'.look
  obtain ⟨m, hF⟩ := I.fr
  show wpAny (model X.prog X.w) X.A (richCompare .Eq (.ref a) (.ref b)) (EP X pins σ Q) X.xe s
  refine PySem.W.cmp_K (op := .Eq) (tb := .ref C) hr.units0 hF I.ok.mod.kin J J'.type O.sub O.eq O.fn ?_
  refine wpAny_mono (call_own hr rfl F hb hx I hp) (fun r s' q => ?_) fun _ _ x => x
  obtain ⟨z, H', I', rz, k, ez, q⟩ := q
  subst ez
  cases rz
  exact ⟨.bl k, H', I', rfl, by simpa using q⟩
theorem op_ownNe (O : OwnC X.K C f) (hr : Room (n + 1) X.A) (F : FnOk X.prog X.w X.K X.mg X.base CX n f fd ps sp) (hb : L2.Binds X.K fd ps []) (hx : Passes CX X E) : OpR X (compareOp .NotEq) (rOwn C sp E true) := by
  intro pins s σ H x y v u Q I rx ry h
  obtain ⟨a, b, dx, dy, fs, gs, rfl, rfl, ha, hb', hp⟩ := h
  cases rx
  cases ry
  obtain ⟨mA, J, _⟩ := ins_get I.hok ha
  obtain ⟨mB, J', _⟩ := ins_get I.hok hb'
  obtain ⟨od, J, _⟩ := J.look
  obtain ⟨od', J', _⟩ := J'.look
  show wpAny (model X.prog X.w) X.A (richCompare .NotEq (.ref a) (.ref b)) (EP X pins σ Q) X.xe s
  refine rich_ne (by have := hr.un; omega) I.kIn J J' O.ob O.ne O.eq O.fn ?_
  refine wpAny_mono (call_own hr.in1 rfl F hb hx I hp) (fun r s' q => ?_) fun _ _ x => x
  obtain ⟨z, H', I', rz, k, ez, q⟩ := q
  subst ez
  cases rz
  exact ⟨k, rfl, .bl (!k), H', I', rfl, by simpa using q⟩
end
end RwT
namespace RW
open PySem PySem.Spec PyProof.Rows L2
theorem o_own {K : PySem.W.Frag} {C : Addr} {G : List Sl → List Dat → Dat → List Dat → Prop} {E : XK} {neg k : Bool} {S : List Dat} {fs gs : List (Str × Dat)} (hg : G [.d (.ins C fs), .d (.ins C gs)] S (.bl k) S) :
    Op2 K (RwT.rOwn C (SpD K G) E neg) (.d (.ins C fs)) (.d (.ins C gs)) S (.bl (neg != k)) := fun B H as v w c r1 r2 Q q => by
  cases r1 with
  | ins h1 q1 =>
    cases r2 with
    | ins h2 q2 =>
      refine ⟨_, _, _, _, _, _, rfl, rfl, c.ex _ _ h1, c.ex _ _ h2, B, as, S, [.d (.ins C fs), .d (.ins C gs)], _, S, c, .cons (Rep.ins h1 q1 : Rep K B _ (.ins C fs)) (.cons (Rep.ins h2 q2 : Rep K B _ (.ins C gs)) .nil), hg, fun v B' H' c' e' r' => ?_⟩
      cases r'
      exact ⟨k, rfl, q _ B' H' c' e' (.bl _)⟩
end RW

set_option Elab.async false
set_option linter.all false
set_option maxRecDepth 100000
set_option maxHeartbeats 4000000
namespace N21
open PySem PySem.Spec PyProof.Rows L2 RW

/-! the text by places -/
def top (i : Nat) : Stmt := PySem.Challenge.pw_rampworks_k21_whole_trimmed_networks.main.body.getD i (.Pass ⟨0, 0, 0, 0⟩)
abbrev s_is_whole : Stmt := top 7
theorem sc_is_whole : FnScope ["value"] ["value"] (defScope s_is_whole) := ⟨rfl, rfl, rfl, by decide +kernel, rfl, by decide +kernel, by decide +kernel⟩
abbrev s_is_short : Stmt := top 8
theorem sc_is_short : FnScope ["value"] ["value"] (defScope s_is_short) := ⟨rfl, rfl, rfl, by decide +kernel, rfl, by decide +kernel, by decide +kernel⟩
abbrev s_are_short : Stmt := top 9
theorem sc_are_short : FnScope ["values", "x"] ["values"] (defScope s_are_short) := ⟨rfl, rfl, rfl, by decide +kernel, rfl, by decide +kernel, by decide +kernel⟩
abbrev s_is_short_row : Stmt := top 10
theorem sc_is_short_row : FnScope ["value", "least", "most"] ["value", "least", "most"] (defScope s_is_short_row) := ⟨rfl, rfl, rfl, by decide +kernel, rfl, by decide +kernel, by decide +kernel⟩
abbrev s_product_of : Stmt := top 12
theorem sc_product_of : FnScope ["one", "other", "x", "y"] ["one", "other"] (defScope s_product_of) := ⟨rfl, rfl, rfl, by decide +kernel, rfl, by decide +kernel, by decide +kernel⟩
abbrev s_Networku_initu : Stmt := inClass (top 18) 0
theorem sc_Networku_initu : FnScope ["self", "inputs", "layers", "last", "layer", "unit"] ["self", "inputs", "layers", "last"] (defScope s_Networku_initu) := ⟨rfl, rfl, rfl, by decide +kernel, rfl, by decide +kernel, by decide +kernel⟩
abbrev s_Networku_equ : Stmt := inClass (top 18) 1
theorem sc_Networku_equ : FnScope ["self", "value"] ["self", "value"] (defScope s_Networku_equ) := ⟨rfl, rfl, rfl, by decide +kernel, rfl, by decide +kernel, by decide +kernel⟩
abbrev s_are_parts : Stmt := top 20
theorem sc_are_parts : FnScope ["inputs", "layers", "last", "width", "layer", "unit"] ["inputs", "layers", "last"] (defScope s_are_parts) := ⟨rfl, rfl, rfl, by decide +kernel, rfl, by decide +kernel, by decide +kernel⟩
abbrev s_need_network : Stmt := top 21
theorem sc_need_network : FnScope ["network"] ["network"] (defScope s_need_network) := ⟨rfl, rfl, rfl, by decide +kernel, rfl, by decide +kernel, by decide +kernel⟩
abbrev s_need_network_and_row : Stmt := top 22
theorem sc_need_network_and_row : FnScope ["network", "row"] ["network", "row"] (defScope s_need_network_and_row) := ⟨rfl, rfl, rfl, by decide +kernel, rfl, by decide +kernel, by decide +kernel⟩
abbrev s_all_values : Stmt := top 23
theorem sc_all_values : FnScope ["network", "row", "found", "layer", "unit"] ["network", "row"] (defScope s_all_values) := ⟨rfl, rfl, rfl, by decide +kernel, rfl, by decide +kernel, by decide +kernel⟩
abbrev s_value_of : Stmt := top 24
theorem sc_value_of : FnScope ["network", "row"] ["network", "row"] (defScope s_value_of) := ⟨rfl, rfl, rfl, by decide +kernel, rfl, by decide +kernel, by decide +kernel⟩
abbrev s_mattering : Stmt := top 25
theorem sc_mattering : FnScope ["network", "many", "found", "behind", "at", "place", "row"] ["network"] (defScope s_mattering) := ⟨rfl, rfl, rfl, by decide +kernel, rfl, by decide +kernel, by decide +kernel⟩
abbrev s_trimmed : Stmt := top 26
theorem sc_trimmed : FnScope ["network", "found", "kept", "layers", "at", "layer", "units", "k", "unit"] ["network"] (defScope s_trimmed) := ⟨rfl, rfl, rfl, by decide +kernel, rfl, by decide +kernel, by decide +kernel⟩
abbrev s_left_of : Stmt := top 27
theorem sc_left_of : FnScope ["row", "kept", "x", "stays"] ["row", "kept"] (defScope s_left_of) := ⟨rfl, rfl, rfl, by decide +kernel, rfl, by decide +kernel, by decide +kernel⟩
abbrev s__law_vat : Stmt := top 29
theorem sc__law_vat : FnScope ["script", "spot", "cell", "great"] ["script", "spot"] (defScope s__law_vat) := ⟨rfl, rfl, rfl, by decide +kernel, rfl, by decide +kernel, by decide +kernel⟩
abbrev s__law_draw : Stmt := top 30
theorem sc__law_draw : FnScope ["vat", "total", "found", "one", "two"] ["vat", "total"] (defScope s__law_draw) := ⟨rfl, rfl, rfl, by decide +kernel, rfl, by decide +kernel, by decide +kernel⟩
abbrev s__law_pick : Stmt := top 31
theorem sc__law_pick : FnScope ["vat", "items"] ["vat", "items"] (defScope s__law_pick) := ⟨rfl, rfl, rfl, by decide +kernel, rfl, by decide +kernel, by decide +kernel⟩
abbrev s__law_row : Stmt := top 32
theorem sc__law_row : FnScope ["vat", "many", "size", "place"] ["vat", "many", "size"] (defScope s__law_row) := ⟨rfl, rfl, rfl, by decide +kernel, rfl, by decide +kernel, by decide +kernel⟩
abbrev s__law_parts : Stmt := top 33
theorem sc__law_parts : FnScope ["vat", "inputs", "depth", "wide", "size", "layers", "seen", "turn", "layer", "unit"] ["vat", "inputs", "depth", "wide", "size"] (defScope s__law_parts) := ⟨rfl, rfl, rfl, by decide +kernel, rfl, by decide +kernel, by decide +kernel⟩
abbrev s__law_rows : Stmt := top 34
theorem sc__law_rows : FnScope ["vat", "many", "turns", "found", "turn", "size", "place"] ["vat", "many", "turns"] (defScope s__law_rows) := ⟨rfl, rfl, rfl, by decide +kernel, rfl, by decide +kernel, by decide +kernel⟩
abbrev s__law_thin : Stmt := top 35
theorem sc__law_thin : FnScope ["vat", "row", "inputs", "weight"] ["vat", "row", "inputs"] (defScope s__law_thin) := ⟨rfl, rfl, rfl, by decide +kernel, rfl, by decide +kernel, by decide +kernel⟩
abbrev s__law_trimmed : Stmt := top 36
theorem sc__law_trimmed : FnScope ["inputs", "layers", "last", "units", "homes", "depth", "layer", "stays", "at", "rows", "one", "row", "told"] ["inputs", "layers", "last"] (defScope s__law_trimmed) := ⟨rfl, rfl, rfl, by decide +kernel, rfl, by decide +kernel, by decide +kernel⟩
abbrev s__law_left : Stmt := top 37
theorem sc__law_left : FnScope ["row", "inputs", "stays", "at"] ["row", "inputs", "stays"] (defScope s__law_left) := ⟨rfl, rfl, rfl, by decide +kernel, rfl, by decide +kernel, by decide +kernel⟩
abbrev s__law_right : Stmt := top 38
theorem sc__law_right : FnScope ["vat", "inputs", "layers", "last", "unit", "layer", "network", "due", "told", "row"] ["vat"] (defScope s__law_right) := ⟨rfl, rfl, rfl, by decide +kernel, rfl, by decide +kernel, by decide +kernel⟩
abbrev s_law : Stmt := top 39
theorem sc_law : FnScope ["script", "spot", "vat", "turn", "long"] ["script"] (defScope s_law) := ⟨rfl, rfl, rfl, by decide +kernel, rfl, by decide +kernel, by decide +kernel⟩
structure Txt (K : PySem.W.Frag) (mg : Str → Option Value) where
  a_is_whole : Addr
  d_is_whole : FuncData
  F_is_whole : Fun K "is_whole" "is_whole" s_is_whole a_is_whole d_is_whole
  b_is_whole : Binds K d_is_whole ["value"] []
  m_is_whole : mg "is_whole" = some (.ref a_is_whole)
  k_is_whole : PySem.W.keepIn K (.ref a_is_whole) = true
  a_is_short : Addr
  d_is_short : FuncData
  F_is_short : Fun K "is_short" "is_short" s_is_short a_is_short d_is_short
  b_is_short : Binds K d_is_short ["value"] []
  m_is_short : mg "is_short" = some (.ref a_is_short)
  k_is_short : PySem.W.keepIn K (.ref a_is_short) = true
  a_are_short : Addr
  d_are_short : FuncData
  F_are_short : Fun K "are_short" "are_short" s_are_short a_are_short d_are_short
  b_are_short : Binds K d_are_short ["values"] []
  m_are_short : mg "are_short" = some (.ref a_are_short)
  k_are_short : PySem.W.keepIn K (.ref a_are_short) = true
  a_is_short_row : Addr
  d_is_short_row : FuncData
  F_is_short_row : Fun K "is_short_row" "is_short_row" s_is_short_row a_is_short_row d_is_short_row
  b_is_short_row : Binds K d_is_short_row ["value", "least", "most"] []
  m_is_short_row : mg "is_short_row" = some (.ref a_is_short_row)
  k_is_short_row : PySem.W.keepIn K (.ref a_is_short_row) = true
  a_product_of : Addr
  d_product_of : FuncData
  F_product_of : Fun K "product_of" "product_of" s_product_of a_product_of d_product_of
  b_product_of : Binds K d_product_of ["one", "other"] []
  m_product_of : mg "product_of" = some (.ref a_product_of)
  k_product_of : PySem.W.keepIn K (.ref a_product_of) = true
  a_Networku_initu : Addr
  d_Networku_initu : FuncData
  F_Networku_initu : Fun K "__init__" "Network.__init__" s_Networku_initu a_Networku_initu d_Networku_initu
  b_Networku_initu : Binds K d_Networku_initu ["self", "inputs", "layers", "last"] []
  a_Networku_equ : Addr
  d_Networku_equ : FuncData
  F_Networku_equ : Fun K "__eq__" "Network.__eq__" s_Networku_equ a_Networku_equ d_Networku_equ
  b_Networku_equ : Binds K d_Networku_equ ["self", "value"] []
  a_are_parts : Addr
  d_are_parts : FuncData
  F_are_parts : Fun K "are_parts" "are_parts" s_are_parts a_are_parts d_are_parts
  b_are_parts : Binds K d_are_parts ["inputs", "layers", "last"] []
  m_are_parts : mg "are_parts" = some (.ref a_are_parts)
  k_are_parts : PySem.W.keepIn K (.ref a_are_parts) = true
  a_need_network : Addr
  d_need_network : FuncData
  F_need_network : Fun K "need_network" "need_network" s_need_network a_need_network d_need_network
  b_need_network : Binds K d_need_network ["network"] []
  m_need_network : mg "need_network" = some (.ref a_need_network)
  k_need_network : PySem.W.keepIn K (.ref a_need_network) = true
  a_need_network_and_row : Addr
  d_need_network_and_row : FuncData
  F_need_network_and_row : Fun K "need_network_and_row" "need_network_and_row" s_need_network_and_row a_need_network_and_row d_need_network_and_row
  b_need_network_and_row : Binds K d_need_network_and_row ["network", "row"] []
  m_need_network_and_row : mg "need_network_and_row" = some (.ref a_need_network_and_row)
  k_need_network_and_row : PySem.W.keepIn K (.ref a_need_network_and_row) = true
  a_all_values : Addr
  d_all_values : FuncData
  F_all_values : Fun K "all_values" "all_values" s_all_values a_all_values d_all_values
  b_all_values : Binds K d_all_values ["network", "row"] []
  m_all_values : mg "all_values" = some (.ref a_all_values)
  k_all_values : PySem.W.keepIn K (.ref a_all_values) = true
  a_value_of : Addr
  d_value_of : FuncData
  F_value_of : Fun K "value_of" "value_of" s_value_of a_value_of d_value_of
  b_value_of : Binds K d_value_of ["network", "row"] []
  m_value_of : mg "value_of" = some (.ref a_value_of)
  k_value_of : PySem.W.keepIn K (.ref a_value_of) = true
  a_mattering : Addr
  d_mattering : FuncData
  F_mattering : Fun K "mattering" "mattering" s_mattering a_mattering d_mattering
  b_mattering : Binds K d_mattering ["network"] []
  m_mattering : mg "mattering" = some (.ref a_mattering)
  k_mattering : PySem.W.keepIn K (.ref a_mattering) = true
  a_trimmed : Addr
  d_trimmed : FuncData
  F_trimmed : Fun K "trimmed" "trimmed" s_trimmed a_trimmed d_trimmed
  b_trimmed : Binds K d_trimmed ["network"] []
  m_trimmed : mg "trimmed" = some (.ref a_trimmed)
  k_trimmed : PySem.W.keepIn K (.ref a_trimmed) = true
  a_left_of : Addr
  d_left_of : FuncData
  F_left_of : Fun K "left_of" "left_of" s_left_of a_left_of d_left_of
  b_left_of : Binds K d_left_of ["row", "kept"] []
  m_left_of : mg "left_of" = some (.ref a_left_of)
  k_left_of : PySem.W.keepIn K (.ref a_left_of) = true
  a__law_vat : Addr
  d__law_vat : FuncData
  F__law_vat : Fun K "_law_vat" "_law_vat" s__law_vat a__law_vat d__law_vat
  b__law_vat : Binds K d__law_vat ["script", "spot"] []
  m__law_vat : mg "_law_vat" = some (.ref a__law_vat)
  k__law_vat : PySem.W.keepIn K (.ref a__law_vat) = true
  a__law_draw : Addr
  d__law_draw : FuncData
  F__law_draw : Fun K "_law_draw" "_law_draw" s__law_draw a__law_draw d__law_draw
  b__law_draw : Binds K d__law_draw ["vat", "total"] []
  m__law_draw : mg "_law_draw" = some (.ref a__law_draw)
  k__law_draw : PySem.W.keepIn K (.ref a__law_draw) = true
  a__law_pick : Addr
  d__law_pick : FuncData
  F__law_pick : Fun K "_law_pick" "_law_pick" s__law_pick a__law_pick d__law_pick
  b__law_pick : Binds K d__law_pick ["vat", "items"] []
  m__law_pick : mg "_law_pick" = some (.ref a__law_pick)
  k__law_pick : PySem.W.keepIn K (.ref a__law_pick) = true
  a__law_row : Addr
  d__law_row : FuncData
  F__law_row : Fun K "_law_row" "_law_row" s__law_row a__law_row d__law_row
  b__law_row : Binds K d__law_row ["vat", "many", "size"] []
  m__law_row : mg "_law_row" = some (.ref a__law_row)
  k__law_row : PySem.W.keepIn K (.ref a__law_row) = true
  a__law_parts : Addr
  d__law_parts : FuncData
  F__law_parts : Fun K "_law_parts" "_law_parts" s__law_parts a__law_parts d__law_parts
  b__law_parts : Binds K d__law_parts ["vat", "inputs", "depth", "wide", "size"] []
  m__law_parts : mg "_law_parts" = some (.ref a__law_parts)
  k__law_parts : PySem.W.keepIn K (.ref a__law_parts) = true
  a__law_rows : Addr
  d__law_rows : FuncData
  F__law_rows : Fun K "_law_rows" "_law_rows" s__law_rows a__law_rows d__law_rows
  b__law_rows : Binds K d__law_rows ["vat", "many", "turns"] []
  m__law_rows : mg "_law_rows" = some (.ref a__law_rows)
  k__law_rows : PySem.W.keepIn K (.ref a__law_rows) = true
  a__law_thin : Addr
  d__law_thin : FuncData
  F__law_thin : Fun K "_law_thin" "_law_thin" s__law_thin a__law_thin d__law_thin
  b__law_thin : Binds K d__law_thin ["vat", "row", "inputs"] []
  m__law_thin : mg "_law_thin" = some (.ref a__law_thin)
  k__law_thin : PySem.W.keepIn K (.ref a__law_thin) = true
  a__law_trimmed : Addr
  d__law_trimmed : FuncData
  F__law_trimmed : Fun K "_law_trimmed" "_law_trimmed" s__law_trimmed a__law_trimmed d__law_trimmed
  b__law_trimmed : Binds K d__law_trimmed ["inputs", "layers", "last"] []
  m__law_trimmed : mg "_law_trimmed" = some (.ref a__law_trimmed)
  k__law_trimmed : PySem.W.keepIn K (.ref a__law_trimmed) = true
  a__law_left : Addr
  d__law_left : FuncData
  F__law_left : Fun K "_law_left" "_law_left" s__law_left a__law_left d__law_left
  b__law_left : Binds K d__law_left ["row", "inputs", "stays"] []
  m__law_left : mg "_law_left" = some (.ref a__law_left)
  k__law_left : PySem.W.keepIn K (.ref a__law_left) = true
  a__law_right : Addr
  d__law_right : FuncData
  F__law_right : Fun K "_law_right" "_law_right" s__law_right a__law_right d__law_right
  b__law_right : Binds K d__law_right ["vat"] []
  m__law_right : mg "_law_right" = some (.ref a__law_right)
  k__law_right : PySem.W.keepIn K (.ref a__law_right) = true
  a_law : Addr
  d_law : FuncData
  F_law : Fun K "law" "law" s_law a_law d_law
  b_law : Binds K d_law ["script"] []
  t_BEYOND : Tok
  m_BEYOND : mg "BEYOND" = some (.int (10 ^ 60) t_BEYOND)
  t_BENEATH : Tok
  m_BENEATH : mg "BENEATH" = some (.int (-(10 ^ 60)) t_BENEATH)
  t_MOST_INPUTS : Tok
  m_MOST_INPUTS : mg "MOST_INPUTS" = some (.int 8 t_MOST_INPUTS)
  t_MOST_LAYERS : Tok
  m_MOST_LAYERS : mg "MOST_LAYERS" = some (.int 4 t_MOST_LAYERS)
  t_MOST_IN_LAYER : Tok
  m_MOST_IN_LAYER : mg "MOST_IN_LAYER" = some (.int 64 t_MOST_IN_LAYER)
  t_MOST_UNITS : Tok
  m_MOST_UNITS : mg "MOST_UNITS" = some (.int 128 t_MOST_UNITS)
  n_isinstance : mg "isinstance" = none
  n_int : mg "int" = none
  n_bool : mg "bool" = none
  n_tuple : mg "tuple" = none
  n_list : mg "list" = none
  n_len : mg "len" = none
  n_sum : mg "sum" = none
  n_all : mg "all" = none
  n_any : mg "any" = none
  n_zip : mg "zip" = none
  n_max : mg "max" = none
  n_min : mg "min" = none
  n_abs : mg "abs" = none
  n_range : mg "range" = none
  n_enumerate : mg "enumerate" = none
  n_reversed : mg "reversed" = none
  n_sorted : mg "sorted" = none
  C : Addr
  cl : Cls K C
  na_inputs : NoAttr K C "inputs"
  na_layers : NoAttr K C "layers"
  na_last : NoAttr K C "last"
  na_depth : NoAttr K C "depth"
  na_units : NoAttr K C "units"
  m_Network : mg "Network" = some (.ref C)
  M_Network : Mk K C a_Networku_initu
  isC : InsC K C
  o_eq : PySem.W.findIn K (.ref C) "__eq__" = some (some (.ref a_Networku_equ))
  o_fn : PySem.W.isFn K (.ref a_Networku_equ) = true
  o_ne : PySem.W.findIn K (.ref C) "__ne__" = some (some (.builtin "object.__ne__"))
  o_sub : PySem.W.notFirst K C (.ref C) = true
  kC : PySem.W.kitOne K (.ref C) (.ref C) = some true
end N21

set_option Elab.async false
set_option linter.all false
set_option maxRecDepth 100000
set_option maxHeartbeats 4000000
namespace N21
open PySem PySem.Spec PyProof.Rows L2 RW

def rowD (r : List Int) : Dat := .tup (r.map Dat.int)
def layD (l : List (List Int)) : Dat := .tup (l.map rowD)
def laysD (L : List (List (List Int))) : Dat := .tup (L.map layD)
def Sh (i : Int) : Prop := -(10 ^ 60) < i ∧ i < 10 ^ 60
theorem Sh.wide {i : Int} (h : Sh i) : -(10 ^ 60) < i ∧ i < 10 ^ 60 := h
theorem Sh.bits {i : Int} (h : Sh i) : i.natAbs < 2 ^ 200 := by
  unfold Sh at h
  have e : (10 : Nat) ^ 60 ≤ 2 ^ 200 := by decide
  have : i.natAbs < 10 ^ 60 := by omega
  omega
theorem log2_le {x k : Nat} (h : x < 2 ^ k) : x.log2 ≤ k := by
  by_cases hx : x = 0
  · subst hx; simp
  · exact Nat.le_of_lt ((Nat.log2_lt hx).mpr h)
/-- values of units: far below what the numbers of the program may be -/
def Big (k : Nat) (v : List Int) : Prop := ∀ y ∈ v, y.natAbs < 2 ^ k
theorem cmw {i j : Int} {k : Nat} (h1 : Sh i) (h2 : j.natAbs < 2 ^ k) (hk : k ≤ 4000) : CMulW i j := by
  have a := log2_le h1.bits
  have b := log2_le h2
  unfold CMulW
  omega
def Rw (r : List Int) (n : Nat) : Prop := r.length = n ∧ ∀ x ∈ r, Sh x
def dot (u v : List Int) : Int := ((u.zip v).map fun p => p.1 * p.2).sum
def gInt (ss : List Sl) (S : List Dat) (r : Dat) (S' : List Dat) : Prop := ∃ i : Int, ss = [.d (.int i)] ∧ r = .bl true ∧ S' = S
def gShort (ss : List Sl) (S : List Dat) (r : Dat) (S' : List Dat) : Prop := ∃ i : Int, ss = [.d (.int i)] ∧ Sh i ∧ r = .bl true ∧ S' = S
def gShorts (ss : List Sl) (S : List Dat) (r : Dat) (S' : List Dat) : Prop := ∃ u : List Int, ss = [.d (rowD u)] ∧ (∀ x ∈ u, Sh x) ∧ r = .bl true ∧ S' = S
def gSRow (ss : List Sl) (S : List Dat) (r : Dat) (S' : List Dat) : Prop := ∃ (u : List Int) (n : Nat) (a b : Int), ss = [.d (rowD u), .d (.int a), .d (.int b)] ∧ Rw u n ∧ a ≤ n ∧ n ≤ b ∧ n ≤ 1000 ∧ r = .bl true ∧ S' = S
def gDot (ss : List Sl) (S : List Dat) (r : Dat) (S' : List Dat) : Prop := ∃ (u v : List Int), ss = [.d (rowD u), .d (.lst (v.map Dat.int))] ∧ Rw u v.length ∧ v.length ≤ 1000 ∧ Big 4000 v ∧ r = .int (dot u v) ∧ S' = S
theorem o_mulW {K : PySem.W.Frag} {S : List Dat} {i j : Int} (h : CMulW i j) : Op2 K (rI CMulW fun i j => V.int (i * j)) (.d (.int i)) (.d (.int j)) S (.int (i * j)) := op2_int h fun B => .int _
theorem dot_b {k : Nat} : ∀ (u v : List Int), (∀ x ∈ u, Sh x) → Big k v → (dot u v).natAbs ≤ u.length * 2 ^ (200 + k)
  | [], v, _, _ => by simp [dot]
  | x :: u, [], _, _ => by simp [dot]
  | x :: u, y :: v, h1, h2 => by
    have ih := dot_b u v (fun x hx => h1 x (List.mem_cons_of_mem _ hx)) (fun y hy => h2 y (List.mem_cons_of_mem _ hy))
    have a := (h1 x List.mem_cons_self).bits
    have b := h2 y List.mem_cons_self
    have c : x.natAbs * y.natAbs ≤ 2 ^ 200 * 2 ^ k := Nat.mul_le_mul (Nat.le_of_lt a) (Nat.le_of_lt b)
    rw [← Nat.pow_add] at c
    have e : dot (x :: u) (y :: v) = x * y + dot u v := by unfold dot; rw [List.zip_cons_cons, List.map_cons, List.sum_cons]
    rw [e, List.length_cons, Nat.add_mul, Nat.one_mul]
    have d := Int.natAbs_add_le (x * y) (dot u v)
    rw [Int.natAbs_mul] at d
    omega
theorem dot_big {k : Nat} {u v : List Int} (h1 : ∀ x ∈ u, Sh x) (h2 : Big k v) (hl : u.length ≤ 255) : (dot u v).natAbs < 2 ^ (k + 208) := by
  have := dot_b u v h1 h2
  have e : 2 ^ (k + 208) = 256 * 2 ^ (200 + k) := by rw [show k + 208 = 8 + (200 + k) by omega, Nat.pow_add 2 8]
  have p : 0 < 2 ^ (200 + k) := Nat.pow_pos (by decide)
  have q : u.length * 2 ^ (200 + k) ≤ 255 * 2 ^ (200 + k) := Nat.mul_le_mul_right _ hl
  omega
theorem Big.mono {k m : Nat} {v : List Int} (h : Big k v) (hm : k ≤ m) : Big m v := fun y hy => Nat.lt_of_lt_of_le (h y hy) (Nat.pow_le_pow_right (by decide) hm)
theorem size_1000 {n : Nat} (h : n ≤ 1000) : n ≤ sizeLine := Nat.le_trans h (by decide)
section
variable {P : Program} {w : World} {K : PySem.W.Frag} {mg : Str → Option Value} {base : Heap}

theorem ok_is_whole (T : Txt K mg) : FnOk P w K mg base CX0 1 T.a_is_whole T.d_is_whole ["value"] (SpD K (gInt)) := by
  refine T.F_is_whole.ok sc_is_whole (spd_len (k := 1) fun ss S r S' hg => ?_) (fun cdv A outer s H vs Q E hr h => ⟨_, (pss_one (ps_ret (pe_and (pe_callB call_isi (by rfl) T.n_isinstance (by decide +kernel) (pa_cons (pv 0) (pa_cons (pe_bltn (v := .ty "int") (by rfl) T.n_int (by decide +kernel) rfl) pa_nil))) (pe_and (pe_cmpR op_notX (pv 0) pe_bl (nomark _)) (pe_one (pe_cmpR op_notX (pv 0) pe_bl (nomark _))))))), sp_body h fun ss S r S' hg => ?_⟩)
  · obtain ⟨i, rfl, _⟩ := hg; rfl
  · obtain ⟨i, rfl, rfl, rfl⟩ := hg
    refine sp_ret (d := .bl true) ?_ ⟨rfl, List.take_length⟩
    refine ev_andV (a := true) (b := true) ?_ fun _ => ev_andV (a := true) (b := true) ?_ fun _ => ?_
    · exact ev_cb (ea_cons (ev_var rfl) (ea_cons ev_ty ea_nil)) (cd_isi (T := "int") rfl (by decide +kernel))
    · exact ev_op (ev_var rfl) ev_bl o_isX_int
    · exact ev_op (ev_var rfl) ev_bl o_isX_int
theorem ok_is_short (T : Txt K mg) : FnOk P w K mg base CX0 2 T.a_is_short T.d_is_short ["value"] (SpD K (gShort)) := by
  have G_is_whole := ok_is_whole (P := P) (w := w) (base := base) T
  have b_is_whole := T.b_is_whole
  refine T.F_is_short.ok sc_is_short (spd_len (k := 1) fun ss S r S' hg => ?_) (fun cdv A outer s H vs Q E hr h => ⟨_, (pss_one (ps_ret (pe_and (pe_call G_is_whole (hr.mono (by decide)) rfl T.m_is_whole T.k_is_whole b_is_whole .nil pass0 (pa_cons (pv 0) pa_nil)) (pe_one (pe_chain op_lt op_lt (pe_glob (v := .int (-(10 ^ 60))) rfl T.m_BENEATH ⟨_, rfl⟩) (pv 0) (pe_glob (v := .int (10 ^ 60)) rfl T.m_BEYOND ⟨_, rfl⟩)))))), sp_body h fun ss S r S' hg => ?_⟩)
  · obtain ⟨i, rfl, _⟩ := hg; rfl
  · obtain ⟨i, rfl, hi, rfl, rfl⟩ := hg
    refine sp_ret (d := .bl true) ?_ ⟨rfl, List.take_length⟩
    refine ev_andV (a := true) (b := true) ?_ fun _ => ?_
    · exact ev_call (ea_cons (ev_var rfl) ea_nil) ⟨i, rfl, rfl, rfl⟩
    · exact ev_chain (a := true) (b := true) ev_int (ev_var rfl) (o_ltT hi.wide.1) (fun _ => ev_int) (fun _ => o_ltT hi.wide.2)
theorem ok_are_short (T : Txt K mg) : FnOk P w K mg base CX0 1 T.a_are_short T.d_are_short ["values"] (SpD K (gShorts)) := by
  refine T.F_are_short.ok sc_are_short (spd_len (k := 1) fun ss S r S' hg => ?_) (fun cdv A outer s H vs Q E hr h => ⟨_, (pss_cons (ps_for PassesOwn.never rfl (pi_seqK K (pv 0)) (pg_name (i := 1) sc_are_short.nd rfl (by first | exact Or.inl rfl | exact Or.inr rfl)) (pss_one (ps_if (PW.pt (pw_or (pt_not (pt_truK K (pe_callB call_isi (by rfl) T.n_isinstance (by decide +kernel) (pa_cons (pv 1) (pa_cons (pe_bltn (v := .ty "int") (by rfl) T.n_int (by decide +kernel) rfl) pa_nil))))) (pw_or (pt_cmpR op_isX (pv 1) pe_bl (nomark _)) (pw_or (pt_cmpR op_isX (pv 1) pe_bl (nomark _)) (pw_or (pt_cmpR op_le (pv 1) (pe_glob (v := .int (-(10 ^ 60))) rfl T.m_BENEATH ⟨_, rfl⟩) (nomark _)) (pw_or1 (pt_cmpR op_ge (pv 1) (pe_glob (v := .int (10 ^ 60)) rfl T.m_BEYOND ⟨_, rfl⟩) (nomark _)))))))) (pss_one (ps_ret pe_bl)) pss_nil))) (pss_one (ps_ret pe_bl))), sp_body h fun ss S r S' hg => ?_⟩)
  · obtain ⟨i, rfl, _⟩ := hg; rfl
  · obtain ⟨u, rfl, hu, rfl, rfl⟩ := hg
    refine sp_seq (P' := { nx := fun env' S2 => S2 = S' ∧ ∃ o1, env' = [some (.d (rowD u)), o1] })
      (sp_forA (xs := u) (g := Dat.int) (it_tup (ev_var rfl)) (fun i env' S2 => S2 = S' ∧ ∃ o1, env' = [some (.d (rowD u)), o1]) ⟨rfl, none, rfl⟩ (fun _ _ _ _ _ _ _ _ _ => trivial) ?_ ?_) ?_
    · rintro i x env' S2 hx ⟨rfl, o1, rfl⟩
      have hs := hu x (List.mem_of_getElem? hx)
      refine ⟨[1], fun env => env.set 1 (some (.d (.int x))), tg_name, ?_⟩
      refine sp_if (b := false) (et_orP (a := false) (b := false) (et_not (a := true) (et_bl (ev_cb (ea_cons (ev_var rfl) (ea_cons ev_ty ea_nil)) (cd_isi (T := "int") rfl (by decide +kernel))))) fun _ => et_orP (a := false) (b := false) (et_test (ev_op (ev_var rfl) ev_bl o_isX_int)) fun _ => et_orP (a := false) (b := false) (et_test (ev_op (ev_var rfl) ev_bl o_isX_int)) fun _ => et_orP (a := false) (b := false) (et_test ((ev_op (ev_var rfl) ev_int o_le).to ?_)) fun _ => et_test ((ev_op (ev_var rfl) ev_int o_ge).to ?_)) (fun h => by cases h) fun _ => sp_next ⟨rfl, _, rfl⟩
      · congr 2; exact decide_eq_false (by have := hs.wide.1; omega)
      · congr 2; exact decide_eq_false (by have := hs.wide.2; omega)
    · rintro env' S2 ⟨rfl, o1, rfl⟩
      exact ⟨rfl, o1, rfl⟩
    · rintro env' S2 ⟨rfl, o1, rfl⟩
      exact sp_ret ev_bl ⟨rfl, List.take_length⟩
theorem ok_is_short_row (T : Txt K mg) : FnOk P w K mg base CX0 3 T.a_is_short_row T.d_is_short_row ["value", "least", "most"] (SpD K (gSRow)) := by
  have G_are_short := ok_are_short (P := P) (w := w) (base := base) T
  have b_are_short := T.b_are_short
  refine T.F_is_short_row.ok sc_is_short_row (spd_len (k := 3) fun ss S r S' hg => ?_) (fun cdv A outer s H vs Q E hr h => ⟨_, (pss_one (ps_ret (pe_and (pe_callB call_isi (by rfl) T.n_isinstance (by decide +kernel) (pa_cons (pv 0) (pa_cons (pe_bltn (v := .ty "tuple") (by rfl) T.n_tuple (by decide +kernel) rfl) pa_nil))) (pe_and (pe_chain op_le op_le (pv 1) (pe_callB (call_lenK K) (by rfl) T.n_len (by decide +kernel) (pa_cons (pv 0) pa_nil)) (pv 2)) (pe_one (pe_call G_are_short (hr.mono (by decide)) rfl T.m_are_short T.k_are_short b_are_short .nil pass0 (pa_cons (pv 0) pa_nil))))))), sp_body h fun ss S r S' hg => ?_⟩)
  · obtain ⟨i, n, a, b, rfl, _⟩ := hg; rfl
  · obtain ⟨u, n, lo, hi, rfl, ⟨hn, hu⟩, h1, h2, hz, rfl, rfl⟩ := hg
    refine sp_ret (d := .bl true) ?_ ⟨rfl, List.take_length⟩
    refine ev_andV (a := true) (b := true) ?_ fun _ => ev_andV (a := true) (b := true) ?_ fun _ => ?_
    · exact ev_cb (ea_cons (ev_var rfl) (ea_cons ev_ty ea_nil)) (cd_isi (T := "tuple") rfl (by decide +kernel))
    · refine ev_chain (a := true) (b := true) (ev_var rfl) (ev_cb (ea_cons (ev_var rfl) ea_nil) (cd_len .tup)) (o_leT ?_) (fun _ => ev_var rfl) (fun _ => o_leT ?_)
      all_goals
        rw [List.length_map, hn]
        assumption
    · exact ev_call (ea_cons (ev_var rfl) ea_nil) ⟨u, rfl, hu, rfl, rfl⟩
theorem ok_product_of (T : Txt K mg) : FnOk P w K mg base CX0 1 T.a_product_of T.d_product_of ["one", "other"] (SpD K (gDot)) := by
  refine T.F_product_of.ok sc_product_of (spd_len (k := 2) fun ss S r S' hg => ?_) (fun cdv A outer s H vs Q E hr h => ⟨_, (pss_one (ps_ret (pe_callB (cr_sum rfl) (by rfl) T.n_sum (by decide +kernel) (pa_cons (pe_lc (own := [("x", 2), ("y", 3)]) (g := gTup K 2 (gCons (gName 2) (gCons (gName 3) gNil))) rfl sc_product_of.nd (pi_zipG (by rfl) T.n_zip (pa_cons (pv 0) (pa_cons (pv 1) pa_nil))) (blkOk_by (own := [("x", 2), ("y", 3)]) (N := ["one", "other", "x", "y"]) (sc := (defScope s_product_of)) (by decide +kernel)) (fun _ _ _ _ _ => (pg_tup rfl (pgs_cons (pg_name (i := 2) sc_product_of.nd rfl (by first | exact Or.inl rfl | exact Or.inr rfl)) (pgs_cons (pg_name (i := 3) sc_product_of.nd rfl (by first | exact Or.inl rfl | exact Or.inr rfl)) pgs_nil)))) (fun _ _ _ _ _ => pts_nil) (fun _ _ _ _ _ => (pe_op op_mulW (pv 2) (pv 3)))) pa_nil)))), sp_body h fun ss S r S' hg => ?_⟩)
  · obtain ⟨i, n, rfl, _⟩ := hg; rfl
  · obtain ⟨u, v, rfl, ⟨hn, hu⟩, hz, hv, rfl, rfl⟩ := hg
    have hzz : (u.zip v).length ≤ sizeLine := size_1000 (by rw [List.length_zip]; omega)
    refine sp_ret (d := .int (dot u v)) (ev_cb (ea_cons (EvN.ev (en_mapA (xs := u.zip v) (g := fun p => Dat.tup [.int p.1, .int p.2]) (is := [2, 3]) (fun p => Dat.int (p.1 * p.2)) (it_zipA (ea_cons (ev_var rfl) (ea_cons (ev_var rfl) ea_nil)) .tup .lst) hzz (fun _ _ => trivial) (by decide) (fun p env => (env.set 2 (some (.d (.int p.1)))).set 3 (some (.d (.int p.2)))) fun a ha => ⟨tg_pair, ?_⟩)) ea_nil) (cd_sum (ns := (u.zip v).map fun p => p.1 * p.2) ?_)) ⟨rfl, List.take_length⟩
    · exact ev_op (ev_var rfl) (ev_var rfl) (o_mulW (cmw (hu _ (List.of_mem_zip ha).1) (hv _ (List.of_mem_zip ha).2) (Nat.le_refl _)))
    · rw [List.map_map]; exact .lst
end
end N21

set_option Elab.async false
set_option linter.all false
set_option maxRecDepth 100000
set_option maxHeartbeats 4000000
namespace N21
open PySem PySem.Spec PyProof.Rows L2 RW

/-! ### the networks as data -/
def lefts (r : List Int) (kp : List Bool) : List Int := ((r.zip kp).filter fun p => p.2).map fun p => p.1
abbrev Lays := List (List (List Int))
def netD (C : Addr) (n : Nat) (L : Lays) (last : List Int) : Dat := .ins C [("inputs", .int n), ("layers", laysD L), ("last", rowD last), ("depth", .int L.length), ("units", .tup (L.flatten.map rowD))]
def WL : Nat → Lays → Prop
  | _, [] => True
  | w, l :: L => (1 ≤ l.length ∧ l.length ≤ 64 ∧ ∀ u ∈ l, Rw u w) ∧ WL (w + l.length) L
structure Wf (n : Nat) (L : Lays) (last : List Int) : Prop where
  n1 : 1 ≤ n
  n8 : n ≤ 8
  l4 : L.length ≤ 4
  wl : WL n L
  u : L.flatten.length ≤ 128
  la : Rw last (n + L.flatten.length)
theorem flat_len_take {L : Lays} {i : Nat} {l : List (List Int)} (h : L[i]? = some l) : (L.take (i + 1)).flatten.length = (L.take i).flatten.length + l.length := by
  have hl := (List.getElem?_eq_some_iff.mp h).1
  have e : L[i] = l := (List.getElem?_eq_some_iff.mp h).2
  rw [List.take_succ_eq_append_getElem hl, e, List.flatten_append, List.length_append]
  simp
theorem WL.get : ∀ {L : Lays} {w i : Nat} {l : List (List Int)}, WL w L → L[i]? = some l → 1 ≤ l.length ∧ l.length ≤ 64 ∧ ∀ u ∈ l, Rw u (w + (L.take i).flatten.length)
  | [], _, _, _, _, e => by simp at e
  | l :: L, w, 0, _, h, e => by simp at e; subst e; simpa using h.1
  | l :: L, w, i + 1, m, h, e => by
    have := WL.get (i := i) (l := m) h.2 (by simpa using e)
    rw [List.take_succ_cons, List.flatten_cons, List.length_append, ← Nat.add_assoc]
    exact this
def vals (L : Lays) (row : List Int) : List Int := L.foldl (fun found l => found ++ l.map fun u => max 0 (dot u found)) row
theorem vals_take {L : Lays} {row : List Int} {i : Nat} {l : List (List Int)} (h : L[i]? = some l) : vals (L.take (i + 1)) row = vals (L.take i) row ++ l.map fun u => max 0 (dot u (vals (L.take i) row)) := by
  have hl := (List.getElem?_eq_some_iff.mp h).1
  have e : L[i] = l := (List.getElem?_eq_some_iff.mp h).2
  unfold vals
  rw [List.take_succ_eq_append_getElem hl, e, List.foldl_append]
  rfl
theorem vals_len : ∀ (L : Lays) (row : List Int), (vals L row).length = row.length + L.flatten.length
  | [], row => by simp [vals]
  | l :: L, row => by
    show (vals L (row ++ l.map _)).length = _
    rw [vals_len L, List.length_append, List.length_map, List.flatten_cons, List.length_append]
    omega
theorem vals_big {n : Nat} : ∀ (L : Lays) (w k : Nat) (row : List Int), WL w L → w + L.flatten.length ≤ 255 → Big k row → Big (k + 208 * L.length) (vals L row)
  | [], _, k, row, _, _, h => h.mono (Nat.le_add_right _ _)
  | l :: L, w, k, row, hw, hl, h => by
    rw [List.flatten_cons, List.length_append] at hl
    show Big _ (vals L (row ++ l.map _))
    have := vals_big (n := n) L (w + l.length) (k + 208) (row ++ l.map fun u => max 0 (dot u row)) hw.2 (by omega) (fun y hy => by
      rcases List.mem_append.mp hy with hy | hy
      · exact h.mono (Nat.le_add_right _ _) y hy
      · obtain ⟨u, hu, rfl⟩ := List.mem_map.mp hy
        have hu2 := hw.1.2.2 u hu
        have hd := dot_big hu2.2 h (by rw [hu2.1]; omega)
        have : (max 0 (dot u row)).natAbs ≤ (dot u row).natAbs := by omega
        exact Nat.lt_of_le_of_lt this hd)
    rw [List.length_cons]
    exact this.mono (by omega)
theorem Wf.big {n : Nat} {L : Lays} {last row : List Int} (h : Wf n L last) (hr : Rw row n) (i : Nat) : Big 4000 (vals (L.take i) row) := by
  have hl : (L.take i).flatten.length ≤ L.flatten.length := by
    conv => rhs; rw [← List.take_append_drop i L, List.flatten_append, List.length_append]
    omega
  have ht : ∀ (L : Lays) (w i : Nat), WL w L → WL w (L.take i) := by
    intro L
    induction L with
    | nil => intro w i _; simp [WL]
    | cons l L ih =>
      intro w i h
      cases i with
      | zero => trivial
      | succ i => exact ⟨h.1, ih _ i h.2⟩
  have := h.u
  have := h.n8
  have b := vals_big (n := n) (L.take i) n 200 row (ht L n i h.wl) (by omega) fun y hy => (hr.2 y hy).bits
  refine b.mono ?_
  have := h.l4
  rw [List.length_take]
  omega
def gLeft (ss : List Sl) (S : List Dat) (r : Dat) (S' : List Dat) : Prop := ∃ (u : List Int) (kp : List Bool), ss = [.d (rowD u), .d (.lst (kp.map Dat.bl))] ∧ u.length ≤ 1000 ∧ r = rowD (lefts u kp) ∧ S' = S
def gNeed (C : Addr) (ss : List Sl) (S : List Dat) (r : Dat) (S' : List Dat) : Prop := ∃ (n : Nat) (L : Lays) (last : List Int), ss = [.d (netD C n L last)] ∧ r = .non ∧ S' = S
def gNeedR (C : Addr) (ss : List Sl) (S : List Dat) (r : Dat) (S' : List Dat) : Prop := ∃ (n : Nat) (L : Lays) (last row : List Int), ss = [.d (netD C n L last), .d (rowD row)] ∧ Rw row n ∧ n ≤ 8 ∧ r = .non ∧ S' = S
def gAll (C : Addr) (ss : List Sl) (S : List Dat) (r : Dat) (S' : List Dat) : Prop := ∃ (n : Nat) (L : Lays) (last row : List Int), ss = [.d (netD C n L last), .d (rowD row)] ∧ Rw row n ∧ Wf n L last ∧ r = .lst ((vals L row).map Dat.int) ∧ S' = S
def gVal (C : Addr) (ss : List Sl) (S : List Dat) (r : Dat) (S' : List Dat) : Prop := ∃ (n : Nat) (L : Lays) (last row : List Int), ss = [.d (netD C n L last), .d (rowD row)] ∧ Rw row n ∧ Wf n L last ∧ r = .int (dot last (vals L row)) ∧ S' = S
theorem Wf.all {n : Nat} {L : Lays} {last : List Int} (h : Wf n L last) (i : Nat) : n + (L.take i).flatten.length ≤ 136 := by
  have : (L.take i).flatten.length ≤ L.flatten.length := by
    conv => rhs; rw [← List.take_append_drop i L, List.flatten_append, List.length_append]
    omega
  have := h.u; have := h.n8
  omega
section
variable {P : Program} {w : World} {K : PySem.W.Frag} {mg : Str → Option Value} {base : Heap}

theorem ok_left_of (T : Txt K mg) : FnOk P w K mg base CX0 1 T.a_left_of T.d_left_of ["row", "kept"] (SpD K (gLeft)) := by
  refine T.F_left_of.ok sc_left_of (spd_len (k := 2) fun ss S r S' hg => ?_) (fun cdv A outer s H vs Q E hr h => ⟨_, (pss_one (ps_ret (pe_callTy (call_tupK K rfl) (by rfl) T.n_tuple (by decide +kernel) (pa_cons (pe_lc (own := [("x", 2), ("stays", 3)]) (g := gTup K 2 (gCons (gName 2) (gCons (gName 3) gNil))) rfl sc_left_of.nd (pi_zipG (by rfl) T.n_zip (pa_cons (pv 0) (pa_cons (pv 1) pa_nil))) (blkOk_by (own := [("x", 2), ("stays", 3)]) (N := ["row", "kept", "x", "stays"]) (sc := (defScope s_left_of)) (by decide +kernel)) (fun _ _ _ _ _ => (pg_tup rfl (pgs_cons (pg_name (i := 2) sc_left_of.nd rfl (by first | exact Or.inl rfl | exact Or.inr rfl)) (pgs_cons (pg_name (i := 3) sc_left_of.nd rfl (by first | exact Or.inl rfl | exact Or.inr rfl)) pgs_nil)))) (fun _ _ _ _ _ => (pts_one (pt_truK K (pv 3)))) (fun _ _ _ _ _ => (pv 2))) pa_nil)))), sp_body h fun ss S r S' hg => ?_⟩)
  · obtain ⟨i, n, rfl, _⟩ := hg; rfl
  · obtain ⟨u, kp, rfl, hz, rfl, rfl⟩ := hg
    have hzz : (u.zip kp).length ≤ sizeLine := size_1000 (by rw [List.length_zip]; omega)
    refine sp_ret (d := rowD (lefts u kp)) (ev_cb (ea_cons (EvN.ev (en_filterA (xs := u.zip kp) (g := fun p => Dat.tup [.int p.1, .bl p.2]) (is := [2, 3]) (fun p => p.2) (fun p => Dat.int p.1) (it_zipA (ea_cons (ev_var rfl) (ea_cons (ev_var rfl) ea_nil)) .tup .lst) hzz (fun _ _ => trivial) (by decide) (fun p env => (env.set 2 (some (.d (.int p.1)))).set 3 (some (.d (.bl p.2)))) fun a ha => ⟨tg_pair, et_bl (ev_var rfl), fun _ => ev_var rfl⟩)) ea_nil) (cd_tup ?_)) ⟨rfl, List.take_length⟩
    rw [lefts, List.map_map]; exact .lst
theorem ok_need_network (T : Txt K mg) : FnOk P w K mg base CX0 1 T.a_need_network T.d_need_network ["network"] (SpD K (gNeed T.C)) := by
  refine T.F_need_network.ok sc_need_network (spd_len (k := 1) fun ss S r S' hg => ?_) (fun cdv A outer s H vs Q E hr h => ⟨_, (pss_one (ps_if (pt_not (pt_truK K (pe_callB call_isi (by rfl) T.n_isinstance (by decide +kernel) (pa_cons (pv 0) (pa_cons (pe_glob (v := .ref T.C) rfl T.m_Network rfl) pa_nil))))) (pss_one ps_never) pss_nil)), sp_body h fun ss S r S' hg => ?_⟩)
  · obtain ⟨i, n, l, rfl, _⟩ := hg; rfl
  · obtain ⟨n, L, last, rfl, rfl, rfl⟩ := hg
    refine sp_if (b := false) (et_not (a := true) (et_bl (ev_cb (ea_cons (ev_var rfl) (ea_cons ev_adr ea_nil)) (cd_isiO T.isC T.kC)))) (fun h => by cases h) fun _ => sp_next ⟨rfl, List.take_length⟩
theorem ok_need_network_and_row (T : Txt K mg) : FnOk P w K mg base CX0 4 T.a_need_network_and_row T.d_need_network_and_row ["network", "row"] (SpD K (gNeedR T.C)) := by
  have G_need_network := ok_need_network (P := P) (w := w) (base := base) T
  have b_need_network := T.b_need_network
  have G_is_short_row := ok_is_short_row (P := P) (w := w) (base := base) T
  have b_is_short_row := T.b_is_short_row
  refine T.F_need_network_and_row.ok sc_need_network_and_row (spd_len (k := 2) fun ss S r S' hg => ?_) (fun cdv A outer s H vs Q E hr h => ⟨_, (pss_cons (ps_expr (pe_call G_need_network (hr.mono (by decide)) rfl T.m_need_network T.k_need_network b_need_network .nil pass0 (pa_cons (pv 0) pa_nil))) (pss_one (ps_if (pt_not (pt_truK K (pe_call G_is_short_row (hr.mono (by decide)) rfl T.m_is_short_row T.k_is_short_row b_is_short_row .nil pass0 (pa_cons (pv 1) (pa_cons (pe_fld (pv 0) rfl) (pa_cons (pe_fld (pv 0) rfl) pa_nil)))))) (pss_one ps_never) pss_nil))), sp_body h fun ss S r S' hg => ?_⟩)
  · obtain ⟨i, n, l, r, rfl, _⟩ := hg; rfl
  · obtain ⟨n, L, last, row, rfl, hrw, hn, rfl, rfl⟩ := hg
    refine sp_drop (ev_call (ea_cons (ev_var rfl) ea_nil) ⟨n, L, last, rfl, rfl, rfl⟩) ?_
    refine sp_if (b := false) (et_not (a := true) (et_bl (ev_call (ea_cons (ev_var rfl) (ea_cons (ev_fld (ev_var rfl) T.cl T.na_inputs rfl) (ea_cons (ev_fld (ev_var rfl) T.cl T.na_inputs rfl) ea_nil))) ⟨row, n, n, n, rfl, hrw, Int.le_refl _, Int.le_refl _, by omega, rfl, rfl⟩))) (fun h => by cases h) fun _ => sp_next ⟨rfl, List.take_length⟩
theorem ok_all_values (T : Txt K mg) : FnOk P w K mg base CX0 2 T.a_all_values T.d_all_values ["network", "row"] (SpD K (gAll T.C)) := by
  have G_product_of := ok_product_of (P := P) (w := w) (base := base) T
  have b_product_of := T.b_product_of
  refine T.F_all_values.ok sc_all_values (spd_len (k := 2) fun ss S r S' hg => ?_) (fun cdv A outer s H vs Q E hr h => ⟨_, (pss_cons (ps_set (i := 2) sc_all_values.nd rfl (by first | exact Or.inl rfl | exact Or.inr rfl) (pe_callTy (call_lstD rfl) (by rfl) T.n_list (by decide +kernel) (pa_cons (pv 1) pa_nil))) (pss_cons (ps_for PassesOwn.never rfl (pi_seqK K (pe_fld (pv 0) rfl)) (pg_name (i := 3) sc_all_values.nd rfl (by first | exact Or.inl rfl | exact Or.inr rfl)) (pss_one (ps_set (i := 2) sc_all_values.nd rfl (by first | exact Or.inl rfl | exact Or.inr rfl) (pe_op op_cat (pv 2) (pe_lc (own := [("unit", 4)]) rfl sc_all_values.nd (pi_seqK K (pv 3)) (blkOk_by (own := [("unit", 4)]) (N := ["network", "row", "found", "layer", "unit"]) (sc := (defScope s_all_values)) (by decide +kernel)) (fun _ _ _ _ _ => (pg_name (i := 4) sc_all_values.nd rfl (by first | exact Or.inl rfl | exact Or.inr rfl))) (fun _ _ _ _ _ => pts_nil) (fun _ _ _ _ _ => (pe_callB (call_max2D rfl) (by rfl) T.n_max (by decide +kernel) (pa_cons pe_int (pa_cons (pe_call G_product_of (hr.mono (by decide)) rfl T.m_product_of T.k_product_of b_product_of .nil pass0 (pa_cons (pv 4) (pa_cons (pv 2) pa_nil))) pa_nil))))))))) (pss_one (ps_ret (pv 2))))), sp_body h fun ss S r S' hg => ?_⟩)
  · obtain ⟨i, n, l, r, rfl, _⟩ := hg; rfl
  · obtain ⟨n, L, last, row, rfl, hrw, hw, rfl, rfl⟩ := hg
    refine sp_set (EvN.ev (en_list (ea_cons (ev_var rfl) ea_nil) .tup)) ?_
    refine sp_then (S1 := S') (env1 := [some (.d (netD T.C n L last)), some (.d (rowD row)), some (.d (.lst ((vals L row).map Dat.int))), (L.getLast?.map fun l => Sl.d (layD l)), none]) (sp_forA (xs := L) (g := layD) (it_tup (ev_fld (ev_var rfl) T.cl T.na_layers rfl)) (fun i env' S2 => S2 = S' ∧ env' = [some (.d (netD T.C n L last)), some (.d (rowD row)), some (.d (.lst ((vals (L.take i) row).map Dat.int))), ((L.take i).getLast?.map fun l => Sl.d (layD l)), none]) ⟨rfl, rfl⟩ (fun _ _ _ _ _ _ _ _ _ => trivial) ?_ ?_) ?_
    · rintro i l env' S2 hl ⟨rfl, rfl⟩
      obtain ⟨h1, h2, h3⟩ := hw.wl.get hl
      have hlen := vals_len (L.take i) row
      rw [hrw.1] at hlen
      have hall := hw.all i
      refine ⟨[3], fun env => env.set 3 (some (.d (layD l))), tg_name, ?_⟩
      refine sp_set1 (EvN.ev (en_cat (ev_var rfl) (EvN.ev (en_mapA (xs := l) (is := [4]) (fun u => Dat.int (max 0 (dot u (vals (L.take i) row)))) (it_tup (ev_var rfl)) (size_1000 (by omega)) (fun _ _ => trivial) (by decide) (fun u env => env.set 4 (some (.d (rowD u)))) fun u hu => ⟨tg_name, ?_⟩)) .lst .lst ?_)) ?_
      · exact ev_cb (ea_cons ev_int (ea_cons (ev_call (ea_cons (ev_var rfl) (ea_cons (ev_var rfl) ea_nil)) ⟨u, vals (L.take i) row, rfl, by rw [hlen]; exact h3 u hu, by omega, hw.big hrw i, rfl, rfl⟩) ea_nil)) cd_max2
      · rw [List.length_map, List.length_map]
        exact size_1000 (by omega)
      · refine ⟨rfl, ?_⟩
        rw [vals_take hl, List.map_append, List.map_map]
        have hlt := (List.getElem?_eq_some_iff.mp hl).1
        have e : L[i] = l := (List.getElem?_eq_some_iff.mp hl).2
        rw [List.take_succ_eq_append_getElem hlt, e, List.getLast?_append]
        rfl
    · rintro env' S2 ⟨rfl, rfl⟩
      rw [List.take_length]
      exact ⟨rfl, rfl⟩
    · exact sp_ret (ev_var rfl) ⟨rfl, List.take_length⟩
theorem ok_value_of (T : Txt K mg) : FnOk P w K mg base CX0 5 T.a_value_of T.d_value_of ["network", "row"] (SpD K (gVal T.C)) := by
  have G_need_network_and_row := ok_need_network_and_row (P := P) (w := w) (base := base) T
  have b_need_network_and_row := T.b_need_network_and_row
  have G_product_of := ok_product_of (P := P) (w := w) (base := base) T
  have b_product_of := T.b_product_of
  have G_all_values := ok_all_values (P := P) (w := w) (base := base) T
  have b_all_values := T.b_all_values
  refine T.F_value_of.ok sc_value_of (spd_len (k := 2) fun ss S r S' hg => ?_) (fun cdv A outer s H vs Q E hr h => ⟨_, (pss_cons (ps_expr (pe_call G_need_network_and_row (hr.mono (by decide)) rfl T.m_need_network_and_row T.k_need_network_and_row b_need_network_and_row .nil pass0 (pa_cons (pv 0) (pa_cons (pv 1) pa_nil)))) (pss_one (ps_ret (pe_call G_product_of (hr.mono (by decide)) rfl T.m_product_of T.k_product_of b_product_of .nil pass0 (pa_cons (pe_fld (pv 0) rfl) (pa_cons (pe_call G_all_values (hr.mono (by decide)) rfl T.m_all_values T.k_all_values b_all_values .nil pass0 (pa_cons (pv 0) (pa_cons (pv 1) pa_nil))) pa_nil)))))), sp_body h fun ss S r S' hg => ?_⟩)
  · obtain ⟨i, n, l, r, rfl, _⟩ := hg; rfl
  · obtain ⟨n, L, last, row, rfl, hrw, hw, rfl, rfl⟩ := hg
    refine sp_drop (ev_call (ea_cons (ev_var rfl) (ea_cons (ev_var rfl) ea_nil)) ⟨n, L, last, row, rfl, hrw, hw.n8, rfl, rfl⟩) ?_
    have hlen : (vals L row).length = n + L.flatten.length := by rw [vals_len, hrw.1]
    have hall := hw.all L.length
    rw [List.take_length] at hall
    refine sp_ret (ev_call (ea_cons (ev_fld (ev_var rfl) T.cl T.na_last rfl) (ea_cons (ev_call (ea_cons (ev_var rfl) (ea_cons (ev_var rfl) ea_nil)) ⟨n, L, last, row, rfl, hrw, hw, rfl, rfl⟩) ea_nil)) ⟨last, vals L row, rfl, by rw [hlen]; exact hw.la, by omega, by have := hw.big hrw L.length; rwa [List.take_length] at this, rfl, rfl⟩) ⟨rfl, List.take_length⟩
end
end N21

set_option Elab.async false
set_option linter.all false
set_option maxRecDepth 100000
set_option maxHeartbeats 4000000
namespace N21
open PySem PySem.Spec PyProof.Rows L2 RW

def gParts (ss : List Sl) (S : List Dat) (r : Dat) (S' : List Dat) : Prop := ∃ (n : Nat) (L : Lays) (last : List Int), ss = [.d (.int n), .d (laysD L), .d (rowD last)] ∧ Wf n L last ∧ r = .bl true ∧ S' = S
def gInit (C : Addr) (ss : List Sl) (S : List Dat) (r : Dat) (S' : List Dat) : Prop := ∃ (k : Nat) (n : Nat) (L : Lays) (last : List Int), ss = [.c k, .d (.int n), .d (laysD L), .d (rowD last)] ∧ S[k]? = some (.ins C []) ∧ Wf n L last ∧ r = .non ∧ S' = S.set k (netD C n L last)
def gEq (C : Addr) (ss : List Sl) (S : List Dat) (r : Dat) (S' : List Dat) : Prop := ∃ (n n' : Nat) (L L' : Lays) (last last' : List Int), ss = [.d (netD C n L last), .d (netD C n' L' last')] ∧ r = .bl (decide ((n = n' ∧ L = L') ∧ last = last')) ∧ S' = S
theorem o_gtF {K : PySem.W.Frag} {S : List Dat} {i j : Int} (h : ¬ j < i) : Op2 K (rI0 fun i j => V.bl (decide (j < i))) (.d (.int i)) (.d (.int j)) S (.bl false) := by have := @o_gt K S i j; rwa [decide_eq_false h] at this
theorem pl_row (r : List Int) : Pl 1 (rowD r) := .tup fun d hd => by obtain ⟨x, _, rfl⟩ := List.mem_map.mp hd; exact .int x
theorem pl_lay (l : List (List Int)) : Pl 2 (layD l) := .tup fun d hd => by obtain ⟨x, _, rfl⟩ := List.mem_map.mp hd; exact pl_row x
theorem pl_lays (L : Lays) : Pl 3 (laysD L) := .tup fun d hd => by obtain ⟨x, _, rfl⟩ := List.mem_map.mp hd; exact pl_lay x
theorem eq_row (r r' : List Int) : eqD (rowD r) (rowD r') = decide (r = r') := eqD_tup _ (fun _ _ => eqD_int) r r'
theorem eq_lay (r r' : List (List Int)) : eqD (layD r) (layD r') = decide (r = r') := eqD_tup _ eq_row r r'
theorem eq_lays (r r' : Lays) : eqD (laysD r) (laysD r') = decide (r = r') := eqD_tup _ eq_lay r r'
def inn : Dat → List Dat
  | .tup xs => xs
  | _ => []
theorem flat_lays (L : Lays) : ((L.map layD).flatMap fun d => (inn d).map fun e => e) = L.flatten.map rowD := by
  induction L with
  | nil => rfl
  | cons l L ih =>
    rw [List.map_cons, List.flatMap_cons, ih, List.flatten_cons, List.map_append]
    congr 1
    show (l.map rowD).map (fun e => e) = _
    rw [List.map_id']
section
variable {P : Program} {w : World} {K : PySem.W.Frag} {mg : Str → Option Value} {base : Heap}

theorem ok_are_parts (T : Txt K mg) : FnOk P w K mg base CX0 4 T.a_are_parts T.d_are_parts ["inputs", "layers", "last"] (SpD K (gParts)) := by
  have G_is_short := ok_is_short (P := P) (w := w) (base := base) T
  have b_is_short := T.b_is_short
  have G_is_short_row := ok_is_short_row (P := P) (w := w) (base := base) T
  have b_is_short_row := T.b_is_short_row
  refine T.F_are_parts.ok sc_are_parts (spd_len (k := 3) fun ss S r S' hg => ?_) (fun cdv A outer s H vs Q E hr h => ⟨_, (pss_cons (ps_if (PW.pt (pw_or (pt_not (pt_truK K (pe_call G_is_short (hr.mono (by decide)) rfl T.m_is_short T.k_is_short b_is_short .nil pass0 (pa_cons (pv 0) pa_nil)))) (pw_or1 (pt_not (pt_chain op_le op_le pe_int (pv 0) (pe_glob (v := .int 8) rfl T.m_MOST_INPUTS ⟨_, rfl⟩)))))) (pss_one (ps_ret pe_bl)) pss_nil) (pss_cons (ps_if (PW.pt (pw_or (pt_not (pt_truK K (pe_callB call_isi (by rfl) T.n_isinstance (by decide +kernel) (pa_cons (pv 1) (pa_cons (pe_bltn (v := .ty "tuple") (by rfl) T.n_tuple (by decide +kernel) rfl) pa_nil))))) (pw_or1 (pt_cmpR op_gt (pe_callB (call_lenK K) (by rfl) T.n_len (by decide +kernel) (pa_cons (pv 1) pa_nil)) (pe_glob (v := .int 4) rfl T.m_MOST_LAYERS ⟨_, rfl⟩) (nomark _))))) (pss_one (ps_ret pe_bl)) pss_nil) (pss_cons (ps_set (i := 3) sc_are_parts.nd rfl (by first | exact Or.inl rfl | exact Or.inr rfl) (pv 0)) (pss_cons (ps_for PassesOwn.never rfl (pi_seqK K (pv 1)) (pg_name (i := 4) sc_are_parts.nd rfl (by first | exact Or.inl rfl | exact Or.inr rfl)) (pss_cons (ps_if (PW.pt (pw_or (pt_not (pt_truK K (pe_callB call_isi (by rfl) T.n_isinstance (by decide +kernel) (pa_cons (pv 4) (pa_cons (pe_bltn (v := .ty "tuple") (by rfl) T.n_tuple (by decide +kernel) rfl) pa_nil))))) (pw_or1 (pt_not (pt_chain op_le op_le pe_int (pe_callB (call_lenK K) (by rfl) T.n_len (by decide +kernel) (pa_cons (pv 4) pa_nil)) (pe_glob (v := .int 64) rfl T.m_MOST_IN_LAYER ⟨_, rfl⟩)))))) (pss_one (ps_ret pe_bl)) pss_nil) (pss_cons (ps_if (pt_not (pt_truK K (pe_callB (cr_all rfl) (by rfl) T.n_all (by decide +kernel) (pa_cons (pe_lc (own := [("unit", 5)]) rfl sc_are_parts.nd (pi_seqK K (pv 4)) (blkOk_by (own := [("unit", 5)]) (N := ["inputs", "layers", "last", "width", "layer", "unit"]) (sc := (defScope s_are_parts)) (by decide +kernel)) (fun _ _ _ _ _ => (pg_name (i := 5) sc_are_parts.nd rfl (by first | exact Or.inl rfl | exact Or.inr rfl))) (fun _ _ _ _ _ => pts_nil) (fun _ _ _ _ _ => (pe_call G_is_short_row (hr.mono (by decide)) rfl T.m_is_short_row T.k_is_short_row b_is_short_row .nil pass0 (pa_cons (pv 5) (pa_cons (pv 3) (pa_cons (pv 3) pa_nil)))))) pa_nil)))) (pss_one (ps_ret pe_bl)) pss_nil) (pss_one (ps_aug (i := 3) sc_are_parts.nd rfl (by first | exact Or.inl rfl | exact Or.inr rfl) (pe_callB (call_lenK K) (by rfl) T.n_len (by decide +kernel) (pa_cons (pv 4) pa_nil)) ip_add))))) (pss_one (ps_ret (pe_and (pe_cmpR op_le (pe_op op_sub (pv 3) (pv 0)) (pe_glob (v := .int 128) rfl T.m_MOST_UNITS ⟨_, rfl⟩) (nomark _)) (pe_one (pe_call G_is_short_row (hr.mono (by decide)) rfl T.m_is_short_row T.k_is_short_row b_is_short_row .nil pass0 (pa_cons (pv 2) (pa_cons (pv 3) (pa_cons (pv 3) pa_nil)))))))))))), sp_body h fun ss S r S' hg => ?_⟩)
  · obtain ⟨i, n, l, rfl, _⟩ := hg; rfl
  · obtain ⟨n, L, last, rfl, hw, rfl, rfl⟩ := hg
    have h1 := hw.n1
    have h8 := hw.n8
    have h4 := hw.l4
    refine sp_ifq (b := false) (et_orP (a := false) (b := false) (et_not (a := true) (et_bl (ev_call (ea_cons (ev_var rfl) ea_nil) ⟨n, rfl, by unfold Sh; omega, rfl, rfl⟩))) fun _ => et_not (a := true) (et_test (ev_chain (a := true) (b := true) ev_int (ev_var rfl) (o_leT (by omega)) (fun _ => ev_int) (fun _ => o_leT (by omega))))) (fun h => by cases h) fun _ => sp_nextq ?_
    refine sp_ifq (b := false) (et_orP (a := false) (b := false) (et_not (a := true) (et_bl (ev_cb (ea_cons (ev_var rfl) (ea_cons ev_ty ea_nil)) (cd_isi (T := "tuple") rfl (by decide +kernel))))) fun _ => et_test (ev_op (ev_cb (ea_cons (ev_var rfl) ea_nil) (cd_len .tup)) ev_int (o_gtF (by rw [List.length_map]; omega)))) (fun h => by cases h) fun _ => sp_nextq ?_
    refine sp_set (ev_var rfl) ?_
    refine sp_then (S1 := S') (env1 := [some (.d (.int n)), some (.d (laysD L)), some (.d (rowD last)), some (.d (.int ((n + L.flatten.length : Nat) : Int))), (L.getLast?.map fun l => Sl.d (layD l)), none]) (sp_forA (xs := L) (g := layD) (it_tup (ev_var rfl)) (fun i env' S2 => S2 = S' ∧ env' = [some (.d (.int n)), some (.d (laysD L)), some (.d (rowD last)), some (.d (.int ((n + (L.take i).flatten.length : Nat) : Int))), ((L.take i).getLast?.map fun l => Sl.d (layD l)), none]) ⟨rfl, rfl⟩ (fun _ _ _ _ _ _ _ _ _ => trivial) ?_ ?_) ?_
    · rintro i l env' S2 hl ⟨rfl, rfl⟩
      obtain ⟨g1, g2, g3⟩ := hw.wl.get hl
      have hall := hw.all i
      refine ⟨[4], fun env => env.set 4 (some (.d (layD l))), tg_name, ?_⟩
      refine sp_ifq (b := false) (et_orP (a := false) (b := false) (et_not (a := true) (et_bl (ev_cb (ea_cons (ev_var rfl) (ea_cons ev_ty ea_nil)) (cd_isi (T := "tuple") rfl (by decide +kernel))))) fun _ => et_not (a := true) (et_test (ev_chain (a := true) (b := true) ev_int (ev_cb (ea_cons (ev_var rfl) ea_nil) (cd_len .tup)) (o_leT (by rw [List.length_map]; omega)) (fun _ => ev_int) (fun _ => o_leT (by rw [List.length_map]; omega))))) (fun h => by cases h) fun _ => sp_nextq ?_
      refine sp_ifq (b := false) (et_not (a := true) (et_bl ((ev_cb (ea_cons (EvN.ev (en_mapA (xs := l) (is := [5]) (fun u => Dat.bl true) (it_tup (ev_var rfl)) (size_1000 (by omega)) (fun _ _ => trivial) (by decide) (fun u env => env.set 5 (some (.d (rowD u)))) fun u hu => ⟨tg_name, ?_⟩)) ea_nil) (cd_all (bs := l.map fun _ => true) ?_)).to ?_))) (fun h => by cases h) fun _ => sp_nextq ?_
      · exact ev_call (ea_cons (ev_var rfl) (ea_cons (ev_var rfl) (ea_cons (ev_var rfl) ea_nil))) ⟨u, _, _, _, rfl, g3 u hu, Int.le_refl _, Int.le_refl _, by omega, rfl, rfl⟩
      · rw [List.map_map]; exact .lst
      · congr 2; simp
      · refine sp_aug1 rfl (ev_cb (ea_cons (ev_var rfl) ea_nil) (cd_len .tup)) ⟨rfl, ?_⟩
        have hlt := (List.getElem?_eq_some_iff.mp hl).1
        have e : L[i] = l := (List.getElem?_eq_some_iff.mp hl).2
        rw [flat_len_take hl, List.take_succ_eq_append_getElem hlt, e, List.getLast?_append, List.length_map, ← Nat.add_assoc, Int.natCast_add]
        rfl
    · rintro env' S2 ⟨rfl, rfl⟩
      rw [List.take_length]
      exact ⟨rfl, rfl⟩
    · have hu := hw.u
      refine sp_ret (d := .bl true) (ev_andV (a := true) (b := true) (ev_op (ev_op (ev_var rfl) (ev_var rfl) o_sub) ev_int (o_leT (by omega))) fun _ => ?_) ⟨rfl, List.take_length⟩
      exact ev_call (ea_cons (ev_var rfl) (ea_cons (ev_var rfl) (ea_cons (ev_var rfl) ea_nil))) ⟨last, _, _, _, rfl, hw.la, Int.le_refl _, Int.le_refl _, by omega, rfl, rfl⟩
theorem ok_Networku_initu (T : Txt K mg) : FnOk P w K mg base CX0 5 T.a_Networku_initu T.d_Networku_initu ["self", "inputs", "layers", "last"] (SpD K (gInit T.C)) := by
  have G_are_parts := ok_are_parts (P := P) (w := w) (base := base) T
  have b_are_parts := T.b_are_parts
  refine T.F_Networku_initu.ok sc_Networku_initu (spd_len (k := 4) fun ss S r S' hg => ?_) (fun cdv A outer s H vs Q E hr h => ⟨_, (pss_cons (ps_if (pt_not (pt_truK K (pe_call G_are_parts (hr.mono (by decide)) rfl T.m_are_parts T.k_are_parts b_are_parts .nil pass0 (pa_cons (pv 1) (pa_cons (pv 2) (pa_cons (pv 3) pa_nil)))))) (pss_one ps_never) pss_nil) (pss_cons (ps_fld (pv 0) (pv 1) rfl) (pss_cons (ps_fld (pv 0) (pv 2) rfl) (pss_cons (ps_fld (pv 0) (pv 3) rfl) (pss_cons (ps_fld (pv 0) (pe_callB (call_lenK K) (by rfl) T.n_len (by decide +kernel) (pa_cons (pv 2) pa_nil)) rfl) (pss_one (ps_fld (pv 0) (pe_callTy (call_tupK K rfl) (by rfl) T.n_tuple (by decide +kernel) (pa_cons (pe_lc2 (own := [("layer", 4), ("unit", 5)]) (vs1 := [5]) rfl sc_Networku_initu.nd (pi_seqK K (pv 2)) (blkOk_by (own := [("layer", 4), ("unit", 5)]) (N := ["self", "inputs", "layers", "last", "layer", "unit"]) (sc := (defScope s_Networku_initu)) (by decide +kernel)) (by decide) (fun _ _ _ _ _ => (pg_name (i := 4) sc_Networku_initu.nd rfl (by first | exact Or.inl rfl | exact Or.inr rfl))) (fun _ _ _ _ _ => pts_nil) (fun _ _ _ _ _ => (pi_seqK K (pv 4))) (fun _ _ _ _ _ => (pg_name (i := 5) sc_Networku_initu.nd rfl (by first | exact Or.inl rfl | exact Or.inr rfl))) (fun _ _ _ _ _ => pts_nil) (fun _ _ _ _ _ => (pv 5))) pa_nil)) rfl))))))), sp_body h fun ss S r S' hg => ?_⟩)
  · obtain ⟨i, n, l, r, rfl, _⟩ := hg; rfl
  · obtain ⟨k, n, L, last, rfl, hk, hw, rfl, rfl⟩ := hg
    have hkl : k < S.length := (List.getElem?_eq_some_iff.mp hk).1
    have hs : ∀ (S2 : List Dat) (x : Dat), S2.length = S.length → (S2.set k x)[k]? = some x := fun S2 x e => List.getElem?_set_self (by omega)
    refine sp_ifq (b := false) (et_not (a := true) (et_bl (ev_call (ea_cons (ev_var rfl) (ea_cons (ev_var rfl) (ea_cons (ev_var rfl) ea_nil))) ⟨n, L, last, rfl, hw, rfl, rfl⟩))) (fun h => by cases h) fun _ => sp_nextq ?_
    refine sp_fld (ev_var rfl) (ev_var rfl) hk T.cl T.na_inputs (by show 0 < 1000; decide) ?_
    refine sp_fld (ev_var rfl) (ev_var rfl) (hs _ _ rfl) T.cl T.na_layers (by show 1 < 1000; decide) ?_
    refine sp_fld (ev_var rfl) (ev_var rfl) (hs _ _ (by simp)) T.cl T.na_last (by show 2 < 1000; decide) ?_
    refine sp_fld (ev_cb (ea_cons (ev_var rfl) ea_nil) (cd_len .tup)) (ev_var rfl) (hs _ _ (by simp)) T.cl T.na_depth (by show 3 < 1000; decide) ?_
    refine sp_fld1 (d := .tup (L.flatten.map rowD)) (ev_cb (ea_cons (EvN.ev (en_flat (G := G0) (G1 := G0) (ds := L.map layD) (is := [4]) (is1 := [5]) (it_tup (ev_var rfl)) inn (fun _ e => e) ?_ (fun _ _ => trivial) (fun _ _ => trivial) (by decide) (by decide) (by decide) (fun d env => env.set 4 (some (.d d))) (fun d e env => env.set 5 (some (.d e))) fun i d hd => ⟨tg_name, ?_, fun j e he => ⟨tg_name, ev_var rfl⟩⟩)) ea_nil) (cd_tup ?_)) (ev_var rfl) (hs _ _ (by simp)) T.cl T.na_units (by show 4 < 1000; decide) ⟨rfl, ?_⟩
    · rw [flat_lays, List.length_map]
      exact size_1000 (by have := hw.u; omega)
    · rw [List.getElem?_map, Option.map_eq_some_iff] at hd
      obtain ⟨l, _, rfl⟩ := hd
      exact it_tup (ev_var rfl)
    · rw [flat_lays]; exact .lst
    · have e : ∀ (x : Nat), (L.map layD).length = L.length := fun _ => List.length_map ..
      simp only [List.set_set, List.length_map]
      rw [List.take_of_length_le (by simp)]
      rfl
theorem ok_Networku_equ (T : Txt K mg) : FnOk P w K mg base CX0 1 T.a_Networku_equ T.d_Networku_equ ["self", "value"] (SpD K (gEq T.C)) := by
  refine T.F_Networku_equ.ok sc_Networku_equ (spd_len (k := 2) fun ss S r S' hg => ?_) (fun cdv A outer s H vs Q E hr h => ⟨_, (pss_one (ps_ret (pe_and (pe_callB call_isi (by rfl) T.n_isinstance (by decide +kernel) (pa_cons (pv 1) (pa_cons (pe_glob (v := .ref T.C) rfl T.m_Network rfl) pa_nil))) (pe_and (pe_cmpR op_eq (pe_fld (pv 0) rfl) (pe_fld (pv 1) rfl) (nomark _)) (pe_and (pe_cmpR (op_eqD hr.units) (pe_fld (pv 0) rfl) (pe_fld (pv 1) rfl) (nomark _)) (pe_one (pe_cmpR (op_eqD hr.units) (pe_fld (pv 0) rfl) (pe_fld (pv 1) rfl) (nomark _)))))))), sp_body h fun ss S r S' hg => ?_⟩)
  · obtain ⟨i, n, l, r, a, b, rfl, _⟩ := hg; rfl
  · obtain ⟨n, n', L, L', last, last', rfl, rfl, rfl⟩ := hg
    refine sp_ret ((ev_andV (a := true) (ev_cb (ea_cons (ev_var rfl) (ea_cons ev_adr ea_nil)) (cd_isiO T.isC T.kC)) fun _ => ev_andV (ev_op (ev_fld (ev_var rfl) T.cl T.na_inputs rfl) (ev_fld (ev_var rfl) T.cl T.na_inputs rfl) op2_eq_int) fun _ => ev_andV (ev_op (ev_fld (ev_var rfl) T.cl T.na_layers rfl) (ev_fld (ev_var rfl) T.cl T.na_layers rfl) (op2_eqD (plS_d (pl_lays L)) (plS_d (pl_lays L')) (by decide) (by decide))) fun _ => (ev_op (ev_fld (ev_var rfl) T.cl T.na_last rfl) (ev_fld (ev_var rfl) T.cl T.na_last rfl) (op2_eqD (plS_d (pl_row last)) (plS_d (pl_row last')) (by decide) (by decide)))).to (r' := .d (.bl (decide ((n = n' ∧ L = L') ∧ last = last')))) ?_) ⟨rfl, List.take_length⟩
    rw [eq_lays, eq_row]
    by_cases h1 : n = n' <;> by_cases h2 : L = L' <;> by_cases h3 : last = last' <;> simp [h1, h2, h3]
    all_goals omega
end
end N21

set_option Elab.async false
set_option linter.all false
set_option maxRecDepth 100000
set_option maxHeartbeats 4000000
namespace N21
open PySem PySem.Spec PyProof.Rows L2 RW

abbrev Vt := Int × Int × Int
def vatD (v : Vt) : Dat := .lst [.int v.1, .int v.2.1, .int v.2.2]
def drawF (v : Vt) (t : Int) : Int × Vt :=
  if 0 < v.1 then (v.1 % t, (v.1 / t, v.2.1, v.2.2)) else
    ((((((v.2.1 + 9699713 * (v.2.2 + 1)) % 2305843009213693951) * ((v.2.1 + 9699713 * (v.2.2 + 1)) % 2305843009213693951) + 341 * (v.2.2 + 1)) % 2305843009213693921 * 5800079 + (v.2.1 + 9699713 * (v.2.2 + 1)) % 2305843009213693951) / 65537) % t, (v.1, v.2.1, v.2.2 + 1))
theorem draw_nn (v : Vt) {t : Int} (h : 0 < t) : 0 ≤ (drawF v t).1 := by
  unfold drawF; split <;> exact Int.emod_nonneg _ (by omega)
theorem draw_lt (v : Vt) {t : Int} (h : 0 < t) : (drawF v t).1 < t := by
  unfold drawF; split <;> exact Int.emod_lt_of_pos _ h
def foldF {α β : Type} (f : Vt → α → β × Vt) : List α → Vt → List β × Vt
  | [], v => ([], v)
  | x :: xs, v => ((f v x).1 :: (foldF f xs (f v x).2).1, (foldF f xs (f v x).2).2)
theorem foldF_len {α β : Type} (f : Vt → α → β × Vt) : ∀ (xs : List α) (v : Vt), (foldF f xs v).1.length = xs.length
  | [], _ => rfl
  | x :: xs, v => by rw [foldF, List.length_cons, List.length_cons, foldF_len f xs]
theorem foldF_get {α β : Type} (f : Vt → α → β × Vt) : ∀ (xs : List α) (v : Vt) (i : Nat) (a : α), xs[i]? = some a → (foldF f xs v).1[i]? = some (f (foldF f (xs.take i) v).2 a).1
  | [], _, _, _, h => by simp at h
  | x :: xs, v, 0, a, h => by simp at h; subst h; rfl
  | x :: xs, v, i + 1, a, h => by
    rw [foldF, List.getElem?_cons_succ, foldF_get f xs _ i a (by simpa using h), List.take_succ_cons, foldF]
theorem foldF_step {α β : Type} (f : Vt → α → β × Vt) : ∀ (xs : List α) (v : Vt) (i : Nat) (a : α), xs[i]? = some a → (foldF f (xs.take (i + 1)) v).2 = (f (foldF f (xs.take i) v).2 a).2
  | [], _, _, _, h => by simp at h
  | x :: xs, v, 0, a, h => by simp at h; subst h; simp [foldF]
  | x :: xs, v, i + 1, a, h => by
    rw [List.take_succ_cons, foldF, foldF_step f xs _ i a (by simpa using h), List.take_succ_cons, foldF]
theorem foldF_mem {α β : Type} {f : Vt → α → β × Vt} {p : β → Prop} : ∀ (xs : List α) (v : Vt), (∀ v, ∀ a ∈ xs, p (f v a).1) → ∀ b ∈ (foldF f xs v).1, p b
  | [], _, _, _, h => by simp [foldF] at h
  | x :: xs, v, hp, b, h => by
    rw [foldF, List.mem_cons] at h
    rcases h with rfl | h
    · exact hp v x List.mem_cons_self
    · exact foldF_mem xs _ (fun v a ha => hp v a (List.mem_cons_of_mem _ ha)) b h
def gDraw (ss : List Sl) (S : List Dat) (r : Dat) (S' : List Dat) : Prop := ∃ (k : Nat) (v : Vt) (t : Int), ss = [.c k, .d (.int t)] ∧ S[k]? = some (vatD v) ∧ 0 < t ∧ t < 2 ^ 40 ∧ r = .int (drawF v t).1 ∧ S' = S.set k (vatD (drawF v t).2)
def pickF (v : Vt) (ns : List Int) : Int × Vt := (ns.getD (drawF v ns.length).1.toNat 0, (drawF v ns.length).2)
theorem pick_in (v : Vt) {ns : List Int} (h : ns ≠ []) : (pickF v ns).1 ∈ ns := by
  have hp : 0 < (ns.length : Int) := by have := List.length_pos_iff.mpr h; omega
  have h1 := draw_nn v hp
  have h2 := draw_lt v hp
  have hl : (drawF v ns.length).1.toNat < ns.length := by omega
  show ns.getD _ 0 ∈ ns
  rw [List.getD_eq_getElem?_getD, List.getElem?_eq_getElem hl]
  exact List.getElem_mem _
def gPick (ss : List Sl) (S : List Dat) (r : Dat) (S' : List Dat) : Prop := ∃ (k : Nat) (v : Vt) (ns : List Int), ss = [.c k, .d (.lst (ns.map Dat.int))] ∧ S[k]? = some (vatD v) ∧ ns ≠ [] ∧ ns.length ≤ 1000 ∧ r = .int (pickF v ns).1 ∧ S' = S.set k (vatD (pickF v ns).2)
theorem set_get {S : List Dat} {k : Nat} {d e : Dat} (h : S[k]? = some d) : (S.set k e)[k]? = some e := List.getElem?_set_self (List.getElem?_eq_some_iff.mp h).1
theorem set_id {S : List Dat} {k : Nat} {d : Dat} (h : S[k]? = some d) : S.set k d = S := by
  obtain ⟨hl, e⟩ := List.getElem?_eq_some_iff.mp h
  rw [← e]; exact List.set_getElem_self hl
theorem ixN_nat {m p : Nat} (h : p < m) : ixN m (p : Int) = some p := by
  unfold ixN
  simp
  omega
theorem atI_nat {α : Type} {xs : List α} {p : Nat} (h : p < xs.length) : atI xs (p : Int) = some xs[p] := by
  unfold atI
  rw [ixN_nat h]
  exact List.getElem?_eq_getElem h
theorem atI_map {α : Type} {f : α → Dat} {xs : List α} {p : Nat} {a : α} (h : xs[p]? = some a) : atI (xs.map f) (p : Int) = some (f a) := by
  obtain ⟨hl, e⟩ := List.getElem?_eq_some_iff.mp h
  rw [atI_nat (by rw [List.length_map]; exact hl), List.getElem_map, e]
section
variable {P : Program} {w : World} {K : PySem.W.Frag} {mg : Str → Option Value} {base : Heap}

theorem ok__law_draw (T : Txt K mg) : FnOk P w K mg base CX0 1 T.a__law_draw T.d__law_draw ["vat", "total"] (SpD K (gDraw)) := by
  refine T.F__law_draw.ok sc__law_draw (spd_len (k := 2) fun ss S r S' hg => ?_) (fun cdv A outer s H vs Q E hr h => ⟨_, (pss_cons (ps_if (pt_cmpR op_gt (pe_ix (ix_seqK K) (pv 0) pe_int (fun _ _ => rfl)) pe_int (nomark _)) (pss_cons (ps_set (i := 2) sc__law_draw.nd rfl (by first | exact Or.inl rfl | exact Or.inr rfl) (pe_op op_mod (pe_callTy call_intD (by rfl) T.n_int (by decide +kernel) (pa_cons (pe_ix (ix_seqK K) (pv 0) pe_int (fun _ _ => rfl)) pa_nil)) (pv 1))) (pss_cons (ps_asg (pe_op op_fdivW (pe_ix (ix_seqK K) (pv 0) pe_int (fun _ _ => rfl)) (pv 1)) (pg_sub (pv 0) pe_int set_list)) (pss_one (ps_ret (pv 2))))) pss_nil) (pss_cons (ps_asg (pe_op op_add (pe_ix (ix_seqK K) (pv 0) pe_int (fun _ _ => rfl)) pe_int) (pg_sub (pv 0) pe_int set_list)) (pss_cons (ps_set (i := 3) sc__law_draw.nd rfl (by first | exact Or.inl rfl | exact Or.inr rfl) (pe_op op_mod (pe_callTy call_intD (by rfl) T.n_int (by decide +kernel) (pa_cons (pe_op op_add (pe_ix (ix_seqK K) (pv 0) pe_int (fun _ _ => rfl)) (pe_op op_mul pe_int (pe_ix (ix_seqK K) (pv 0) pe_int (fun _ _ => rfl)))) pa_nil)) pe_int)) (pss_cons (ps_set (i := 4) sc__law_draw.nd rfl (by first | exact Or.inl rfl | exact Or.inr rfl) (pe_op op_add (pe_op op_mul (pe_op op_mod (pe_callTy call_intD (by rfl) T.n_int (by decide +kernel) (pa_cons (pe_op op_add (pe_op op_mul (pv 3) (pv 3)) (pe_op op_mul pe_int (pe_ix (ix_seqK K) (pv 0) pe_int (fun _ _ => rfl)))) pa_nil)) pe_int) pe_int) (pv 3))) (pss_one (ps_ret (pe_op op_mod (pe_callTy call_intD (by rfl) T.n_int (by decide +kernel) (pa_cons (pe_op op_fdivW (pv 4) pe_int) pa_nil)) (pv 1)))))))), sp_body h fun ss S r S' hg => ?_⟩)
  · obtain ⟨i, n, l, rfl, _⟩ := hg; rfl
  · obtain ⟨k, v, t, rfl, hk, ht, htw, rfl, rfl⟩ := hg
    have hs : ∀ (x : Dat), (S.set k x).take S.length = S.set k x := fun x => List.take_of_length_le (by simp)
    refine sp_ifq (b := decide (0 < v.1)) (et_test (ev_op (ev_op (ev_var rfl) ev_int (op2_ix (.cell hk) rfl)) ev_int o_gt)) (fun hh => ?_) fun hh => sp_nextq ?_
    · have hp := of_decide_eq_true hh
      refine sp_assoc (sp_set (ev_op (ev_cb (ea_cons (ev_op (ev_var rfl) ev_int (op2_ix (.cell hk) rfl)) ea_nil) cd_int) (ev_var rfl) (o_mod ht)) (sp_assoc (sp_setitem (j := 0) (ev_op (ev_op (ev_var rfl) ev_int (op2_ix (.cell hk) rfl)) (ev_var rfl) (o_fdivW ⟨ht, ?_⟩)) (ev_var rfl) ev_int hk rfl (sp_retq (sp_ret (ev_var rfl) ⟨?_, ?_⟩)))))
      · have h2 : t.natAbs < 2 ^ 40 := by omega
        have : t.natAbs.log2 < 40 := (Nat.log2_lt (by omega)).mpr h2
        omega
      · unfold drawF; rw [if_pos hp]
      · rw [hs]; unfold drawF; rw [if_pos hp]; rfl
    · have hp := of_decide_eq_false hh
      have h1 : ∀ x : Int, 0 ≤ x % 2305843009213693951 ∧ x % 2305843009213693951 < 2305843009213693951 := fun x => ⟨Int.emod_nonneg _ (by decide), Int.emod_lt_of_pos _ (by decide)⟩
      refine sp_setitem (j := 2) (ev_op (ev_op (ev_var rfl) ev_int (op2_ix (.cell hk) rfl)) ev_int o_add) (ev_var rfl) ev_int hk rfl ?_
      have hk2 := set_get (e := .lst [.int v.1, .int v.2.1, .int (v.2.2 + 1)]) hk
      refine sp_set (ev_op (ev_cb (ea_cons (ev_op (ev_op (ev_var rfl) ev_int (op2_ix (.cell hk2) rfl)) (ev_op ev_int (ev_op (ev_var rfl) ev_int (op2_ix (.cell hk2) rfl)) (o_mul (cm_l (by decide) (by decide)))) o_add) ea_nil) cd_int) ev_int (o_mod (by decide))) ?_
      refine sp_set (ev_op (ev_op (ev_op (ev_cb (ea_cons (ev_op (ev_op (ev_var rfl) (ev_var rfl) (o_mul (cm_l ?_ ?_))) (ev_op ev_int (ev_op (ev_var rfl) ev_int (op2_ix (.cell hk2) rfl)) (o_mul (cm_l (by decide) (by decide)))) o_add) ea_nil) cd_int) ev_int (o_mod (by decide))) ev_int (o_mul (cm_r (by decide) (by decide)))) (ev_var rfl) o_add) ?_
      · have := h1 (v.2.1 + 9699713 * (v.2.2 + 1)); omega
      · have := h1 (v.2.1 + 9699713 * (v.2.2 + 1)); omega
      · refine sp_ret (ev_op (ev_cb (ea_cons (ev_op (ev_var rfl) ev_int (o_fdivW ⟨by decide, by decide⟩)) ea_nil) cd_int) (ev_var rfl) (o_mod ht)) ⟨?_, ?_⟩
        · unfold drawF; rw [if_neg hp]
        · refine (hs _).trans ?_
          unfold drawF; rw [if_neg hp]; rfl
theorem ok__law_pick (T : Txt K mg) : FnOk P w K mg base CX0 2 T.a__law_pick T.d__law_pick ["vat", "items"] (SpD K (gPick)) := by
  have G__law_draw := ok__law_draw (P := P) (w := w) (base := base) T
  have b__law_draw := T.b__law_draw
  refine T.F__law_pick.ok sc__law_pick (spd_len (k := 2) fun ss S r S' hg => ?_) (fun cdv A outer s H vs Q E hr h => ⟨_, (pss_one (ps_ret (pe_ix (ix_seqK K) (pv 1) (pe_call G__law_draw (hr.mono (by decide)) rfl T.m__law_draw T.k__law_draw b__law_draw .nil pass0 (pa_cons (pv 0) (pa_cons (pe_callB (call_lenK K) (by rfl) T.n_len (by decide +kernel) (pa_cons (pv 1) pa_nil)) pa_nil))) (fun _ _ => rfl)))), sp_body h fun ss S r S' hg => ?_⟩)
  · obtain ⟨i, n, l, rfl, _⟩ := hg; rfl
  · obtain ⟨k, v, ns, rfl, hk, hne, hl, rfl, rfl⟩ := hg
    have hp : 0 < (ns.length : Int) := by have := List.length_pos_iff.mpr hne; omega
    have h1 := draw_nn v hp
    have h2 := draw_lt v hp
    have hlt : (drawF v ns.length).1.toNat < ns.length := by omega
    refine sp_ret (S1 := S.set k (vatD (pickF v ns).2)) (ev_op (ev_var rfl) (ev_call (ea_cons (ev_var rfl) (ea_cons ((ev_cb (ea_cons (ev_var rfl) ea_nil) (cd_len .lst)).to (r' := .d (.int ns.length)) (by rw [List.length_map])) ea_nil)) ⟨k, v, ns.length, rfl, hk, hp, by omega, rfl, rfl⟩) (op2_ix .lst ?_)) ⟨rfl, List.take_of_length_le (by simp)⟩
    have e : (drawF v ns.length).1 = ((drawF v ns.length).1.toNat : Int) := by omega
    rw [e]
    refine atI_map ?_
    show ns[_]? = some (ns.getD _ 0)
    rw [List.getD_eq_getElem?_getD, List.getElem?_eq_getElem hlt]; rfl
end
end N21

set_option Elab.async false
set_option linter.all false
set_option maxRecDepth 100000
set_option maxHeartbeats 4000000
namespace N21
open PySem PySem.Spec PyProof.Rows L2 RW

abbrev Row := List Int
def hit (rows : List Row) (p : Nat) : Bool := rows.any fun r => decide (p < r.length) && !decide (r.getD p 0 = 0)
def keepRows (U : List Row) (t : List Bool) : List Row := ((U.zip t).filter fun p => p.2).map fun p => p.1
def matS (last : Row) : Nat → List Row → List Bool
  | _, [] => []
  | p, _ :: U => hit (last :: (keepRows U (matS last (p + 1) U)).reverse) p :: matS last (p + 1) U
theorem matS_len (last : Row) : ∀ (p : Nat) (U : List Row), (matS last p U).length = U.length
  | _, [] => rfl
  | p, _ :: U => by rw [matS, List.length_cons, List.length_cons, matS_len last (p + 1) U]
theorem keepRows_len (U : List Row) (t : List Bool) : (keepRows U t).length ≤ U.length := by
  unfold keepRows
  rw [List.length_map]
  refine Nat.le_trans (List.length_filter_le _ _) ?_
  rw [List.length_zip]; omega
theorem cc0 {S : List Dat} {a b : Dat} : (S ++ [a] ++ [b])[S.length]? = some a := by simp
theorem cc1 {S : List Dat} {a b : Dat} : (S ++ [a] ++ [b])[S.length + 1]? = some b := by simp
theorem cs0 {S : List Dat} {a b a' : Dat} : (S ++ [a] ++ [b]).set S.length a' = S ++ [a'] ++ [b] := by simp [List.set_append]
theorem cs1 {S : List Dat} {a b b' : Dat} : (S ++ [a] ++ [b]).set (S.length + 1) b' = S ++ [a] ++ [b'] := by simp [List.set_append]
theorem ct {S : List Dat} {a b : Dat} : (S ++ [a] ++ [b]).take S.length = S := by simp
theorem rep_flat {α : Type} (a : α) : ∀ n : Nat, (List.replicate n [a]).flatten = List.replicate n a
  | 0 => rfl
  | n + 1 => by rw [List.replicate_succ, List.flatten_cons, rep_flat a n, List.replicate_succ]; rfl
def gMat (C : Addr) (ss : List Sl) (S : List Dat) (r : Dat) (S' : List Dat) : Prop := ∃ (n : Nat) (L : Lays) (last : List Int), ss = [.d (netD C n L last)] ∧ Wf n L last ∧ r = .lst ((matS last n L.flatten).map Dat.bl) ∧ S' = S
theorem drop_eq {U : List Row} {q : Nat} (h : q < U.length) : U.drop q = U[q] :: U.drop (q + 1) := List.drop_eq_getElem_cons h
section
variable {P : Program} {w : World} {K : PySem.W.Frag} {mg : Str → Option Value} {base : Heap}

theorem ok_mattering (T : Txt K mg) : FnOk P w K mg base CX0 1 T.a_mattering T.d_mattering ["network"] (SpD K (gMat T.C)) := by
  refine T.F_mattering.ok sc_mattering (spd_len (k := 1) fun ss S r S' hg => ?_) (fun cdv A outer s H vs Q E hr h => ⟨_, (pss_cons (ps_set (i := 1) sc_mattering.nd rfl (by first | exact Or.inl rfl | exact Or.inr rfl) (pe_callB (call_lenK K) (by rfl) T.n_len (by decide +kernel) (pa_cons (pe_fld (pv 0) rfl) pa_nil))) (pss_cons (ps_set (i := 2) sc_mattering.nd rfl (by first | exact Or.inl rfl | exact Or.inr rfl) (pe_op op_rep (pe_lst (pa_cons pe_bl pa_nil)) (pv 1))) (pss_cons (ps_set (i := 3) sc_mattering.nd rfl (by first | exact Or.inl rfl | exact Or.inr rfl) (pe_lst (pa_cons (pe_fld (pv 0) rfl) pa_nil))) (pss_cons (ps_for PassesOwn.never rfl (pi_revR rfl T.n_reversed (prg_1 rfl T.n_range (pv 1))) (pg_name (i := 4) sc_mattering.nd rfl (by first | exact Or.inl rfl | exact Or.inr rfl)) (pss_cons (ps_set (i := 5) sc_mattering.nd rfl (by first | exact Or.inl rfl | exact Or.inr rfl) (pe_op op_add (pe_fld (pv 0) rfl) (pv 4))) (pss_cons (ps_asg (pe_callB (cr_any rfl) (by rfl) T.n_any (by decide +kernel) (pa_cons (pe_lc (own := [("row", 6)]) rfl sc_mattering.nd (pi_seqK K (pv 3)) (blkOk_by (own := [("row", 6)]) (N := ["network", "many", "found", "behind", "at", "place", "row"]) (sc := (defScope s_mattering)) (by decide +kernel)) (fun _ _ _ _ _ => (pg_name (i := 6) sc_mattering.nd rfl (by first | exact Or.inl rfl | exact Or.inr rfl))) (fun _ _ _ _ _ => pts_nil) (fun _ _ _ _ _ => (pe_and (pe_cmpR op_gt (pe_callB (call_lenK K) (by rfl) T.n_len (by decide +kernel) (pa_cons (pv 6) pa_nil)) (pv 5) (nomark _)) (pe_one (pe_cmpR op_ne (pe_ix (ix_seqK K) (pv 6) (pv 5) (fun _ _ => rfl)) pe_int (nomark _)))))) pa_nil)) (pg_sub (pv 2) (pv 4) set_list)) (pss_one (ps_if (pt_truK K (pe_ix (ix_seqK K) (pv 2) (pv 4) (fun _ _ => rfl))) (pss_one (ps_expr (pe_bm PySem.F.plainAttrs_list PySem.F.slot_list_append PySem.F.type_list_append mt_append (pv 3) (pa_cons (pe_ix (ix_seqK K) (pe_fld (pv 0) rfl) (pv 4) (fun _ _ => rfl)) pa_nil)))) pss_nil))))) (pss_one (ps_ret (pv 2))))))), sp_body h fun ss S r S' hg => ?_⟩)
  · obtain ⟨i, n, l, rfl, _⟩ := hg; rfl
  · obtain ⟨n, L, last, rfl, hw, rfl, rfl⟩ := hg
    have hu := hw.u
    generalize hU : L.flatten = U at hu
    have hwU : netD T.C n L last = .ins T.C [("inputs", .int n), ("layers", laysD L), ("last", rowD last), ("depth", .int L.length), ("units", .tup (U.map rowD))] := by rw [← hU]; rfl
    refine sp_set ((ev_cb (ea_cons (ev_fld (ev_var rfl) T.cl T.na_units rfl) ea_nil) (cd_len .tup)).to (r' := .d (.int U.length)) (by rw [hU, List.length_map])) ?_
    refine sp_setC (S1 := S') (ds := (List.replicate U.length false).map Dat.bl) ?_ ?_
    · have := en_rep (k := (U.length : Int)) (K := K) (env := [some (.d (netD T.C n L last)), some (.d (.int U.length)), none, none, none, none, none]) (S := S') (ds := [Dat.bl false]) (en_lst (ea_cons ev_bl ea_nil : EvA K _ _ S' ([Dat.bl false].map Sl.d) S') (by decide)).ev (ev_var (i := 1) rfl) .lst ⟨by omega, by omega⟩ (by simp; exact size_1000 (by omega))
      rw [Int.toNat_natCast, rep_flat] at this
      rw [List.map_replicate]
      exact this
    refine sp_setC (S1 := S' ++ [Dat.lst ((List.replicate U.length false).map Dat.bl)]) (ds := [last].map rowD) (en_lst (ea_cons (ev_fld (ev_var rfl) T.cl T.na_last rfl) ea_nil) (by show 1 ≤ sizeLine; decide)) ?_
    rw [show (S' ++ [Dat.lst ((List.replicate U.length false).map Dat.bl)]).length = S'.length + 1 by simp]
    refine sp_seq (P' := { nx := fun env' S2 => ∃ o1 o2 bs, S2 = S' ++ [.lst ((matS last n U).map Dat.bl)] ++ [bs] ∧ env' = [some (.d (netD T.C n L last)), some (.d (.int U.length)), some (.c S'.length), some (.c (S'.length + 1)), o1, o2, none] })
      (sp_for (it_rev1 (ev_var rfl) ⟨by omega, by omega⟩) (fun i env' S2 => ∃ o1 o2, S2 = S' ++ [.lst ((List.replicate (U.length - i) false ++ matS last (n + (U.length - i)) (U.drop (U.length - i))).map Dat.bl)] ++ [.lst ((last :: (keepRows (U.drop (U.length - i)) (matS last (n + (U.length - i)) (U.drop (U.length - i)))).reverse).map rowD)] ∧
        env' = [some (.d (netD T.C n L last)), some (.d (.int U.length)), some (.c S'.length), some (.c (S'.length + 1)), o1, o2, none]) ⟨none, none, ?_, rfl⟩ (fun _ _ _ _ _ _ _ _ _ => trivial) ?_ ?_) ?_
    · rw [Nat.sub_zero, List.drop_length]
      simp [matS, keepRows]
    · rintro i d env' S2 hd ⟨o1, o2, rfl, rfl⟩
      have hi : i < U.length := by
        have := (List.getElem?_eq_some_iff.mp hd).1
        rw [rngR_len, Int.toNat_natCast] at this
        exact this
      rw [Int.toNat_natCast, rngR_get hi] at hd
      obtain ⟨q, hq⟩ : ∃ q, U.length - i = q + 1 := ⟨U.length - i - 1, by omega⟩
      have hqi : U.length - (i + 1) = q := by omega
      have hqU : q < U.length := by omega
      have ed : d = .int (q : Int) := by
        cases hd
        congr 1
        omega
      subst ed
      rw [hq, hqi]
      obtain ⟨t, ht⟩ : ∃ t, matS last (n + (q + 1)) (U.drop (q + 1)) = t := ⟨_, rfl⟩
      have htl : t.length = U.length - (q + 1) := by rw [← ht, matS_len, List.length_drop]
      have hb : ((last :: (keepRows (U.drop (q + 1)) t).reverse)).length ≤ 1000 := by
        have := keepRows_len (U.drop (q + 1)) t
        rw [List.length_drop] at this
        rw [List.length_cons, List.length_reverse]; omega
      rw [ht]
      generalize hbe : last :: (keepRows (U.drop (q + 1)) t).reverse = behind at hb
      have em : matS last (n + q) (U.drop q) = hit behind (n + q) :: t := by
        rw [drop_eq hqU, matS, show n + q + 1 = n + (q + 1) by omega, ht, hbe]
      have ek : last :: (keepRows (U.drop q) (hit behind (n + q) :: t)).reverse = behind ++ (if hit behind (n + q) = true then [U[q]] else []) := by
        rw [← hbe, drop_eq hqU]
        unfold keepRows
        rw [List.zip_cons_cons, List.filter_cons]
        by_cases z : hit (last :: (List.map (fun p => p.fst) (List.filter (fun p => p.snd) ((U.drop (q + 1)).zip t))).reverse) (n + q) = true
        · rw [if_pos z, if_pos z]; simp
        · rw [if_neg z, if_neg z]; simp
      refine ⟨[4], fun env => env.set 4 (some (.d (.int q))), tg_name, ?_⟩
      refine sp_set (ev_op (ev_fld (ev_var rfl) T.cl T.na_inputs rfl) (ev_var rfl) o_add) ?_
      rw [show ((n : Int) + (q : Int)) = ((n + q : Nat) : Int) by omega]
      refine sp_setitem (d := .bl (hit behind (n + q))) (iv := (q : Int)) (j := q) ((ev_cb (ea_cons (EvN.ev (en_mapA (xs := behind) (g := rowD) (is := [6]) (fun r => Dat.bl (decide (n + q < r.length) && !decide (r.getD (n + q) 0 = 0))) (it_cell (ev_var rfl) cc1) (size_1000 hb) (fun as _ => ⟨rfl, cc1⟩) (by decide) (fun r env => env.set 6 (some (.d (rowD r)))) fun r hr => ⟨tg_name, ?_⟩)) ea_nil) (cd_any (bs := behind.map fun r => decide (n + q < r.length) && !decide (r.getD (n + q) 0 = 0)) ?_)).to ?_) (ev_var rfl) (ev_var rfl) cc0 ?_ ?_
      · refine (ev_andV (b := !decide (r.getD (n + q) 0 = 0)) ((ev_op (ev_cb (ea_cons (ev_var rfl) ea_nil) (cd_len .tup)) (ev_var rfl) o_gt).to (r' := .d (.bl (decide (n + q < r.length)))) ?_) fun hlt => ?_)
        · rw [List.length_map]
          congr 2
          apply decide_eq_decide.mpr
          omega
        · have hlt' : n + q < r.length := of_decide_eq_true hlt
          exact ev_op (ev_op (ev_var rfl) (ev_var rfl) (op2_ix .tup (atI_map (a := r.getD (n + q) 0) (by rw [List.getElem?_eq_getElem hlt', List.getD_eq_getElem?_getD, List.getElem?_eq_getElem hlt']; rfl)))) ev_int op2_ne_int
      · rw [List.map_map]; exact .lst
      · congr 2
        unfold hit
        rw [List.any_map]; rfl
      · apply ixN_nat
        rw [List.length_map, List.length_append, List.length_replicate]; omega
      · have es : ((List.replicate (q + 1) false ++ t).map Dat.bl).set q (Dat.bl (hit behind (n + q))) = (List.replicate q false ++ hit behind (n + q) :: t).map Dat.bl := by
          rw [List.replicate_succ', List.append_assoc, List.map_append, List.map_append, List.set_append]
          simp
        rw [cs0, es]
        refine sp_if (b := hit behind (n + q)) (et_bl (ev_op (ev_var rfl) (ev_var rfl) (op2_ix (.cell cc0) (atI_map ?_)))) (fun hh => ?_) fun hh => ?_
        · rw [List.getElem?_append_right (by simp)]; simp
        · refine sp_drop1 (ev_append (ev_var rfl) (ev_op (ev_fld (ev_var rfl) T.cl T.na_units rfl) (ev_var rfl) (op2_ix .tup (atI_map (a := U[q]) (by rw [hU]; exact List.getElem?_eq_getElem hqU)))) ⟨_, cc1⟩ cc1 (by rw [List.length_map]; exact Nat.lt_of_le_of_lt hb (by decide))) ⟨_, _, ?_, rfl⟩
          rw [cs1, em, ek, if_pos hh]; simp only [List.map_append]; rfl
        · refine sp_next ⟨_, _, ?_, rfl⟩
          rw [em, ek, if_neg (by simp [hh]), List.append_nil]
    · rintro env' S2 ⟨o1, o2, rfl, rfl⟩
      rw [rngR_len, Int.toNat_natCast]
      simp only [Nat.sub_self, List.drop_zero, Nat.add_zero]
      exact ⟨o1, o2, _, rfl, rfl⟩
    · rintro env' S2 ⟨o1, o2, bs, rfl, rfl⟩
      exact sp_retC rfl cc0 (Nat.le_refl _) ⟨rfl, ct⟩
end
end N21

set_option Elab.async false
set_option linter.all false
set_option maxRecDepth 100000
set_option maxHeartbeats 4000000
namespace N21
open PySem PySem.Spec PyProof.Rows L2 RW

/-! trimmed, by the program -/
def pick (M : List Bool) (off : Nat) (l : List Row) : List Row := (l.zipIdx.filter fun p => M.getD (off + p.2) false).map fun p => p.1
def trimL (kp M : List Bool) : Nat → Lays → Lays
  | _, [] => []
  | off, l :: L => (if (pick M off l).isEmpty then [] else [(pick M off l).map fun u => lefts u kp]) ++ trimL kp M (off + l.length) L
theorem trimL_append (kp M : List Bool) : ∀ (off : Nat) (A B : Lays), trimL kp M off (A ++ B) = trimL kp M off A ++ trimL kp M (off + A.flatten.length) B
  | off, [], B => by simp [trimL]
  | off, l :: A, B => by
    rw [List.cons_append, trimL, trimL_append kp M _ A B, trimL, List.append_assoc, List.flatten_cons, List.length_append, Nat.add_assoc]
theorem trimL_take (kp M : List Bool) {L : Lays} {i : Nat} {l : List Row} (h : L[i]? = some l) : trimL kp M 0 (L.take (i + 1)) = trimL kp M 0 (L.take i) ++ (if (pick M (L.take i).flatten.length l).isEmpty then [] else [(pick M (L.take i).flatten.length l).map fun u => lefts u kp]) := by
  have hl := (List.getElem?_eq_some_iff.mp h).1
  have e : L[i] = l := (List.getElem?_eq_some_iff.mp h).2
  rw [List.take_succ_eq_append_getElem hl, e, trimL_append]
  simp [trimL]
theorem trimL_len (kp M : List Bool) : ∀ (off : Nat) (L : Lays), (trimL kp M off L).length ≤ L.length
  | _, [] => Nat.le_refl _
  | off, l :: L => by
    have := trimL_len kp M (off + l.length) L
    rw [trimL, List.length_append, List.length_cons]
    split
    · simp; omega
    · simp; omega
theorem pick_len (M : List Bool) (off : Nat) (l : List Row) : (pick M off l).length ≤ l.length := by
  unfold pick
  rw [List.length_map]
  refine Nat.le_trans (List.length_filter_le _ _) ?_
  simp
theorem pick_mem {M : List Bool} {off : Nat} {l : List Row} {u : Row} (h : u ∈ pick M off l) : u ∈ l := by
  unfold pick at h
  obtain ⟨p, hp, rfl⟩ := List.mem_map.mp h
  have := List.mem_zipIdx (List.mem_filter.mp hp).1
  simp at this
  rw [this.2]
  exact List.getElem_mem _
def mats (n : Nat) (L : Lays) (last : Row) : List Bool := matS last n L.flatten
def kept (n : Nat) (L : Lays) (last : Row) : List Bool := List.replicate n true ++ mats n L last
def trL (n : Nat) (L : Lays) (last : Row) : Lays := trimL (kept n L last) (mats n L last) 0 L
def trR (n : Nat) (L : Lays) (last : Row) : Row := lefts last (kept n L last)
theorem lefts_len (u : Row) (kp : List Bool) : (lefts u kp).length ≤ u.length := by
  unfold lefts
  rw [List.length_map]
  refine Nat.le_trans (List.length_filter_le _ _) ?_
  rw [List.length_zip]; omega
theorem lefts_mem {u : Row} {kp : List Bool} {x : Int} (h : x ∈ lefts u kp) : x ∈ u := by
  unfold lefts at h
  obtain ⟨p, hp, rfl⟩ := List.mem_map.mp h
  exact (List.of_mem_zip (List.mem_filter.mp hp).1).1
def gTrim (C : Addr) (ss : List Sl) (S : List Dat) (r : Dat) (S' : List Dat) : Prop := ∃ (n : Nat) (L : Lays) (last : List Int), ss = [.d (netD C n L last)] ∧ Wf n L last ∧ Wf n (trL n L last) (trR n L last) ∧ r = netD C n (trL n L last) (trR n L last) ∧ S' = S
theorem ca0 {S : List Dat} {a : Dat} : (S ++ [a])[S.length]? = some a := by simp
theorem cas {S : List Dat} {a a' : Dat} : (S ++ [a]).set S.length a' = S ++ [a'] := by simp [List.set_append]
theorem cat1 {S : List Dat} {a : Dat} : (S ++ [a]).take S.length = S := by simp
theorem cat2 {S : List Dat} {a b : Dat} : (S ++ [a] ++ [b]).set (S ++ [a]).length b = S ++ [a] ++ [b] := by simp [List.set_append]
section
variable {P : Program} {w : World} {K : PySem.W.Frag} {mg : Str → Option Value} {base : Heap}

theorem ok_trimmed (T : Txt K mg) : FnOk P w K mg base CX0 7 T.a_trimmed T.d_trimmed ["network"] (SpD K (gTrim T.C)) := by
  have G_need_network := ok_need_network (P := P) (w := w) (base := base) T
  have b_need_network := T.b_need_network
  have G_mattering := ok_mattering (P := P) (w := w) (base := base) T
  have b_mattering := T.b_mattering
  have G_left_of := ok_left_of (P := P) (w := w) (base := base) T
  have b_left_of := T.b_left_of
  have G_Networku_initu := ok_Networku_initu (P := P) (w := w) (base := base) T
  have b_Networku_initu := T.b_Networku_initu
  have M_Network := T.M_Network
  refine T.F_trimmed.ok sc_trimmed (spd_len (k := 1) fun ss S r S' hg => ?_) (fun cdv A outer s H vs Q E hr h => ⟨_, (pss_cons (ps_expr (pe_call G_need_network (hr.mono (by decide)) rfl T.m_need_network T.k_need_network b_need_network .nil pass0 (pa_cons (pv 0) pa_nil))) (pss_cons (ps_set (i := 1) sc_trimmed.nd rfl (by first | exact Or.inl rfl | exact Or.inr rfl) (pe_call G_mattering (hr.mono (by decide)) rfl T.m_mattering T.k_mattering b_mattering .nil pass0 (pa_cons (pv 0) pa_nil))) (pss_cons (ps_set (i := 2) sc_trimmed.nd rfl (by first | exact Or.inl rfl | exact Or.inr rfl) (pe_op op_cat (pe_op op_rep (pe_lst (pa_cons pe_bl pa_nil)) (pe_fld (pv 0) rfl)) (pv 1))) (pss_cons (ps_asg (pe_tup (pa_cons (pe_lst pa_nil) (pa_cons pe_int pa_nil))) (pg_tup rfl (pgs_cons (pg_name (i := 3) sc_trimmed.nd rfl (by first | exact Or.inl rfl | exact Or.inr rfl)) (pgs_cons (pg_name (i := 4) sc_trimmed.nd rfl (by first | exact Or.inl rfl | exact Or.inr rfl)) pgs_nil)))) (pss_cons (ps_for PassesOwn.never rfl (pi_seqK K (pe_fld (pv 0) rfl)) (pg_name (i := 5) sc_trimmed.nd rfl (by first | exact Or.inl rfl | exact Or.inr rfl)) (pss_cons (ps_setLc (own := [("k", 7), ("unit", 8)]) (g := gTup K 2 (gCons (gName 7) (gCons (gName 8) gNil))) (i := 6) rfl sc_trimmed.nd rfl rfl (sw_true rfl rfl rfl (by decide +kernel)) (pi_enumG (by rfl) T.n_enumerate (pa_cons (pv 5) pa_nil)) (blkOk_by (own := [("k", 7), ("unit", 8)]) (N := ["network", "found", "kept", "layers", "at", "layer", "units", "k", "unit"]) (sc := (defScope s_trimmed)) (by decide +kernel)) (fun _ _ _ _ _ => (pg_tup rfl (pgs_cons (pg_name (i := 7) sc_trimmed.nd rfl (by first | exact Or.inl rfl | exact Or.inr rfl)) (pgs_cons (pg_name (i := 8) sc_trimmed.nd rfl (by first | exact Or.inl rfl | exact Or.inr rfl)) pgs_nil)))) (fun _ _ _ _ _ => (pts_one (pt_truK K (pe_ix (ix_seqK K) (pv 1) (pe_op op_add (pv 4) (pv 7)) (fun _ _ => rfl))))) (fun _ _ _ _ _ => (pv 8))) (pss_cons (ps_aug (i := 4) sc_trimmed.nd rfl (by first | exact Or.inl rfl | exact Or.inr rfl) (pe_callB (call_lenK K) (by rfl) T.n_len (by decide +kernel) (pa_cons (pv 5) pa_nil)) ip_add) (pss_one (ps_if (pt_truK K (pv 6)) (pss_one (ps_expr (pe_bm PySem.F.plainAttrs_list PySem.F.slot_list_append PySem.F.type_list_append mt_append (pv 3) (pa_cons (pe_callTy (call_tupK K rfl) (by rfl) T.n_tuple (by decide +kernel) (pa_cons (pe_lc (own := [("unit", 8)]) rfl sc_trimmed.nd (pi_seqK K (pv 6)) (blkOk_by (own := [("unit", 8)]) (N := ["network", "found", "kept", "layers", "at", "layer", "units", "k", "unit"]) (sc := (defScope s_trimmed)) (by decide +kernel)) (fun _ _ _ _ _ => (pg_name (i := 8) sc_trimmed.nd rfl (by first | exact Or.inl rfl | exact Or.inr rfl))) (fun _ _ _ _ _ => pts_nil) (fun _ _ _ _ _ => (pe_call G_left_of (hr.mono (by decide)) rfl T.m_left_of T.k_left_of b_left_of .nil pass0 (pa_cons (pv 8) (pa_cons (pv 2) pa_nil))))) pa_nil)) pa_nil)))) pss_nil))))) (pss_one (ps_ret (pe_make M_Network G_Networku_initu (hr.mono (by decide)) rfl T.m_Network b_Networku_initu .nil pass0 (pa_cons (pe_fld (pv 0) rfl) (pa_cons (pe_callTy (call_tupK K rfl) (by rfl) T.n_tuple (by decide +kernel) (pa_cons (pv 3) pa_nil)) (pa_cons (pe_call G_left_of (hr.mono (by decide)) rfl T.m_left_of T.k_left_of b_left_of .nil pass0 (pa_cons (pe_fld (pv 0) rfl) (pa_cons (pv 2) pa_nil))) pa_nil))))))))))), sp_body h fun ss S r S' hg => ?_⟩)
  · obtain ⟨i, n, l, rfl, _⟩ := hg; rfl
  · obtain ⟨n, L, last, rfl, hw, hw', rfl, rfl⟩ := hg
    have hu := hw.u
    have hn8 := hw.n8
    refine sp_drop (ev_call (ea_cons (ev_var rfl) ea_nil) ⟨n, L, last, rfl, rfl, rfl⟩) ?_
    refine sp_set (x := .d (.lst ((mats n L last).map Dat.bl))) (ev_call (ea_cons (ev_var rfl) ea_nil) ⟨n, L, last, rfl, hw, rfl, rfl⟩) ?_
    have hM : (mats n L last).length = L.flatten.length := matS_len ..
    refine sp_set (S1 := S') (x := .d (.lst ((kept n L last).map Dat.bl))) ?_ ?_
    · have := en_rep (k := (n : Int)) (K := K) (env := [some (.d (netD T.C n L last)), some (.d (.lst ((mats n L last).map Dat.bl))), none, none, none, none, none, none, none]) (S := S') (ds := [Dat.bl true]) (en_lst (ea_cons ev_bl ea_nil : EvA K _ _ S' ([Dat.bl true].map Sl.d) S') (by decide)).ev (ev_fld (ev_var (i := 0) rfl) T.cl T.na_inputs rfl) .lst ⟨by omega, by omega⟩ (by simp; exact size_1000 (by omega))
      rw [Int.toNat_natCast, rep_flat] at this
      refine (EvN.ev (en_cat this.ev (ev_var rfl) .lst .lst ?_)).to ?_
      · rw [List.length_replicate, List.length_map, hM]; exact size_1000 (by omega)
      · unfold kept; rw [List.map_append, List.map_replicate]
    refine sp_pairC (ds := []) (en_lst ea_nil (Nat.zero_le _)) ev_int ?_
    refine sp_seq (P' := { nx := fun env' S2 => ∃ o1 o2 o3, S2 = S' ++ [.lst ((trL n L last).map layD)] ∧ env' = [some (.d (netD T.C n L last)), some (.d (.lst ((mats n L last).map Dat.bl))), some (.d (.lst ((kept n L last).map Dat.bl))), some (.c S'.length), o1, o2, o3, none, none] })
      (sp_forA (xs := L) (g := layD) (it_tup (ev_fld (ev_var rfl) T.cl T.na_layers rfl)) (fun i env' S2 => ∃ o2 o3, S2 = S' ++ [.lst ((trimL (kept n L last) (mats n L last) 0 (L.take i)).map layD)] ∧ env' = [some (.d (netD T.C n L last)), some (.d (.lst ((mats n L last).map Dat.bl))), some (.d (.lst ((kept n L last).map Dat.bl))), some (.c S'.length), some (.d (.int ((L.take i).flatten.length : Nat))), o2, o3, none, none]) ⟨none, none, rfl, rfl⟩ (fun _ _ _ _ _ _ _ _ _ => trivial) ?_ ?_) ?_
    · rintro i l env' S2 hl ⟨o2, o3, rfl, rfl⟩
      obtain ⟨h1, h2, h3⟩ := hw.wl.get hl
      have hall := hw.all i
      have hfl := flat_len_take hl
      have hfl2 : (L.take (i + 1)).flatten.length ≤ L.flatten.length := by
        conv => rhs; rw [← List.take_append_drop (i + 1) L, List.flatten_append, List.length_append]
        omega
      refine ⟨[5], fun env => env.set 5 (some (.d (layD l))), tg_name, ?_⟩
      refine sp_set (S1 := S' ++ [.lst ((trimL (kept n L last) (mats n L last) 0 (L.take i)).map layD)]) (x := .d (.lst ((pick (mats n L last) (L.take i).flatten.length l).map rowD))) ?_ ?_
      · unfold pick
        rw [List.map_map]
        refine EvN.ev (en_filterA (xs := l.zipIdx) (g := fun p => Dat.tup [.int (p.2 : Nat), rowD p.1]) (is := [7, 8]) (fun p => (mats n L last).getD ((L.take i).flatten.length + p.2) false) (fun p => rowD p.1) (it_enumA (ea_cons (ev_var rfl) ea_nil) .tup) (size_1000 (by simp; omega)) (fun _ _ => trivial) (by decide) (fun p env => (env.set 7 (some (.d (.int (p.2 : Nat))))).set 8 (some (.d (rowD p.1)))) fun a ha => ⟨tg_pair, et_bl (ev_op (ev_var rfl) (ev_op (ev_var rfl) (ev_var rfl) o_add) (op2_ix .lst ?_)), fun _ => ev_var rfl⟩)
        have hp : a.2 < l.length := by
          have := List.mem_zipIdx (x := a.1) (i := a.2) ha
          simp at this; exact this.1
        rw [show (((L.take i).flatten.length : Nat) : Int) + (a.2 : Int) = (((L.take i).flatten.length + a.2 : Nat) : Int) by omega]
        have hlt : (L.take i).flatten.length + a.2 < (mats n L last).length := by rw [hM]; omega
        refine atI_map ?_
        rw [List.getD_eq_getElem?_getD, List.getElem?_eq_getElem hlt]; rfl
      refine sp_aug rfl (ev_cb (ea_cons (ev_var rfl) ea_nil) (cd_len .tup)) ?_
      rw [List.length_map]
      rw [show (((L.take i).flatten.length : Nat) : Int) + (l.length : Nat) = (((L.take (i + 1)).flatten.length : Nat) : Int) by rw [hfl]; omega]
      refine sp_if (et_seq (ev_var rfl) .lst) (fun hh => ?_) fun hh => ?_
      · refine sp_drop1 (ev_append (d := layD ((pick (mats n L last) (L.take i).flatten.length l).map fun u => lefts u (kept n L last))) (ev_var rfl) (ev_cb (ea_cons (EvN.ev (en_mapA (xs := pick (mats n L last) (L.take i).flatten.length l) (g := rowD) (is := [8]) (fun u => rowD (lefts u (kept n L last))) (it_lst (ev_var rfl)) ?_ (fun _ _ => trivial) (by decide) (fun u env => env.set 8 (some (.d (rowD u)))) fun u hu => ⟨tg_name, ev_call (ea_cons (ev_var rfl) (ea_cons (ev_var rfl) ea_nil)) ⟨u, kept n L last, rfl, ?_, rfl, rfl⟩⟩)) ea_nil) (cd_tup ?_)) ⟨_, ca0⟩ ca0 ?_) ⟨_, _, ?_, rfl⟩
        · have := pick_len (mats n L last) (L.take i).flatten.length l
          exact size_1000 (by omega)
        · have := (h3 u (pick_mem hu)).1
          omega
        · rw [List.map_map]; exact .lst
        · rw [List.length_map]
          have a1 := trimL_len (kept n L last) (mats n L last) 0 (L.take i)
          rw [List.length_take] at a1
          have := hw.l4
          exact Nat.lt_of_le_of_lt (by omega : _ ≤ 4) (by decide)
        · rw [cas, trimL_take _ _ hl, if_neg ?_, List.map_append]
          · rfl
          · simpa using hh
      · refine sp_next ⟨_, _, ?_, rfl⟩
        rw [trimL_take _ _ hl, if_pos ?_, List.append_nil]
        simpa using hh
    · rintro env' S2 ⟨o2, o3, rfl, rfl⟩
      rw [List.take_length]
      exact ⟨_, o2, o3, rfl, rfl⟩
    · rintro env' S2 ⟨o1, o2, o3, rfl, rfl⟩
      have hla := hw.la.1
      refine sp_ret (ev_make (S2 := S' ++ [.lst ((trL n L last).map layD)]) (ea_cons (ev_fld (ev_var rfl) T.cl T.na_inputs rfl) (ea_cons (ev_cb (ea_cons (ev_var rfl) ea_nil) (cd_tup (.cell ca0))) (ea_cons (ev_call (ea_cons (ev_fld (ev_var rfl) T.cl T.na_last rfl) (ea_cons (ev_var rfl) ea_nil)) ⟨last, kept n L last, rfl, by omega, rfl, rfl⟩) ea_nil))) ⟨(S' ++ [Dat.lst ((trL n L last).map layD)]).length, n, trL n L last, trR n L last, rfl, ?_, hw', rfl, ?_⟩ rfl) ⟨rfl, cat1⟩
      · exact ca0
      · exact cas.symm
end
end N21

set_option Elab.async false
set_option linter.all false
set_option maxRecDepth 100000
set_option maxHeartbeats 4000000
namespace N21
open PySem PySem.Spec PyProof.Rows L2 RW

def elemF (size : Int) (v : Vt) : Int × Vt := pickF (drawF v (2 * size + 1)).2 [0, 1, -1, 1, (drawF v (2 * size + 1)).1 - size]
def rowF (v : Vt) (m : Nat) (size : Int) : List Int × Vt := foldF (fun v _ => elemF size v) (List.range m) v
theorem rowF_len (v : Vt) (m : Nat) (size : Int) : (rowF v m size).1.length = m := by unfold rowF; rw [foldF_len, List.length_range]
theorem elemF_b (v : Vt) {size : Int} (h : 1 ≤ size) : -size ≤ (elemF size v).1 ∧ (elemF size v).1 ≤ size := by
  have h1 := draw_nn v (t := 2 * size + 1) (by omega)
  have h2 := draw_lt v (t := 2 * size + 1) (by omega)
  have := pick_in (drawF v (2 * size + 1)).2 (ns := [0, 1, -1, 1, (drawF v (2 * size + 1)).1 - size]) (by simp)
  unfold elemF
  simp only [List.mem_cons, List.mem_nil_iff, or_false] at this
  omega
theorem rowF_b (v : Vt) (m : Nat) {size : Int} (h : 1 ≤ size) : ∀ x ∈ (rowF v m size).1, -size ≤ x ∧ x ≤ size :=
  foldF_mem (p := fun x => -size ≤ x ∧ x ≤ size) _ _ fun v a _ => elemF_b v h
def gRow (ss : List Sl) (S : List Dat) (r : Dat) (S' : List Dat) : Prop := ∃ (k : Nat) (v : Vt) (m : Nat) (size : Int), ss = [.c k, .d (.int m), .d (.int size)] ∧ S[k]? = some (vatD v) ∧ m ≤ 1000 ∧ 1 ≤ size ∧ size ≤ 2 ^ 38 ∧ r = rowD (rowF v m size).1 ∧ S' = S.set k (vatD (rowF v m size).2)
def thinE (v : Vt) (w : Int) : Int × Vt := (if (drawF v 3).1 = 0 then w else 0, (drawF v 3).2)
def thinF (v : Vt) (row : List Int) (n : Nat) : List Int × Vt := (row.take n ++ (foldF thinE (row.drop n) v).1, (foldF thinE (row.drop n) v).2)
theorem thinF_len (v : Vt) (row : List Int) (n : Nat) : (thinF v row n).1.length = row.length := by
  unfold thinF
  rw [List.length_append, foldF_len, ← List.length_append, List.take_append_drop]
theorem thinF_b (v : Vt) (row : List Int) (n : Nat) {b : Int} (hb : 0 ≤ b) (h : ∀ x ∈ row, -b ≤ x ∧ x ≤ b) : ∀ x ∈ (thinF v row n).1, -b ≤ x ∧ x ≤ b := fun x hx => by
  rcases List.mem_append.mp hx with hx | hx
  · exact h x (List.mem_of_mem_take hx)
  · refine foldF_mem (p := fun x => -b ≤ x ∧ x ≤ b) _ _ (fun v a ha => ?_) x hx
    have := h a (List.mem_of_mem_drop ha)
    unfold thinE
    show -b ≤ (if _ then a else 0) ∧ (if _ then a else 0) ≤ b
    split <;> omega
def gThin (ss : List Sl) (S : List Dat) (r : Dat) (S' : List Dat) : Prop := ∃ (k : Nat) (v : Vt) (row : List Int) (n : Nat), ss = [.c k, .d (rowD row), .d (.int n)] ∧ S[k]? = some (vatD v) ∧ row.length ≤ 1000 ∧ r = rowD (thinF v row n).1 ∧ S' = S.set k (vatD (thinF v row n).2)
theorem cut_take {α : Type} (f : α → Dat) (xs : List α) (n : Nat) : RW.cutD (xs.map f) none (some (n : Int)) = (xs.take n).map f := by
  unfold RW.cutD
  rw [HT.sIx_none, HT.sIx_nat, List.drop_zero, Nat.sub_zero, List.length_map, List.map_take]
  apply List.ext_getElem?
  intro i
  rw [List.getElem?_take, List.getElem?_take]
  by_cases h : i < n
  · by_cases h2 : i < xs.length
    · rw [if_pos (by omega), if_pos h]
    · rw [if_neg (by omega), if_pos h, List.getElem?_eq_none (by rw [List.length_map]; omega)]
  · rw [if_neg (by omega), if_neg h]
theorem cut_drop {α : Type} (f : α → Dat) (xs : List α) (n : Nat) : RW.cutD (xs.map f) (some (n : Int)) none = (xs.drop n).map f := by
  unfold RW.cutD
  rw [HT.sIx_none, HT.sIx_nat, List.length_map, List.map_drop]
  by_cases h : n ≤ xs.length
  · rw [Nat.min_eq_left h, List.take_of_length_le (by rw [List.length_drop, List.length_map]; omega)]
  · rw [Nat.min_eq_right (by omega), Nat.sub_self, List.take_zero, List.drop_eq_nil_of_le (by rw [List.length_map]; omega)]
section
variable {P : Program} {w : World} {K : PySem.W.Frag} {mg : Str → Option Value} {base : Heap}

theorem ok__law_row (T : Txt K mg) : FnOk P w K mg base CX0 3 T.a__law_row T.d__law_row ["vat", "many", "size"] (SpD K (gRow)) := by
  have G__law_pick := ok__law_pick (P := P) (w := w) (base := base) T
  have b__law_pick := T.b__law_pick
  have G__law_draw := ok__law_draw (P := P) (w := w) (base := base) T
  have b__law_draw := T.b__law_draw
  refine T.F__law_row.ok sc__law_row (spd_len (k := 3) fun ss S r S' hg => ?_) (fun cdv A outer s H vs Q E hr h => ⟨_, (pss_one (ps_ret (pe_callTy (call_tupK K rfl) (by rfl) T.n_tuple (by decide +kernel) (pa_cons (pe_lc (own := [("place", 3)]) rfl sc__law_row.nd (pi_range1 (by rfl) T.n_range (pa_cons (pv 1) pa_nil)) (blkOk_by (own := [("place", 3)]) (N := ["vat", "many", "size", "place"]) (sc := (defScope s__law_row)) (by decide +kernel)) (fun _ _ _ _ _ => (pg_name (i := 3) sc__law_row.nd rfl (by first | exact Or.inl rfl | exact Or.inr rfl))) (fun _ _ _ _ _ => pts_nil) (fun _ _ _ _ _ => (pe_call G__law_pick (hr.mono (by decide)) rfl T.m__law_pick T.k__law_pick b__law_pick .nil pass0 (pa_cons (pv 0) (pa_cons (pe_lst (pa_cons pe_int (pa_cons pe_int (pa_cons (pe_un un_neg pe_int) (pa_cons pe_int (pa_cons (pe_op op_sub (pe_call G__law_draw (hr.mono (by decide)) rfl T.m__law_draw T.k__law_draw b__law_draw .nil pass0 (pa_cons (pv 0) (pa_cons (pe_op op_add (pe_op op_mul pe_int (pv 2)) pe_int) pa_nil))) (pv 2)) pa_nil)))))) pa_nil))))) pa_nil)))), sp_body h fun ss S r S' hg => ?_⟩)
  · obtain ⟨i, n, l, s, rfl, _⟩ := hg; rfl
  · obtain ⟨k, v, m, size, rfl, hk, hm, h1, h2, rfl, rfl⟩ := hg
    have hz : (List.range m).length ≤ sizeLine := size_1000 (by rw [List.length_range]; exact hm)
    have hN := en_fold (K := K) (te := tCall (SpD K gPick) [] E0 (tCons (tVar 0) (tCons (tLst (tCons (tC (.int 0)) (tCons (tC (.int 1)) (tCons (tUn (rU fun i => V.int (-i)) (tC (.int 1))) (tCons (tC (.int 1)) (tCons (tOp (rI0 fun i j => V.int (i - j)) (tCall (SpD K gDraw) [] E0 (tCons (tVar 0) (tCons (tOp (rI0 fun i j => V.int (i + j)) (tOp (rI CMul fun i j => V.int (i * j)) (tC (.int 2)) (tVar 2)) (tC (.int 1))) tNil))) (tVar 2)) tNil)))))) tNil)))
      (env := [some (.c k), some (.d (.int m)), some (.d (.int size)), none]) (S := S) (xs := List.range m) (g := fun i => Dat.int (0 + (i : Nat))) (es := (rowF v m size).1) Dat.int (fun i => S.set k (vatD (foldF (fun v _ => elemF size v) ((List.range m).take i) v).2)) (wi := iRng1 (tCons (tVar 1) tNil)) (tg := gName 3) (vs := [3]) (G := G0) (is := [3]) ?_ hz (by rw [rowF_len, List.length_range]) (fun _ _ _ => trivial) (fun i => by simp) (by decide) (fun i env => env.set 3 (some (.d (.int (0 + (i : Nat)))))) (fun i a b ha hb => ⟨tg_name, ?_⟩)
    · rw [List.take_of_length_le (Nat.le_refl _)] at hN
      refine sp_ret (ev_cb (ea_cons hN.ev ea_nil) (cd_tup .lst)) ⟨rfl, List.take_of_length_le (by simp)⟩
    · show IterD K _ _ S G0 _ (S.set k (vatD v))
      rw [set_id hk]
      exact it_rangeN (ea_cons (ev_var rfl) ea_nil) hm
    · have hb2 := foldF_get (fun v _ => elemF size v) (List.range m) v i a ha
      have hs2 := foldF_step (fun v _ => elemF size v) (List.range m) v i a ha
      rw [hs2]
      have e : b = (elemF size (foldF (fun v _ => elemF size v) ((List.range m).take i) v).2).1 := Option.some.inj (hb.symm.trans hb2)
      subst e
      generalize (foldF (fun v _ => elemF size v) ((List.range m).take i) v).2 = vi
      have hki := set_get (e := vatD vi) hk
      have hk2 := set_get (e := vatD (drawF vi (2 * size + 1)).2) hk
      refine (ev_call (ea_cons (ev_var rfl) (ea_cons (EvN.ev (en_lst (S1 := S.set k (vatD (drawF vi (2 * size + 1)).2)) (ds := [0, 1, -1, 1, (drawF vi (2 * size + 1)).1 - size].map Dat.int) (ea_cons ev_int (ea_cons ev_int (ea_cons (ev_un ev_int o_neg) (ea_cons ev_int (ea_cons (ev_op (ev_call (ea_cons (ev_var rfl) (ea_cons (ev_op (ev_op ev_int (ev_var rfl) (o_mul (cm_l (by decide) (by decide)))) ev_int o_add) ea_nil)) ⟨k, vi, 2 * size + 1, rfl, hki, by omega, by omega, rfl, by rw [List.set_set]⟩) (ev_var rfl) o_sub) ea_nil))))) (by show 5 ≤ sizeLine; decide))) ea_nil)) ⟨k, (drawF vi (2 * size + 1)).2, _, rfl, hk2, by simp, by simp, rfl, ?_⟩)
      rw [List.set_set]; rfl
theorem ok__law_thin (T : Txt K mg) : FnOk P w K mg base CX0 2 T.a__law_thin T.d__law_thin ["vat", "row", "inputs"] (SpD K (gThin)) := by
  have G__law_draw := ok__law_draw (P := P) (w := w) (base := base) T
  have b__law_draw := T.b__law_draw
  refine T.F__law_thin.ok sc__law_thin (spd_len (k := 3) fun ss S r S' hg => ?_) (fun cdv A outer s H vs Q E hr h => ⟨_, (pss_one (ps_ret (pe_op op_catA (pe_slice sl_tupA (pv 1) po_none (po_some (pv 2))) (pe_callTy (call_tupK K rfl) (by rfl) T.n_tuple (by decide +kernel) (pa_cons (pe_lc (own := [("weight", 3)]) rfl sc__law_thin.nd (pi_seqK K (pe_slice sl_tupA (pv 1) (po_some (pv 2)) po_none)) (blkOk_by (own := [("weight", 3)]) (N := ["vat", "row", "inputs", "weight"]) (sc := (defScope s__law_thin)) (by decide +kernel)) (fun _ _ _ _ _ => (pg_name (i := 3) sc__law_thin.nd rfl (by first | exact Or.inl rfl | exact Or.inr rfl))) (fun _ _ _ _ _ => pts_nil) (fun _ _ _ _ _ => (pe_ifExp (pt_cmpR op_eq (pe_call G__law_draw (hr.mono (by decide)) rfl T.m__law_draw T.k__law_draw b__law_draw .nil pass0 (pa_cons (pv 0) (pa_cons pe_int pa_nil))) pe_int (nomark _)) (pv 3) pe_int))) pa_nil))))), sp_body h fun ss S r S' hg => ?_⟩)
  · obtain ⟨i, n, l, s, rfl, _⟩ := hg; rfl
  · obtain ⟨k, v, row, n, rfl, hk, hm, rfl, rfl⟩ := hg
    have hz : (row.drop n).length ≤ sizeLine := size_1000 (by rw [List.length_drop]; omega)
    have hN := en_fold (K := K) (te := tIf (tTest (tOp rEq (tCall (SpD K gDraw) [] E0 (tCons (tVar 0) (tCons (tC (.int 3)) tNil))) (tC (.int 0)))) (tVar 3) (tC (.int 0)))
      (env := [some (.c k), some (.d (rowD row)), some (.d (.int n)), none]) (S := S) (xs := row.drop n) (g := Dat.int) (es := (foldF thinE (row.drop n) v).1) Dat.int (fun i => S.set k (vatD (foldF thinE ((row.drop n).take i) v).2)) (wi := iSeq K (tSl (rSlA K) (tVar 1) (tPart (tVar 2)) tNoPart)) (tg := gName 3) (vs := [3]) (G := G0) (is := [3]) ?_ hz (by rw [foldF_len]) (fun _ _ _ => trivial) (fun i => by simp) (by decide) (fun w env => env.set 3 (some (.d (.int w)))) (fun i a b ha hb => ⟨tg_name, ?_⟩)
    · rw [List.take_of_length_le (Nat.le_refl _)] at hN
      refine sp_ret ((ev_op (ev_slT (ev_var rfl) eo_none (eo_some (ev_var rfl))) (ev_cb (ea_cons hN.ev ea_nil) (cd_tup .lst)) (op2_catT ?_)).to ?_) ⟨rfl, List.take_of_length_le (by simp)⟩
      · rw [cut_take, List.length_map, List.length_map, foldF_len, ← List.length_append, List.take_append_drop]
        exact size_1000 hm
      · rw [cut_take, ← List.map_append]; rfl
    · show IterD K _ _ S G0 _ (S.set k (vatD v))
      rw [set_id hk, ← cut_drop]
      exact it_tup (ev_slT (ev_var rfl) (eo_some (ev_var rfl)) eo_none)
    · have hb2 := foldF_get thinE (row.drop n) v i a ha
      have hs2 := foldF_step thinE (row.drop n) v i a ha
      rw [hs2]
      have e : b = (thinE (foldF thinE ((row.drop n).take i) v).2 a).1 := Option.some.inj (hb.symm.trans hb2)
      subst e
      generalize (foldF thinE ((row.drop n).take i) v).2 = vi
      have hki := set_get (e := vatD vi) hk
      refine ev_if (b := decide ((drawF vi 3).1 = 0)) (S1 := S.set k (vatD (drawF vi 3).2)) (et_test (ev_op (ev_call (ea_cons (ev_var rfl) (ea_cons ev_int ea_nil)) ⟨k, vi, 3, rfl, hki, by omega, by omega, rfl, by rw [List.set_set]⟩) ev_int op2_eq_int)) (fun h => ?_) fun h => ?_
      · refine (ev_var rfl).to ?_
        unfold thinE
        rw [if_pos (of_decide_eq_true h)]
      · refine ev_int.to ?_
        unfold thinE
        rw [if_neg (of_decide_eq_false h)]
end
end N21

set_option Elab.async false
set_option linter.all false
set_option maxRecDepth 100000
set_option maxHeartbeats 4000000
namespace N21
open PySem PySem.Spec PyProof.Rows L2 RW

def layerF (v : Vt) (seen : Nat) : List (List Int) × Vt := foldF (fun v (_ : Nat) => rowF v seen 4) (List.range (1 + (drawF v 3).1).toNat) (drawF v 3).2
def PF (n : Nat) (v : Vt) : Nat → Lays × Vt
  | 0 => ([], v)
  | i + 1 => ((PF n v i).1 ++ [(layerF (PF n v i).2 (n + (PF n v i).1.flatten.length)).1], (layerF (PF n v i).2 (n + (PF n v i).1.flatten.length)).2)
def partsF (v : Vt) (n depth : Nat) : (Lays × List Int) × Vt := (((PF n v depth).1, (rowF (PF n v depth).2 (n + (PF n v depth).1.flatten.length) 4).1), (rowF (PF n v depth).2 (n + (PF n v depth).1.flatten.length) 4).2)
def Sm (b : Int) (r : List Int) : Prop := ∀ x ∈ r, -b ≤ x ∧ x ≤ b
theorem layer_len (v : Vt) (seen : Nat) : 1 ≤ (layerF v seen).1.length ∧ (layerF v seen).1.length ≤ 3 := by
  have h1 := draw_nn v (t := 3) (by omega)
  have h2 := draw_lt v (t := 3) (by omega)
  unfold layerF
  rw [foldF_len, List.length_range]
  omega
theorem layer_mem (v : Vt) (seen : Nat) : ∀ u ∈ (layerF v seen).1, u.length = seen ∧ Sm 4 u :=
  foldF_mem (p := fun u : List Int => u.length = seen ∧ Sm 4 u) _ _ fun v a _ => ⟨rowF_len .., rowF_b v seen (by decide)⟩
/-- widths and sizes -/
def WLs : Nat → Lays → Prop
  | _, [] => True
  | w, l :: L => (1 ≤ l.length ∧ l.length ≤ 3 ∧ ∀ u ∈ l, u.length = w ∧ Sm 4 u) ∧ WLs (w + l.length) L
theorem WLs.snoc : ∀ {L : Lays} {w : Nat} {l : List (List Int)}, WLs w L → (1 ≤ l.length ∧ l.length ≤ 3 ∧ ∀ u ∈ l, u.length = w + L.flatten.length ∧ Sm 4 u) → WLs w (L ++ [l])
  | [], w, l, _, h => ⟨by simpa using h, trivial⟩
  | m :: L, w, l, h, q => ⟨h.1, WLs.snoc h.2 (by rw [List.flatten_cons, List.length_append, ← Nat.add_assoc] at q; exact q)⟩
theorem PF_ok (n : Nat) (v : Vt) : ∀ i, (PF n v i).1.length = i ∧ WLs n (PF n v i).1 ∧ (PF n v i).1.flatten.length ≤ 3 * i
  | 0 => ⟨rfl, trivial, Nat.le_refl _⟩
  | i + 1 => by
    obtain ⟨h1, h2, h3⟩ := PF_ok n v i
    have hl := layer_len (PF n v i).2 (n + (PF n v i).1.flatten.length)
    refine ⟨by rw [PF, List.length_append, h1]; rfl, ?_, ?_⟩
    · rw [PF]
      exact h2.snoc ⟨hl.1, hl.2, layer_mem _ _⟩
    · rw [PF, List.flatten_append, List.length_append]
      simp only [List.flatten_cons, List.flatten_nil, List.append_nil]
      omega
def gLParts (ss : List Sl) (S : List Dat) (r : Dat) (S' : List Dat) : Prop := ∃ (k : Nat) (v : Vt) (n depth : Nat), ss = [.c k, .d (.int n), .d (.int depth), .d (.int 3), .d (.int 4)] ∧ S[k]? = some (vatD v) ∧ n ≤ 8 ∧ depth ≤ 4 ∧
  r = .tup [laysD (partsF v n depth).1.1, rowD (partsF v n depth).1.2] ∧ S' = S.set k (vatD (partsF v n depth).2)
theorem sa_set {S : List Dat} {k : Nat} {a b x : Dat} (h : k < S.length) : (S.set k a ++ [b]).set k x = S.set k x ++ [b] := by
  rw [List.set_append, if_pos (by simpa using h), List.set_set]
theorem sa_get {S : List Dat} {k : Nat} {a b : Dat} (h : k < S.length) : (S.set k a ++ [b])[k]? = some a := by
  rw [List.getElem?_append_left (by simpa using h)]; exact List.getElem?_set_self h
theorem sa_last {S : List Dat} {k : Nat} {a b : Dat} : (S.set k a ++ [b])[S.length]? = some b := by
  rw [List.getElem?_append_right (by simp)]; simp
theorem sa_setl {S : List Dat} {k : Nat} {a b x : Dat} : (S.set k a ++ [b]).set S.length x = S.set k a ++ [x] := by
  rw [List.set_append, if_neg (by simp)]; simp
theorem sa_take {S : List Dat} {k : Nat} {a b : Dat} : (S.set k a ++ [b]).take S.length = S.set k a := by
  rw [List.take_append_of_le_length (by simp)]
  exact List.take_of_length_le (by simp)
def sizes : List Int := [1, 3, 9, 10 ^ (9 : Int).toNat]
def drow (v : Vt) (s : Int) (n : Nat) : List Int × Vt := foldF (fun v (_ : Nat) => ((drawF v (2 * s + 1)).1 - s, (drawF v (2 * s + 1)).2)) (List.range n) v
def RF (n : Nat) (v : Vt) : Nat → List (List Int) × Vt
  | 0 => ([List.replicate n 0], v)
  | i + 1 => ((RF n v i).1 ++ [(drow (pickF (RF n v i).2 sizes).2 (pickF (RF n v i).2 sizes).1 n).1], (drow (pickF (RF n v i).2 sizes).2 (pickF (RF n v i).2 sizes).1 n).2)
theorem size_in (v : Vt) : 1 ≤ (pickF v sizes).1 ∧ (pickF v sizes).1 ≤ 1000000000 := by
  have := pick_in v (ns := sizes) (by simp [sizes])
  have e : ∀ x ∈ sizes, 1 ≤ x ∧ x ≤ 1000000000 := by decide
  exact e _ this
theorem drow_ok (v : Vt) {s : Int} (n : Nat) (h1 : 1 ≤ s) (h2 : s ≤ 1000000000) : Rw (drow v s n).1 n := by
  refine ⟨by unfold drow; rw [foldF_len, List.length_range], foldF_mem (p := fun x => Sh x) _ _ fun v a _ => ?_⟩
  have h3 := draw_nn v (t := 2 * s + 1) (by omega)
  have h4 := draw_lt v (t := 2 * s + 1) (by omega)
  unfold Sh
  omega
theorem RF_ok (n : Nat) (v : Vt) : ∀ i, (RF n v i).1.length = i + 1 ∧ ∀ r ∈ (RF n v i).1, Rw r n
  | 0 => ⟨rfl, fun r hr => by
    rw [RF, List.mem_singleton] at hr
    subst hr
    exact ⟨List.length_replicate, fun x hx => by rw [List.eq_of_mem_replicate hx]; exact ⟨by decide, by decide⟩⟩⟩
  | i + 1 => by
    obtain ⟨h1, h2⟩ := RF_ok n v i
    refine ⟨by rw [RF, List.length_append, h1]; rfl, fun r hr => ?_⟩
    rw [RF] at hr
    rcases List.mem_append.mp hr with hr | hr
    · exact h2 r hr
    · rw [List.mem_singleton.mp hr]
      have hs := size_in (RF n v i).2
      exact drow_ok _ n hs.1 hs.2
theorem rep_flat1 {α : Type} (a : α) : ∀ n : Nat, (List.replicate n [a]).flatten = List.replicate n a
  | 0 => rfl
  | n + 1 => by rw [List.replicate_succ, List.flatten_cons, rep_flat1 a n, List.replicate_succ]; rfl
def gRows (ss : List Sl) (S : List Dat) (r : Dat) (S' : List Dat) : Prop := ∃ (k : Nat) (v : Vt) (n : Nat), ss = [.c k, .d (.int n), .d (.int 5)] ∧ S[k]? = some (vatD v) ∧ 1 ≤ n ∧ n ≤ 8 ∧
  r = .lst ((RF n v 5).1.map rowD) ∧ S' = S.set k (vatD (RF n v 5).2)
section
variable {P : Program} {w : World} {K : PySem.W.Frag} {mg : Str → Option Value} {base : Heap}

theorem ok__law_parts (T : Txt K mg) : FnOk P w K mg base CX0 4 T.a__law_parts T.d__law_parts ["vat", "inputs", "depth", "wide", "size"] (SpD K (gLParts)) := by
  have G__law_draw := ok__law_draw (P := P) (w := w) (base := base) T
  have b__law_draw := T.b__law_draw
  have G__law_row := ok__law_row (P := P) (w := w) (base := base) T
  have b__law_row := T.b__law_row
  refine T.F__law_parts.ok sc__law_parts (spd_len (k := 5) fun ss S r S' hg => ?_) (fun cdv A outer s H vs Q E hr h => ⟨_, (pss_cons (ps_asg (pe_tup (pa_cons (pe_lst pa_nil) (pa_cons (pv 1) pa_nil))) (pg_tup rfl (pgs_cons (pg_name (i := 5) sc__law_parts.nd rfl (by first | exact Or.inl rfl | exact Or.inr rfl)) (pgs_cons (pg_name (i := 6) sc__law_parts.nd rfl (by first | exact Or.inl rfl | exact Or.inr rfl)) pgs_nil)))) (pss_cons (ps_for PassesOwn.never rfl (pi_range1 (by rfl) T.n_range (pa_cons (pv 2) pa_nil)) (pg_name (i := 7) sc__law_parts.nd rfl (by first | exact Or.inl rfl | exact Or.inr rfl)) (pss_cons (ps_set (i := 8) sc__law_parts.nd rfl (by first | exact Or.inl rfl | exact Or.inr rfl) (pe_callTy (call_tupK K rfl) (by rfl) T.n_tuple (by decide +kernel) (pa_cons (pe_lc (own := [("unit", 9)]) rfl sc__law_parts.nd (pi_range1 (by rfl) T.n_range (pa_cons (pe_op op_add pe_int (pe_call G__law_draw (hr.mono (by decide)) rfl T.m__law_draw T.k__law_draw b__law_draw .nil pass0 (pa_cons (pv 0) (pa_cons (pv 3) pa_nil)))) pa_nil)) (blkOk_by (own := [("unit", 9)]) (N := ["vat", "inputs", "depth", "wide", "size", "layers", "seen", "turn", "layer", "unit"]) (sc := (defScope s__law_parts)) (by decide +kernel)) (fun _ _ _ _ _ => (pg_name (i := 9) sc__law_parts.nd rfl (by first | exact Or.inl rfl | exact Or.inr rfl))) (fun _ _ _ _ _ => pts_nil) (fun _ _ _ _ _ => (pe_call G__law_row (hr.mono (by decide)) rfl T.m__law_row T.k__law_row b__law_row .nil pass0 (pa_cons (pv 0) (pa_cons (pv 6) (pa_cons (pv 4) pa_nil)))))) pa_nil))) (pss_cons (ps_expr (pe_bm PySem.F.plainAttrs_list PySem.F.slot_list_append PySem.F.type_list_append mt_append (pv 5) (pa_cons (pv 8) pa_nil))) (pss_one (ps_set (i := 6) sc__law_parts.nd rfl (by first | exact Or.inl rfl | exact Or.inr rfl) (pe_op op_add (pv 6) (pe_callB (call_lenK K) (by rfl) T.n_len (by decide +kernel) (pa_cons (pv 8) pa_nil)))))))) (pss_one (ps_ret (pe_tup (pa_cons (pe_callTy (call_tupK K rfl) (by rfl) T.n_tuple (by decide +kernel) (pa_cons (pv 5) pa_nil)) (pa_cons (pe_call G__law_row (hr.mono (by decide)) rfl T.m__law_row T.k__law_row b__law_row .nil pass0 (pa_cons (pv 0) (pa_cons (pv 6) (pa_cons (pv 4) pa_nil)))) pa_nil))))))), sp_body h fun ss S r S' hg => ?_⟩)
  · obtain ⟨i, n, l, s, rfl, _⟩ := hg; rfl
  · obtain ⟨k, v, n, depth, rfl, hk, hn, hd, rfl, rfl⟩ := hg
    have hkl : k < S.length := (List.getElem?_eq_some_iff.mp hk).1
    refine sp_pairC (ds := []) (en_lst ea_nil (Nat.zero_le _)) (ev_var rfl) ?_
    refine sp_seq (P' := { nx := fun env' S2 => ∃ o1 o2, S2 = S.set k (vatD (PF n v depth).2) ++ [.lst ((PF n v depth).1.map layD)] ∧ env' = [some (.c k), some (.d (.int n)), some (.d (.int depth)), some (.d (.int 3)), some (.d (.int 4)), some (.c S.length), some (.d (.int ((n + (PF n v depth).1.flatten.length : Nat) : Int))), o1, o2, none] })
      (sp_forA (xs := List.range depth) (g := fun i => Dat.int (0 + (i : Nat))) (it_rangeN (ea_cons (ev_var rfl) ea_nil) (by omega)) (fun i env' S2 => ∃ o1 o2, S2 = S.set k (vatD (PF n v i).2) ++ [.lst ((PF n v i).1.map layD)] ∧ env' = [some (.c k), some (.d (.int n)), some (.d (.int depth)), some (.d (.int 3)), some (.d (.int 4)), some (.c S.length), some (.d (.int ((n + (PF n v i).1.flatten.length : Nat) : Int))), o1, o2, none]) ⟨none, none, ?_, rfl⟩ (fun _ _ _ _ _ _ _ _ _ => trivial) ?_ ?_) ?_
    · show S ++ [Dat.lst []] = S.set k (vatD v) ++ [Dat.lst []]
      rw [set_id hk]
    · rintro i a env' S2 ha ⟨o1, o2, rfl, rfl⟩
      have hi : i < depth := by
        have := (List.getElem?_eq_some_iff.mp ha).1
        rwa [List.length_range] at this
      obtain ⟨hp1, hp2, hp3⟩ := PF_ok n v i
      refine ⟨[7], fun env => env.set 7 (some (.d (.int (0 + (a : Nat))))), tg_name, ?_⟩
      rw [PF]
      generalize (PF n v i).2 = vi
      generalize hL : (PF n v i).1 = L at hp1 hp2 hp3
      generalize hsn : n + L.flatten.length = seen
      have hseen : seen ≤ 1000 := by omega
      have d1 := draw_nn vi (t := 3) (by omega)
      have d2 := draw_lt vi (t := 3) (by omega)
      obtain ⟨c, hc⟩ : ∃ c : Nat, 1 + (drawF vi 3).1 = (c : Int) := ⟨(1 + (drawF vi 3).1).toNat, by omega⟩
      have hlay : layerF vi seen = foldF (fun v (_ : Nat) => rowF v seen 4) (List.range c) (drawF vi 3).2 := by unfold layerF; rw [hc]; rfl
      have hcc : c ≤ 3 := by omega
      have hN := en_fold (K := K) (te := tCall (SpD K gRow) [] E0 (tCons (tVar 0) (tCons (tVar 6) (tCons (tVar 4) tNil))))
        (env := [some (.c k), some (.d (.int n)), some (.d (.int depth)), some (.d (.int 3)), some (.d (.int 4)), some (.c S.length), some (.d (.int (seen : Int))), some (.d (.int (0 + (a : Nat)))), o2, none]) (S := S.set k (vatD vi) ++ [.lst (L.map layD)]) (xs := List.range c) (g := fun i => Dat.int (0 + (i : Nat))) (es := (layerF vi seen).1) rowD (fun i => S.set k (vatD (foldF (fun v (_ : Nat) => rowF v seen 4) ((List.range c).take i) (drawF vi 3).2).2) ++ [.lst (L.map layD)]) (wi := iRng1 (tCons (tOp (rI0 fun i j => V.int (i + j)) (tC (.int 1)) (tCall (SpD K gDraw) [] E0 (tCons (tVar 0) (tCons (tVar 3) tNil)))) tNil)) (tg := gName 9) (vs := [9]) (G := G0) (is := [9]) ?_ (size_1000 (by rw [List.length_range]; omega)) (by rw [hlay, foldF_len]) (fun _ _ _ => trivial) (fun i => by simp) (by decide) (fun w env => env.set 9 (some (.d (.int (0 + (w : Nat)))))) (fun i a b ha hb => ⟨tg_name, ?_⟩)
      · rw [List.take_of_length_le (Nat.le_refl _), ← hlay] at hN
        refine sp_set (ev_cb (ea_cons hN.ev ea_nil) (cd_tup .lst)) ?_
        refine sp_drop (ev_append (d := layD (layerF vi seen).1) (ev_var rfl) (ev_var rfl) ⟨_, sa_last⟩ sa_last (by rw [List.length_map]; exact Nat.lt_of_le_of_lt (by omega : _ ≤ 4) (by decide))) ?_
        rw [sa_setl]
        refine sp_set1 ((ev_op (ev_var rfl) (ev_cb (ea_cons (ev_var rfl) ea_nil) (cd_len .tup)) o_add).to (r' := .d (.int ((seen + (layerF vi seen).1.length : Nat) : Int))) ?_) ⟨some (.d (.int (0 + (a : Nat)))), some (.d (layD (layerF vi seen).1)), ?_, ?_⟩
        · rw [List.length_map, Int.natCast_add]
        · rw [List.map_append]; rfl
        · rw [List.flatten_append, List.length_append, ← Nat.add_assoc, hsn]
          simp only [List.flatten_cons, List.flatten_nil, List.append_nil]
          rfl
      · show IterD K _ _ _ G0 _ (S.set k (vatD (drawF vi 3).2) ++ [.lst (L.map layD)])
        refine it_rangeN (ea_cons ((ev_op ev_int (ev_call (ea_cons (ev_var rfl) (ea_cons (ev_var rfl) ea_nil)) ⟨k, vi, 3, rfl, sa_get hkl, by omega, by omega, rfl, (sa_set hkl).symm⟩) o_add).to ?_) ea_nil) (by omega)
        rw [hc]
      · rw [hlay] at hb
        have hb2 := foldF_get (fun v (_ : Nat) => rowF v seen 4) (List.range c) (drawF vi 3).2 i a ha
        have hs2 := foldF_step (fun v (_ : Nat) => rowF v seen 4) (List.range c) (drawF vi 3).2 i a ha
        rw [hs2]
        have e := Option.some.inj (hb.symm.trans hb2)
        subst e
        generalize (foldF (fun v (_ : Nat) => rowF v seen 4) ((List.range c).take i) (drawF vi 3).2).2 = vj
        exact ev_call (ea_cons (ev_var rfl) (ea_cons (ev_var rfl) (ea_cons (ev_var rfl) ea_nil))) ⟨k, vj, seen, 4, rfl, sa_get hkl, hseen, by decide, by decide, rfl, (sa_set hkl).symm⟩
    · rintro env' S2 ⟨o1, o2, rfl, rfl⟩
      rw [List.length_range]
      exact ⟨o1, o2, rfl, rfl⟩
    · rintro env' S2 ⟨o1, o2, rfl, rfl⟩
      obtain ⟨hp1, hp2, hp3⟩ := PF_ok n v depth
      refine sp_ret (ev_tup (ds := [laysD (partsF v n depth).1.1, rowD (partsF v n depth).1.2]) (ea_cons (ev_cb (ea_cons (ev_var rfl) ea_nil) (cd_tup (.cell sa_last))) (ea_cons (ev_call (ea_cons (ev_var rfl) (ea_cons (ev_var rfl) (ea_cons (ev_var rfl) ea_nil))) ⟨k, (PF n v depth).2, n + (PF n v depth).1.flatten.length, 4, rfl, sa_get hkl, by omega, by decide, by decide, rfl, (sa_set hkl).symm⟩) ea_nil)) (by show 2 ≤ sizeLine; decide)) ⟨rfl, sa_take⟩
theorem ok__law_rows (T : Txt K mg) : FnOk P w K mg base CX0 3 T.a__law_rows T.d__law_rows ["vat", "many", "turns"] (SpD K (gRows)) := by
  have G__law_pick := ok__law_pick (P := P) (w := w) (base := base) T
  have b__law_pick := T.b__law_pick
  have G__law_draw := ok__law_draw (P := P) (w := w) (base := base) T
  have b__law_draw := T.b__law_draw
  refine T.F__law_rows.ok sc__law_rows (spd_len (k := 3) fun ss S r S' hg => ?_) (fun cdv A outer s H vs Q E hr h => ⟨_, (pss_cons (ps_set (i := 3) sc__law_rows.nd rfl (by first | exact Or.inl rfl | exact Or.inr rfl) (pe_lst (pa_cons (pe_op RwT.op_repA (pe_tup (pa_cons pe_int pa_nil)) (pv 1)) pa_nil))) (pss_cons (ps_for PassesOwn.never rfl (pi_range1 (by rfl) T.n_range (pa_cons (pv 2) pa_nil)) (pg_name (i := 4) sc__law_rows.nd rfl (by first | exact Or.inl rfl | exact Or.inr rfl)) (pss_cons (ps_set (i := 5) sc__law_rows.nd rfl (by first | exact Or.inl rfl | exact Or.inr rfl) (pe_call G__law_pick (hr.mono (by decide)) rfl T.m__law_pick T.k__law_pick b__law_pick .nil pass0 (pa_cons (pv 0) (pa_cons (pe_lst (pa_cons pe_int (pa_cons pe_int (pa_cons pe_int (pa_cons (pe_op op_powW pe_int pe_int) pa_nil))))) pa_nil)))) (pss_one (ps_expr (pe_bm PySem.F.plainAttrs_list PySem.F.slot_list_append PySem.F.type_list_append mt_append (pv 3) (pa_cons (pe_callTy (call_tupK K rfl) (by rfl) T.n_tuple (by decide +kernel) (pa_cons (pe_lc (own := [("place", 6)]) rfl sc__law_rows.nd (pi_range1 (by rfl) T.n_range (pa_cons (pv 1) pa_nil)) (blkOk_by (own := [("place", 6)]) (N := ["vat", "many", "turns", "found", "turn", "size", "place"]) (sc := (defScope s__law_rows)) (by decide +kernel)) (fun _ _ _ _ _ => (pg_name (i := 6) sc__law_rows.nd rfl (by first | exact Or.inl rfl | exact Or.inr rfl))) (fun _ _ _ _ _ => pts_nil) (fun _ _ _ _ _ => (pe_op op_sub (pe_call G__law_draw (hr.mono (by decide)) rfl T.m__law_draw T.k__law_draw b__law_draw .nil pass0 (pa_cons (pv 0) (pa_cons (pe_op op_add (pe_op op_mul pe_int (pv 5)) pe_int) pa_nil))) (pv 5)))) pa_nil)) pa_nil)))))) (pss_one (ps_ret (pv 3))))), sp_body h fun ss S r S' hg => ?_⟩)
  · obtain ⟨i, n, l, rfl, _⟩ := hg; rfl
  · obtain ⟨k, v, n, rfl, hk, hn1, hn, rfl, rfl⟩ := hg
    have hkl : k < S.length := (List.getElem?_eq_some_iff.mp hk).1
    refine sp_setC (S1 := S) (ds := [rowD (List.replicate n 0)]) (en_lst (ea_cons ((ev_op (ev_tup (ds := [Dat.int 0]) (ea_cons ev_int ea_nil) (by show 1 ≤ sizeLine; decide)) (ev_var rfl) (o_repA (by simp) (by omega) (by omega) (by show 1 ≤ 1000; decide))).to ?_) ea_nil) (by show 1 ≤ sizeLine; decide)) ?_
    · rw [Int.toNat_natCast, rep_flat1, ← List.map_replicate]; rfl
    refine sp_seq (P' := { nx := fun env' S2 => ∃ o1 o2, S2 = S.set k (vatD (RF n v 5).2) ++ [.lst ((RF n v 5).1.map rowD)] ∧ env' = [some (.c k), some (.d (.int n)), some (.d (.int 5)), some (.c S.length), o1, o2, none] })
      (sp_forA (xs := List.range 5) (g := fun i => Dat.int (0 + (i : Nat))) (it_rangeN (m := 5) (ea_cons (ev_var rfl) ea_nil) (by omega)) (fun i env' S2 => ∃ o1 o2, S2 = S.set k (vatD (RF n v i).2) ++ [.lst ((RF n v i).1.map rowD)] ∧ env' = [some (.c k), some (.d (.int n)), some (.d (.int 5)), some (.c S.length), o1, o2, none]) ⟨none, none, ?_, rfl⟩ (fun _ _ _ _ _ _ _ _ _ => trivial) ?_ ?_) ?_
    · show S ++ [Dat.lst [rowD (List.replicate n 0)]] = S.set k (vatD v) ++ [Dat.lst [rowD (List.replicate n 0)]]
      rw [set_id hk]
    · rintro i a env' S2 ha ⟨o1, o2, rfl, rfl⟩
      have hi : i < 5 := by
        have := (List.getElem?_eq_some_iff.mp ha).1
        rwa [List.length_range] at this
      obtain ⟨hp1, hp2⟩ := RF_ok n v i
      have hs := size_in (RF n v i).2
      refine ⟨[4], fun env => env.set 4 (some (.d (.int (0 + (a : Nat))))), tg_name, ?_⟩
      rw [RF]
      generalize (RF n v i).2 = vi at hs
      generalize hL : (RF n v i).1 = L at hp1 hp2
      generalize hpp : pickF vi sizes = pp at hs
      refine sp_set (x := .d (.int pp.1)) (S1 := S.set k (vatD pp.2) ++ [.lst (L.map rowD)]) (ev_call (ea_cons (ev_var rfl) (ea_cons (EvN.ev (en_lst (ds := [1, 3, 9, 10 ^ (9 : Int).toNat].map Dat.int) (ea_cons ev_int (ea_cons ev_int (ea_cons ev_int (ea_cons (ev_op ev_int ev_int (o_powW ⟨by decide, by decide⟩)) ea_nil)))) (by show 4 ≤ sizeLine; decide))) ea_nil)) ⟨k, vi, sizes, rfl, sa_get hkl, by simp [sizes], by decide, by rw [hpp], by rw [hpp, sa_set hkl]⟩) ?_
      have hN := en_fold (K := K) (te := tOp (rI0 fun i j => V.int (i - j)) (tCall (SpD K gDraw) [] E0 (tCons (tVar 0) (tCons (tOp (rI0 fun i j => V.int (i + j)) (tOp (rI CMul fun i j => V.int (i * j)) (tC (.int 2)) (tVar 5)) (tC (.int 1))) tNil))) (tVar 5))
        (env := [some (.c k), some (.d (.int n)), some (.d (.int 5)), some (.c S.length), some (.d (.int (0 + (a : Nat)))), some (.d (.int pp.1)), none]) (S := S.set k (vatD pp.2) ++ [.lst (L.map rowD)]) (xs := List.range n) (g := fun i => Dat.int (0 + (i : Nat))) (es := (drow pp.2 pp.1 n).1) Dat.int (fun i => S.set k (vatD (foldF (fun v (_ : Nat) => ((drawF v (2 * pp.1 + 1)).1 - pp.1, (drawF v (2 * pp.1 + 1)).2)) ((List.range n).take i) pp.2).2) ++ [.lst (L.map rowD)]) (wi := iRng1 (tCons (tVar 1) tNil)) (tg := gName 6) (vs := [6]) (G := G0) (is := [6]) (it_rangeN (ea_cons (ev_var rfl) ea_nil) (by omega)) (size_1000 (by rw [List.length_range]; omega)) (by unfold drow; rw [foldF_len]) (fun _ _ _ => trivial) (fun i => by simp) (by decide) (fun w env => env.set 6 (some (.d (.int (0 + (w : Nat)))))) (fun i a b ha hb => ⟨tg_name, ?_⟩)
      · rw [List.take_of_length_le (Nat.le_refl _)] at hN
        refine sp_drop1 (ev_append (d := rowD (drow pp.2 pp.1 n).1) (ev_var rfl) (ev_cb (ea_cons hN.ev ea_nil) (cd_tup .lst)) ⟨_, sa_last⟩ sa_last (by rw [List.length_map]; exact Nat.lt_of_le_of_lt (by omega : _ ≤ 6) (by decide))) ⟨some (.d (.int (0 + (a : Nat)))), some (.d (.int pp.1)), ?_, rfl⟩
        rw [sa_setl, List.map_append]; rfl
      · unfold drow at hb
        have hb2 := foldF_get (fun v (_ : Nat) => ((drawF v (2 * pp.1 + 1)).1 - pp.1, (drawF v (2 * pp.1 + 1)).2)) (List.range n) pp.2 i a ha
        have hs2 := foldF_step (fun v (_ : Nat) => ((drawF v (2 * pp.1 + 1)).1 - pp.1, (drawF v (2 * pp.1 + 1)).2)) (List.range n) pp.2 i a ha
        rw [hs2]
        have e := Option.some.inj (hb.symm.trans hb2)
        subst e
        generalize (foldF (fun v (_ : Nat) => ((drawF v (2 * pp.1 + 1)).1 - pp.1, (drawF v (2 * pp.1 + 1)).2)) ((List.range n).take i) pp.2).2 = vj
        exact ev_op (ev_call (ea_cons (ev_var rfl) (ea_cons (ev_op (ev_op ev_int (ev_var rfl) (o_mul (cm_l (by decide) (by decide)))) ev_int o_add) ea_nil)) ⟨k, vj, 2 * pp.1 + 1, rfl, sa_get hkl, by omega, by omega, rfl, (sa_set hkl).symm⟩) (ev_var rfl) o_sub
    · rintro env' S2 ⟨o1, o2, rfl, rfl⟩
      rw [List.length_range]
      exact ⟨o1, o2, rfl, rfl⟩
    · rintro env' S2 ⟨o1, o2, rfl, rfl⟩
      exact sp_retC rfl sa_last (Nat.le_refl _) ⟨rfl, sa_take⟩
end
end N21

set_option Elab.async false
set_option linter.all false
set_option maxRecDepth 100000
set_option maxHeartbeats 4000000
namespace N21
open PySem PySem.Spec PyProof.Rows L2 RW

def lawLeft (row : Row) (n : Nat) (st : List Nat) : Row := row.take n ++ (st.filter fun a => decide (n + a < row.length)).map fun a => row.getD (n + a) 0
def gLLeft (ss : List Sl) (S : List Dat) (r : Dat) (S' : List Dat) : Prop := ∃ (row : Row) (n : Nat) (st : List Nat), ss = [.d (rowD row), .d (.int n), .d (.lst (st.map fun a => Dat.int (a : Nat)))] ∧ row.length ≤ 1000 ∧ st.length ≤ 1000 ∧ r = rowD (lawLeft row n st) ∧ S' = S
def homF : Nat → Lays → List Nat
  | _, [] => []
  | d, l :: L => List.replicate l.length d ++ homF (d + 1) L
theorem homF_snoc : ∀ (A : Lays) (d : Nat) (l : List Row), homF d (A ++ [l]) = homF d A ++ List.replicate l.length (d + A.length)
  | [], d, l => by simp [homF]
  | a :: A, d, l => by
    rw [List.cons_append, homF, homF_snoc A (d + 1) l, homF, List.append_assoc, List.length_cons, show d + 1 + A.length = d + (A.length + 1) by omega]
theorem homF_len : ∀ (A : Lays) (d : Nat), (homF d A).length = A.flatten.length
  | [], _ => rfl
  | a :: A, d => by rw [homF, List.length_append, List.length_replicate, homF_len A, List.flatten_cons, List.length_append]
def idxF : Nat → List Bool → List Nat
  | _, [] => []
  | j, b :: t => if b = true then j :: idxF (j + 1) t else idxF (j + 1) t
theorem idxF_b : ∀ (t : List Bool) (j : Nat), ∀ a ∈ idxF j t, j ≤ a ∧ a < j + t.length
  | [], _, _, h => by simp [idxF] at h
  | b :: t, j, a, h => by
    have ih := idxF_b t (j + 1)
    unfold idxF at h
    rw [List.length_cons]
    split at h
    · rcases List.mem_cons.mp h with rfl | h
      · omega
      · have := ih a h; omega
    · have := ih a h; omega
theorem idxF_len : ∀ (t : List Bool) (j : Nat), (idxF j t).length ≤ t.length
  | [], _ => Nat.le_refl _
  | b :: t, j => by
    have := idxF_len t (j + 1)
    unfold idxF
    split <;> simp <;> omega
theorem idxF_sorted : ∀ (t : List Bool) (j : Nat), (idxF j t).Pairwise (· < ·)
  | [], _ => .nil
  | b :: t, j => by
    unfold idxF
    split
    · exact .cons (fun a ha => (idxF_b t (j + 1) a ha).1) (idxF_sorted t (j + 1))
    · exact idxF_sorted t (j + 1)
theorem keep_idx (U : List Row) : ∀ (t : List Bool) (j : Nat), j + t.length = U.length → keepRows (U.drop j) t = (idxF j t).map fun a => U.getD a []
  | [], j, h => by simp [keepRows, idxF]
  | b :: t, j, h => by
    rw [List.length_cons] at h
    have hj : j < U.length := by omega
    have ih := keep_idx U t (j + 1) (by omega)
    rw [drop_eq hj]
    unfold keepRows at ih ⊢
    rw [List.zip_cons_cons, List.filter_cons]
    unfold idxF
    by_cases hb : b = true
    · rw [if_pos hb, if_pos hb, List.map_cons, List.map_cons, ih]
      congr 1
      rw [List.getD_eq_getElem?_getD, List.getElem?_eq_getElem hj]; rfl
    · rw [if_neg hb, if_neg hb, ih]
def lawRows (U : List Row) (last : Row) (st : List Nat) (p : Nat) : List Row := last :: ((st.filter fun a => decide (p < (U.getD a []).length)).map fun a => U.getD a [])
theorem hit_law (U : List Row) (last : Row) (st : List Nat) (p : Nat) (hl : p < last.length) : (!decide ((lawRows U last st p).filter (fun r => !decide (r.getD p 0 = 0)) = [])) = hit (last :: st.map fun a => U.getD a []) p := by
  have h1 : ∀ rs : List Row, (!decide (rs.filter (fun r => !decide (r.getD p 0 = 0)) = [])) = rs.any fun r => !decide (r.getD p 0 = 0) := fun rs => by
    induction rs with
    | nil => rfl
    | cons r rs ih =>
      rw [List.filter_cons, List.any_cons, ← ih]
      by_cases z : (!decide (r.getD p 0 = 0)) = true
      · rw [if_pos z, z]; rfl
      · rw [if_neg z]; simp only [Bool.not_eq_true] at z; rw [z]; rfl
  rw [h1]
  unfold lawRows hit
  rw [List.any_cons, List.any_cons, decide_eq_true hl, Bool.true_and]
  congr 1
  induction st with
  | nil => rfl
  | cons a st ih =>
    rw [List.filter_cons, List.map_cons, List.any_cons, ← ih]
    by_cases z : p < (U.getD a []).length
    · rw [if_pos (decide_eq_true z), List.map_cons, List.any_cons, decide_eq_true z, Bool.true_and]
    · rw [if_neg (by simpa using z), decide_eq_false z, Bool.false_and, Bool.false_or]
def lawLayer (L : Lays) (n : Nat) (st : List Nat) (d : Nat) : List Row := (st.filter fun a => decide ((homF 0 L).getD a 0 = d)).map fun a => lawLeft (L.flatten.getD a []) n st
def lawTold (L : Lays) (n : Nat) (st : List Nat) : Nat → Lays
  | 0 => []
  | i + 1 => lawTold L n st i ++ (if lawLayer L n st i = [] then [] else [lawLayer L n st i])
def stF (n : Nat) (L : Lays) (last : Row) : List Nat := idxF 0 (mats n L last)
def gLTrim (ss : List Sl) (S : List Dat) (r : Dat) (S' : List Dat) : Prop := ∃ (n : Nat) (L : Lays) (last : Row), ss = [.d (.int n), .d (laysD L), .d (rowD last)] ∧ Wf n L last ∧
  r = .tup [laysD (lawTold L n (stF n L last) L.length), rowD (lawLeft last n (stF n L last))] ∧ S' = S
section
variable {P : Program} {w : World} {K : PySem.W.Frag} {mg : Str → Option Value} {base : Heap}

theorem ok__law_left (T : Txt K mg) : FnOk P w K mg base CX0 1 T.a__law_left T.d__law_left ["row", "inputs", "stays"] (SpD K (gLLeft)) := by
  refine T.F__law_left.ok sc__law_left (spd_len (k := 3) fun ss S r S' hg => ?_) (fun cdv A outer s H vs Q E hr h => ⟨_, (pss_one (ps_ret (pe_op op_catA (pe_slice sl_tupA (pv 0) po_none (po_some (pv 1))) (pe_callTy (call_tupK K rfl) (by rfl) T.n_tuple (by decide +kernel) (pa_cons (pe_lc (own := [("at", 3)]) rfl sc__law_left.nd (pi_seqK K (pv 2)) (blkOk_by (own := [("at", 3)]) (N := ["row", "inputs", "stays", "at"]) (sc := (defScope s__law_left)) (by decide +kernel)) (fun _ _ _ _ _ => (pg_name (i := 3) sc__law_left.nd rfl (by first | exact Or.inl rfl | exact Or.inr rfl))) (fun _ _ _ _ _ => (pts_one (pt_cmpR op_lt (pe_op op_add (pv 1) (pv 3)) (pe_callB (call_lenK K) (by rfl) T.n_len (by decide +kernel) (pa_cons (pv 0) pa_nil)) (nomark _)))) (fun _ _ _ _ _ => (pe_ix (ix_seqK K) (pv 0) (pe_op op_add (pv 1) (pv 3)) (fun _ _ => rfl)))) pa_nil))))), sp_body h fun ss S r S' hg => ?_⟩)
  · obtain ⟨i, n, l, rfl, _⟩ := hg; rfl
  · obtain ⟨row, n, st, rfl, hr1, hs1, rfl, rfl⟩ := hg
    refine sp_ret ((ev_op (ev_slT (ev_var rfl) eo_none (eo_some (ev_var rfl))) (ev_cb (ea_cons (EvN.ev (en_filterA (xs := st) (g := fun a => Dat.int (a : Nat)) (is := [3]) (fun a => decide (n + a < row.length)) (fun a => Dat.int (row.getD (n + a) 0)) (it_lst (ev_var rfl)) (size_1000 hs1) (fun _ _ => trivial) (by decide) (fun a env => env.set 3 (some (.d (.int (a : Nat))))) fun a ha => ⟨tg_name, ?_, fun hh => ?_⟩)) ea_nil) (cd_tup .lst)) (op2_catT ?_)).to ?_) ⟨rfl, List.take_length⟩
    · refine et_test ((ev_op (ev_op (ev_var rfl) (ev_var rfl) o_add) (ev_cb (ea_cons (ev_var rfl) ea_nil) (cd_len .tup)) o_lt).to ?_)
      rw [List.length_map]
      congr 2
      apply decide_eq_decide.mpr
      omega
    · have hlt := of_decide_eq_true hh
      refine ev_op (ev_var rfl) ((ev_op (ev_var rfl) (ev_var rfl) o_add).to (r' := .d (.int ((n + a : Nat) : Int))) (by rw [Int.natCast_add])) (op2_ix .tup (atI_map (a := row.getD (n + a) 0) ?_))
      rw [List.getD_eq_getElem?_getD, List.getElem?_eq_getElem hlt]; rfl
    · rw [cut_take, List.length_map, List.length_map, List.length_take]
      have := List.length_filter_le (fun a => decide (n + a < row.length)) st
      exact Nat.le_trans (by omega : _ ≤ 2000) (by decide)
    · rw [cut_take]
      unfold lawLeft rowD
      rw [List.map_append, List.map_map]; rfl
end
end N21

set_option Elab.async false
set_option linter.all false
set_option maxRecDepth 100000
set_option maxHeartbeats 4000000
namespace N21
open PySem PySem.Spec PyProof.Rows L2 RW

theorem dd0 {S : List Dat} {a b c : Dat} : (S ++ [a] ++ [b] ++ [c])[S.length]? = some a := by simp
theorem dd1 {S : List Dat} {a b c : Dat} : (S ++ [a] ++ [b] ++ [c])[S.length + 1]? = some b := by simp
theorem dd2 {S : List Dat} {a b c : Dat} : (S ++ [a] ++ [b] ++ [c])[S.length + 2]? = some c := by simp
theorem ds2 {S : List Dat} {a b c c' : Dat} : (S ++ [a] ++ [b] ++ [c]).set (S.length + 2) c' = S ++ [a] ++ [b] ++ [c'] := by simp [List.set_append]
theorem dtk {S : List Dat} {a b c : Dat} : (S ++ [a] ++ [b] ++ [c]).take S.length = S := by simp
theorem zipIdx_get {α : Type} {L : List α} {i : Nat} {p : α × Nat} (h : L.zipIdx[i]? = some p) : L[i]? = some p.1 ∧ p.2 = i := by
  rw [List.getElem?_zipIdx, Option.map_eq_some_iff] at h
  obtain ⟨a, ha, rfl⟩ := h
  exact ⟨ha, by simp⟩
theorem homF_take {L : Lays} {i : Nat} {l : List Row} (h : L[i]? = some l) : homF 0 (L.take (i + 1)) = homF 0 (L.take i) ++ List.replicate l.length i := by
  obtain ⟨hl, e⟩ := List.getElem?_eq_some_iff.mp h
  rw [List.take_succ_eq_append_getElem hl, e, homF_snoc, List.length_take, Nat.zero_add, Nat.min_eq_left (by omega)]
theorem flat_take1 {L : Lays} {i : Nat} {l : List Row} (h : L[i]? = some l) : (L.take (i + 1)).flatten = (L.take i).flatten ++ l := by
  obtain ⟨hl, e⟩ := List.getElem?_eq_some_iff.mp h
  rw [List.take_succ_eq_append_getElem hl, e, List.flatten_append]; simp
theorem WL_mem : ∀ (L : Lays) (w : Nat), WL w L → ∀ u ∈ L.flatten, u.length ≤ w + L.flatten.length ∧ ∀ x ∈ u, Sh x
  | [], _, _, u, hu => by simp at hu
  | l :: L, w, h, u, hu => by
    rw [List.flatten_cons, List.length_append]
    rw [List.flatten_cons] at hu
    rcases List.mem_append.mp hu with hu | hu
    · have := h.1.2.2 u hu
      exact ⟨by have := this.1; omega, this.2⟩
    · have := WL_mem L _ h.2 u hu
      exact ⟨by have := this.1; omega, this.2⟩
theorem lawTold_len (L : Lays) (n : Nat) (st : List Nat) : ∀ i, (lawTold L n st i).length ≤ i
  | 0 => Nat.le_refl _
  | i + 1 => by
    have := lawTold_len L n st i
    rw [lawTold, List.length_append]
    split
    · simp; omega
    · simp; omega
section
variable {P : Program} {w : World} {K : PySem.W.Frag} {mg : Str → Option Value} {base : Heap}

theorem ok__law_trimmed (T : Txt K mg) : FnOk P w K mg base CX0 2 T.a__law_trimmed T.d__law_trimmed ["inputs", "layers", "last"] (SpD K (gLTrim)) := by
  have G__law_left := ok__law_left (P := P) (w := w) (base := base) T
  have b__law_left := T.b__law_left
  refine T.F__law_trimmed.ok sc__law_trimmed (spd_len (k := 3) fun ss S r S' hg => ?_) (fun cdv A outer s H vs Q E hr h => ⟨_, (pss_cons (ps_asg (pe_tup (pa_cons (pe_lst pa_nil) (pa_cons (pe_lst pa_nil) pa_nil))) (pg_tup rfl (pgs_cons (pg_name (i := 3) sc__law_trimmed.nd rfl (by first | exact Or.inl rfl | exact Or.inr rfl)) (pgs_cons (pg_name (i := 4) sc__law_trimmed.nd rfl (by first | exact Or.inl rfl | exact Or.inr rfl)) pgs_nil)))) (pss_cons (ps_for PassesOwn.never rfl (pi_enumG (by rfl) T.n_enumerate (pa_cons (pv 1) pa_nil)) (pg_tup rfl (pgs_cons (pg_name (i := 5) sc__law_trimmed.nd rfl (by first | exact Or.inl rfl | exact Or.inr rfl)) (pgs_cons (pg_name (i := 6) sc__law_trimmed.nd rfl (by first | exact Or.inl rfl | exact Or.inr rfl)) pgs_nil))) (pss_cons (ps_expr (pe_bm PySem.F.plainAttrs_list PySem.F.slot_list_extend PySem.F.type_list_extend mt_extend (pv 3) (pa_cons (pe_callTy (call_lstD rfl) (by rfl) T.n_list (by decide +kernel) (pa_cons (pv 6) pa_nil)) pa_nil))) (pss_one (ps_expr (pe_bm PySem.F.plainAttrs_list PySem.F.slot_list_extend PySem.F.type_list_extend mt_extend (pv 4) (pa_cons (pe_op op_rep (pe_lst (pa_cons (pv 5) pa_nil)) (pe_callB (call_lenK K) (by rfl) T.n_len (by decide +kernel) (pa_cons (pv 6) pa_nil))) pa_nil)))))) (pss_cons (ps_set (i := 7) sc__law_trimmed.nd rfl (by first | exact Or.inl rfl | exact Or.inr rfl) (pe_lst pa_nil)) (pss_cons (ps_for PassesOwn.never rfl (pi_range3 (by rfl) T.n_range (pa_cons (pe_op op_sub (pe_callB (call_lenK K) (by rfl) T.n_len (by decide +kernel) (pa_cons (pv 3) pa_nil)) pe_int) (pa_cons (pe_un un_neg pe_int) (pa_cons (pe_un un_neg pe_int) pa_nil)))) (pg_name (i := 8) sc__law_trimmed.nd rfl (by first | exact Or.inl rfl | exact Or.inr rfl)) (pss_cons (ps_set (i := 9) sc__law_trimmed.nd rfl (by first | exact Or.inl rfl | exact Or.inr rfl) (pe_op op_cat (pe_lst (pa_cons (pv 2) pa_nil)) (pe_lc (own := [("one", 10)]) rfl sc__law_trimmed.nd (pi_seqK K (pv 7)) (blkOk_by (own := [("one", 10)]) (N := ["inputs", "layers", "last", "units", "homes", "depth", "layer", "stays", "at", "rows", "one", "row", "told"]) (sc := (defScope s__law_trimmed)) (by decide +kernel)) (fun _ _ _ _ _ => (pg_name (i := 10) sc__law_trimmed.nd rfl (by first | exact Or.inl rfl | exact Or.inr rfl))) (fun _ _ _ _ _ => (pts_one (pt_cmpR op_gt (pe_callB (call_lenK K) (by rfl) T.n_len (by decide +kernel) (pa_cons (pe_ix (ix_seqK K) (pv 3) (pv 10) (fun _ _ => rfl)) pa_nil)) (pe_op op_add (pv 0) (pv 8)) (nomark _)))) (fun _ _ _ _ _ => (pe_ix (ix_seqK K) (pv 3) (pv 10) (fun _ _ => rfl)))))) (pss_one (ps_if (pt_cmpR (op_neD hr.units) (pe_lc (own := [("row", 11)]) rfl sc__law_trimmed.nd (pi_seqK K (pv 9)) (blkOk_by (own := [("row", 11)]) (N := ["inputs", "layers", "last", "units", "homes", "depth", "layer", "stays", "at", "rows", "one", "row", "told"]) (sc := (defScope s__law_trimmed)) (by decide +kernel)) (fun _ _ _ _ _ => (pg_name (i := 11) sc__law_trimmed.nd rfl (by first | exact Or.inl rfl | exact Or.inr rfl))) (fun _ _ _ _ _ => (pts_one (pt_cmpR op_ne (pe_ix (ix_seqK K) (pv 11) (pe_op op_add (pv 0) (pv 8)) (fun _ _ => rfl)) pe_int (nomark _)))) (fun _ _ _ _ _ => (pv 11))) (pe_lst pa_nil) (nomark _)) (pss_one (ps_expr (pe_bm PySem.F.plainAttrs_list PySem.F.slot_list_append PySem.F.type_list_append mt_append (pv 7) (pa_cons (pv 8) pa_nil)))) pss_nil)))) (pss_cons (ps_set (i := 7) sc__law_trimmed.nd rfl (by first | exact Or.inl rfl | exact Or.inr rfl) (pe_callB cr_sortedI (by rfl) T.n_sorted (by decide +kernel) (pa_cons (pv 7) pa_nil))) (pss_cons (ps_set (i := 12) sc__law_trimmed.nd rfl (by first | exact Or.inl rfl | exact Or.inr rfl) (pe_lst pa_nil)) (pss_cons (ps_for PassesOwn.never rfl (pi_range1 (by rfl) T.n_range (pa_cons (pe_callB (call_lenK K) (by rfl) T.n_len (by decide +kernel) (pa_cons (pv 1) pa_nil)) pa_nil)) (pg_name (i := 5) sc__law_trimmed.nd rfl (by first | exact Or.inl rfl | exact Or.inr rfl)) (pss_cons (ps_setLc (own := [("at", 8)]) (i := 6) rfl sc__law_trimmed.nd rfl rfl (sw_true rfl rfl rfl (by decide +kernel)) (pi_seqK K (pv 7)) (blkOk_by (own := [("at", 8)]) (N := ["inputs", "layers", "last", "units", "homes", "depth", "layer", "stays", "at", "rows", "one", "row", "told"]) (sc := (defScope s__law_trimmed)) (by decide +kernel)) (fun _ _ _ _ _ => (pg_name (i := 8) sc__law_trimmed.nd rfl (by first | exact Or.inl rfl | exact Or.inr rfl))) (fun _ _ _ _ _ => (pts_one (pt_cmpR op_eq (pe_ix (ix_seqK K) (pv 4) (pv 8) (fun _ _ => rfl)) (pv 5) (nomark _)))) (fun _ _ _ _ _ => (pe_call G__law_left (hr.mono (by decide)) rfl T.m__law_left T.k__law_left b__law_left .nil pass0 (pa_cons (pe_ix (ix_seqK K) (pv 3) (pv 8) (fun _ _ => rfl)) (pa_cons (pv 0) (pa_cons (pv 7) pa_nil)))))) (pss_one (ps_set (i := 12) sc__law_trimmed.nd rfl (by first | exact Or.inl rfl | exact Or.inr rfl) (pe_op op_cat (pv 12) (pe_ifExp (pt_cmpR (op_neD hr.units) (pv 6) (pe_lst pa_nil) (nomark _)) (pe_lst (pa_cons (pe_callTy (call_tupK K rfl) (by rfl) T.n_tuple (by decide +kernel) (pa_cons (pv 6) pa_nil)) pa_nil)) (pe_lst pa_nil))))))) (pss_one (ps_ret (pe_tup (pa_cons (pe_callTy (call_tupK K rfl) (by rfl) T.n_tuple (by decide +kernel) (pa_cons (pv 12) pa_nil)) (pa_cons (pe_call G__law_left (hr.mono (by decide)) rfl T.m__law_left T.k__law_left b__law_left .nil pass0 (pa_cons (pv 2) (pa_cons (pv 0) (pa_cons (pv 7) pa_nil)))) pa_nil)))))))))))), sp_body h fun ss S r S' hg => ?_⟩)
  · obtain ⟨i, n, l, rfl, _⟩ := hg; rfl
  · obtain ⟨n, L, last, rfl, hw, rfl, eS⟩ := hg
    replace eS := eS.symm
    subst eS
    have hu := hw.u
    have hla := hw.la.1
    have hn8 := hw.n8
    have hl4 := hw.l4
    refine sp_pairCC (ds := []) (es := []) (en_lst ea_nil (Nat.zero_le _)) (en_lst ea_nil (Nat.zero_le _)) ?_
    refine sp_seq (P' := { nx := fun env' S2 => ∃ o1 o2, S2 = S ++ [.lst (L.flatten.map rowD)] ++ [.lst ((homF 0 L).map fun a => Dat.int (a : Nat))] ∧ env' = [some (.d (.int n)), some (.d (laysD L)), some (.d (rowD last)), some (.c S.length), some (.c (S.length + 1)), o1, o2, none, none, none, none, none, none] })
      (sp_forA (xs := L.zipIdx) (g := fun p => Dat.tup [.int (p.2 : Nat), layD p.1]) (it_enumA (ea_cons (ev_var rfl) ea_nil) .tup) (fun i env' S2 => ∃ o1 o2, S2 = S ++ [.lst ((L.take i).flatten.map rowD)] ++ [.lst ((homF 0 (L.take i)).map fun a => Dat.int (a : Nat))] ∧ env' = [some (.d (.int n)), some (.d (laysD L)), some (.d (rowD last)), some (.c S.length), some (.c (S.length + 1)), o1, o2, none, none, none, none, none, none]) ⟨none, none, rfl, rfl⟩ (fun _ _ _ _ _ _ _ _ _ => trivial) ?_ ?_) ?_
    · rintro i ⟨l, i'⟩ env' S2 ha ⟨o1, o2, rfl, rfl⟩
      obtain ⟨hl, e⟩ := zipIdx_get ha
      simp only at hl e
      subst e
      have hfl := hw.all (i' + 1)
      have hlen := flat_len_take hl
      refine ⟨[5, 6], fun env => (env.set 5 (some (.d (.int (i' : Nat))))).set 6 (some (.d (layD l))), tg_pair, ?_⟩
      refine sp_drop (ev_extend (es := l.map rowD) (ev_var rfl) (EvN.ev (en_list (ea_cons (ev_var rfl) ea_nil) .tup)) ⟨_, cc0⟩ cc0 ?_) ?_
      · rw [List.length_map, List.length_map]; exact size_1000 (by omega)
      rw [cs0, ← List.map_append, ← flat_take1 hl]
      have hh := homF_len (L.take i') 0
      refine sp_drop1 (ev_extend (es := (List.replicate l.length (Dat.int (i' : Nat)))) (ev_var rfl) ((EvN.ev (en_rep (k := (l.length : Int)) (ds := [Dat.int (i' : Nat)]) (EvN.ev (en_lst (ea_cons (ev_var rfl) ea_nil) (by show 1 ≤ sizeLine; decide))) ((ev_cb (ea_cons (ev_var rfl) ea_nil) (cd_len .tup)).to ?_) .lst ⟨by omega, by omega⟩ ?_)).to ?_) ⟨_, cc1⟩ cc1 ?_) ⟨some (.d (.int (i' : Nat))), some (.d (layD l)), ?_, rfl⟩
      · rw [List.length_map]
      · rw [Int.toNat_natCast]; exact size_1000 (by simp; omega)
      · rw [Int.toNat_natCast, rep_flat]
      · rw [List.length_map, List.length_replicate, hh]; exact size_1000 (by omega)
      · rw [cs1, homF_take hl, List.map_append, List.map_replicate]
    · rintro env' S2 ⟨o1, o2, rfl, rfl⟩
      rw [List.length_zipIdx, List.take_length]
      exact ⟨o1, o2, rfl, rfl⟩
    rintro env' S2 ⟨o1, o2, rfl, rfl⟩
    have hhom := homF_len L 0
    have hM : (mats n L last).length = L.flatten.length := matS_len ..
    have hMd : mats n L last = matS last n L.flatten := rfl
    have hst : (stF n L last).length ≤ 1000 := by
      have := idxF_len (mats n L last) 0
      unfold stF; omega
    have hstb : ∀ a ∈ stF n L last, a < L.flatten.length := fun a ha => by
      have := idxF_b (mats n L last) 0 a ha
      omega
    have hrl : ∀ a, (L.flatten.getD a []).length ≤ 1000 := fun a => by
      rw [List.getD_eq_getElem?_getD]
      by_cases ha : a < L.flatten.length
      · rw [List.getElem?_eq_getElem ha]
        have := (WL_mem L n hw.wl _ (List.getElem_mem ha)).1
        show (L.flatten[a]).length ≤ 1000
        omega
      · rw [List.getElem?_eq_none (by omega)]
        exact Nat.zero_le _
    obtain ⟨hom, hhe⟩ : ∃ hom, homF 0 L = hom := ⟨_, rfl⟩
    rw [hhe] at hhom ⊢
    obtain ⟨U, hU⟩ : ∃ U, L.flatten = U := ⟨_, rfl⟩
    rw [hU] at hu hla hhom hM hMd hstb hrl ⊢
    refine sp_setC (S1 := S ++ [.lst (U.map rowD)] ++ [.lst (hom.map fun a => Dat.int (a : Nat))]) (ds := []) (en_lst ea_nil (Nat.zero_le _)) ?_
    rw [show (S ++ [Dat.lst (U.map rowD)] ++ [Dat.lst (hom.map fun a => Dat.int (a : Nat))]).length = S.length + 2 by simp]
    refine sp_seq (P' := { nx := fun env' S2 => ∃ o3 o4, S2 = S ++ [.lst (U.map rowD)] ++ [.lst (hom.map fun a => Dat.int (a : Nat))] ++ [.lst ((stF n L last).reverse.map fun a => Dat.int (a : Nat))] ∧ env' = [some (.d (.int n)), some (.d (laysD L)), some (.d (rowD last)), some (.c S.length), some (.c (S.length + 1)), o1, o2, some (.c (S.length + 2)), o3, o4, none, none, none] })
      (sp_for (it_down (m := U.length) (ea_cons ((ev_op (ev_cb (ea_cons (ev_var rfl) ea_nil) (cd_len (.cell dd0))) ev_int o_sub).to ?_) (ea_cons (ev_un ev_int o_neg) (ea_cons (ev_un ev_int o_neg) ea_nil))) (by omega)) (fun i env' S2 => ∃ o3 o4, S2 = S ++ [.lst (U.map rowD)] ++ [.lst (hom.map fun a => Dat.int (a : Nat))] ++ [.lst ((idxF (U.length - i) (matS last (n + (U.length - i)) (U.drop (U.length - i)))).reverse.map fun a => Dat.int (a : Nat))] ∧ env' = [some (.d (.int n)), some (.d (laysD L)), some (.d (rowD last)), some (.c S.length), some (.c (S.length + 1)), o1, o2, some (.c (S.length + 2)), o3, o4, none, none, none]) ⟨none, none, ?_, rfl⟩ (fun _ _ _ _ _ _ _ _ _ => trivial) ?_ ?_) ?_
    · rw [List.length_map]
    · rw [Nat.sub_zero, List.drop_length]; rfl
    · rintro i d env' S2 hd ⟨o3, o4, rfl, rfl⟩
      have hi : i < U.length := by
        have := (List.getElem?_eq_some_iff.mp hd).1
        rwa [rngR_len] at this
      rw [rngR_get hi] at hd
      obtain ⟨q, hq⟩ : ∃ q, U.length - i = q + 1 := ⟨U.length - i - 1, by omega⟩
      have hqi : U.length - (i + 1) = q := by omega
      have hqU : q < U.length := by omega
      have ed : d = .int (q : Int) := by
        cases hd
        congr 1
        omega
      subst ed
      rw [hq, hqi]
      obtain ⟨t, ht⟩ : ∃ t, matS last (n + (q + 1)) (U.drop (q + 1)) = t := ⟨_, rfl⟩
      have htl : t.length = U.length - (q + 1) := by rw [← ht, matS_len, List.length_drop]
      have hk := keep_idx U t (q + 1) (by omega)
      have hib := idxF_b t (q + 1)
      have hil := idxF_len t (q + 1)
      have em : matS last (n + q) (U.drop q) = hit (last :: (keepRows (U.drop (q + 1)) t).reverse) (n + q) :: t := by
        rw [drop_eq hqU, matS, show n + q + 1 = n + (q + 1) by omega, ht]
      rw [ht, em, hk, ← List.map_reverse]
      have hpl : n + q < last.length := by omega
      have hhl := hit_law U last (idxF (q + 1) t).reverse (n + q) hpl
      rw [← hhl]
      have es : idxF q ((!decide ((lawRows U last (idxF (q + 1) t).reverse (n + q)).filter (fun r => !decide (r.getD (n + q) 0 = 0)) = [])) :: t) = if (!decide ((lawRows U last (idxF (q + 1) t).reverse (n + q)).filter (fun r => !decide (r.getD (n + q) 0 = 0)) = [])) = true then q :: idxF (q + 1) t else idxF (q + 1) t := rfl
      rw [es]
      have hsb : ∀ a ∈ (idxF (q + 1) t).reverse, a < U.length := fun a ha => by
        have := hib a (List.mem_reverse.mp ha); omega
      have hsl : (idxF (q + 1) t).reverse.length ≤ 128 := by rw [List.length_reverse]; omega
      generalize (idxF (q + 1) t) = sq at hsb hsl
      have hgU : ∀ a ∈ sq.reverse, U[a]? = some (U.getD a []) := fun a ha => by
        rw [List.getD_eq_getElem?_getD, List.getElem?_eq_getElem (hsb a ha)]; rfl
      have hrows : ∀ r ∈ lawRows U last sq.reverse (n + q), n + q < r.length := fun r hr => by
        unfold lawRows at hr
        rcases List.mem_cons.mp hr with rfl | hr
        · exact hpl
        · obtain ⟨a, ha, rfl⟩ := List.mem_map.mp hr
          exact of_decide_eq_true (List.mem_filter.mp ha).2
      have hrl2 : (lawRows U last sq.reverse (n + q)).length ≤ 1000 := by
        unfold lawRows
        rw [List.length_cons, List.length_map]
        have := List.length_filter_le (fun a => decide (n + q < (U.getD a []).length)) sq.reverse
        omega
      refine ⟨[8], fun env => env.set 8 (some (.d (.int q))), tg_name, ?_⟩
      refine sp_set (x := .d (.lst ((lawRows U last sq.reverse (n + q)).map rowD))) (S1 := S ++ [.lst (U.map rowD)] ++ [.lst (hom.map fun a => Dat.int (a : Nat))] ++ [.lst (sq.reverse.map fun a => Dat.int (a : Nat))]) ((EvN.ev (en_cat (ds := [rowD last]) (es := (sq.reverse.filter fun a => decide (n + q < (U.getD a []).length)).map fun a => rowD (U.getD a [])) (EvN.ev (en_lst (ea_cons (ev_var rfl) ea_nil) (by show 1 ≤ sizeLine; decide))) (EvN.ev (en_filterA (xs := sq.reverse) (g := fun a => Dat.int (a : Nat)) (is := [10]) (fun a => decide (n + q < (U.getD a []).length)) (fun a => rowD (U.getD a [])) (it_cell (ev_var rfl) dd2) (size_1000 (by omega)) (fun as _ => ⟨rfl, dd2⟩) (by decide) (fun a env => env.set 10 (some (.d (.int (a : Nat))))) fun a ha => ⟨tg_name, ?_, fun hh => ?_⟩)) .lst .lst ?_)).to ?_) ?_
      · refine et_test ((ev_op (ev_cb (ea_cons (ev_op (ev_var rfl) (ev_var rfl) (op2_ix (.cell dd0) (atI_map (hgU a ha)))) ea_nil) (cd_len .tup)) (ev_op (ev_var rfl) (ev_var rfl) o_add) o_gt).to ?_)
        rw [List.length_map]
        congr 2
        apply decide_eq_decide.mpr
        omega
      · exact ev_op (ev_var rfl) (ev_var rfl) (op2_ix (.cell dd0) (atI_map (hgU a ha)))
      · rw [List.length_map]
        have := List.length_filter_le (fun a => decide (n + q < (U.getD a []).length)) sq.reverse
        refine Nat.le_trans (?_ : _ ≤ 200) (by decide)
        show 1 + _ ≤ 200
        omega
      · unfold lawRows
        rw [List.map_cons, List.map_map]; rfl
      · refine sp_if (b := !decide ((lawRows U last sq.reverse (n + q)).filter (fun r => !decide (r.getD (n + q) 0 = 0)) = [])) (et_test ((ev_op (EvN.ev (en_filterA (xs := lawRows U last sq.reverse (n + q)) (g := rowD) (is := [11]) (fun r => !decide (r.getD (n + q) 0 = 0)) rowD (it_lst (ev_var rfl)) (size_1000 hrl2) (fun _ _ => trivial) (by decide) (fun r env => env.set 11 (some (.d (rowD r)))) fun r hr => ⟨tg_name, ?_, fun _ => ev_var rfl⟩)) (EvN.ev (en_lst (ds := ([] : List Row).map rowD) ea_nil (Nat.zero_le _))) (op2_neD (plS_d (.lst fun d hd => ?_)) (plS_d (.lst fun d hd => ?_)) (by decide : 2 ≤ 64) (by decide : 2 ≤ 64))).to ?_)) (fun hh => ?_) fun hh => ?_
        · have hlt := hrows r hr
          refine et_test (ev_op (ev_op (ev_var rfl) ((ev_op (ev_var rfl) (ev_var rfl) o_add).to (r' := .d (.int ((n + q : Nat) : Int))) (by rw [Int.natCast_add])) (op2_ix .tup (atI_map (a := r.getD (n + q) 0) ?_))) ev_int op2_ne_int)
          rw [List.getD_eq_getElem?_getD, List.getElem?_eq_getElem hlt]; rfl
        · obtain ⟨r, _, rfl⟩ := List.mem_map.mp hd
          exact pl_row r
        · cases hd
        · rw [eqD_lst rowD eq_row]
        · rw [if_pos hh]
          refine sp_drop1 (ev_append (d := .int (q : Nat)) (ev_var rfl) (ev_var rfl) ⟨_, dd2⟩ dd2 (by rw [List.length_map]; exact Nat.lt_of_le_of_lt hsl (by decide))) ⟨_, _, ?_, rfl⟩
          rw [ds2, List.reverse_cons, List.map_append]; rfl
        · rw [if_neg (by simpa using hh)]
          exact sp_next ⟨_, _, rfl, rfl⟩
    · rintro env' S2 ⟨o3, o4, rfl, rfl⟩
      rw [rngR_len]
      simp only [Nat.sub_self, List.drop_zero, Nat.add_zero]
      exact ⟨o3, o4, by unfold stF; rw [hMd], rfl⟩
    rintro env' S2 ⟨o3, o4, rfl, rfl⟩
    refine sp_set (x := .d (.lst ((stF n L last).map fun a => Dat.int (a : Nat)))) (S1 := S ++ [.lst (U.map rowD)] ++ [.lst (hom.map fun a => Dat.int (a : Nat))] ++ [.lst ((stF n L last).reverse.map fun a => Dat.int (a : Nat))]) ((ev_cb (ea_cons (ev_var rfl) ea_nil) (cd_sortedI (ns := (stF n L last).reverse.map fun a => ((a : Nat) : Int)) (ns' := (stF n L last).map fun a => ((a : Nat) : Int)) (.cell (dd2.trans ?_)) ?_ ?_)).to ?_) ?_
    · rw [List.map_map]; rfl
    · rw [List.map_reverse]; exact List.reverse_perm _
    · exact List.pairwise_map.mpr ((idxF_sorted (mats n L last) 0).imp fun {a b} h => by omega)
    · rw [List.map_map]; rfl
    refine sp_set (x := .d (.lst (([] : Lays).map layD))) (EvN.ev (en_lst ea_nil (Nat.zero_le _))) ?_
    obtain ⟨st, hst2⟩ : ∃ st, stF n L last = st := ⟨_, rfl⟩
    rw [hst2] at hst hstb ⊢
    obtain ⟨S2, hS2⟩ : ∃ S2, S ++ [.lst (U.map rowD)] ++ [.lst (hom.map fun a => Dat.int (a : Nat))] ++ [.lst (st.reverse.map fun a => Dat.int (a : Nat))] = S2 := ⟨_, rfl⟩
    have k0 : S2[S.length]? = some (.lst (U.map rowD)) := by rw [← hS2]; exact dd0
    have k1 : S2[S.length + 1]? = some (.lst (hom.map fun a => Dat.int (a : Nat))) := by rw [← hS2]; exact dd1
    have k2 : S2.take S.length = S := by rw [← hS2]; exact dtk
    rw [hS2]
    refine sp_seq (P' := { nx := fun env' S3 => ∃ o1 o2, S3 = S2 ∧ env' = [some (.d (.int n)), some (.d (laysD L)), some (.d (rowD last)), some (.c S.length), some (.c (S.length + 1)), o1, o2, some (.d (.lst (st.map fun a => Dat.int (a : Nat)))), o3, o4, none, none, some (.d (.lst ((lawTold L n st L.length).map layD)))] })
      (sp_forA (xs := List.range L.length) (g := fun i => Dat.int (0 + (i : Nat))) (it_rangeN (m := L.length) (ea_cons ((ev_cb (ea_cons (ev_var rfl) ea_nil) (cd_len .tup)).to ?_) ea_nil) (by omega)) (fun i env' S3 => ∃ o1 o2, S3 = S2 ∧ env' = [some (.d (.int n)), some (.d (laysD L)), some (.d (rowD last)), some (.c S.length), some (.c (S.length + 1)), o1, o2, some (.d (.lst (st.map fun a => Dat.int (a : Nat)))), o3, o4, none, none, some (.d (.lst ((lawTold L n st i).map layD)))]) ⟨o1, o2, rfl, rfl⟩ (fun _ _ _ _ _ _ _ _ _ => trivial) ?_ ?_) ?_
    · rw [List.length_map]
    · rintro i a env' S3 ha ⟨o5, o6, rfl, rfl⟩
      have hi : i < L.length := by
        have := (List.getElem?_eq_some_iff.mp ha).1
        rwa [List.length_range] at this
      have ea : a = i := by
        rw [List.getElem?_range hi] at ha
        exact (Option.some.inj ha).symm
      subst ea
      refine ⟨[5], fun env => env.set 5 (some (.d (.int (0 + (a : Nat))))), tg_name, ?_⟩
      have hll : (lawLayer L n st a).length ≤ 1000 := by
        unfold lawLayer
        rw [List.length_map]
        exact Nat.le_trans (List.length_filter_le _ _) hst
      refine sp_set (x := .d (.lst ((lawLayer L n st a).map rowD))) (S1 := S3) ((EvN.ev (en_filterA (xs := st) (g := fun a => Dat.int (a : Nat)) (is := [8]) (fun b => decide (hom.getD b 0 = a)) (fun b => rowD (lawLeft (U.getD b []) n st)) (it_lst (ev_var rfl)) (size_1000 hst) (fun _ _ => trivial) (by decide) (fun b env => env.set 8 (some (.d (.int (b : Nat))))) fun b hb => ⟨tg_name, ?_, fun hh => ?_⟩)).to ?_) ?_
      · have hb1 : b < hom.length := by have := hstb b hb; omega
        refine et_test ((ev_op (ev_op (ev_var rfl) (ev_var rfl) (op2_ix (.cell k1) (atI_map (a := hom.getD b 0) ?_))) (ev_var rfl) op2_eq_int).to ?_)
        · rw [List.getD_eq_getElem?_getD, List.getElem?_eq_getElem hb1]; rfl
        · congr 2
          apply decide_eq_decide.mpr
          omega
      · have hb1 := hstb b hb
        exact ev_call (ea_cons (ev_op (ev_var rfl) (ev_var rfl) (op2_ix (.cell k0) (atI_map (a := U.getD b []) (by rw [List.getD_eq_getElem?_getD, List.getElem?_eq_getElem hb1]; rfl)))) (ea_cons (ev_var rfl) (ea_cons (ev_var rfl) ea_nil))) ⟨U.getD b [], n, st, rfl, hrl b, hst, rfl, rfl⟩
      · unfold lawLayer
        rw [List.map_map, hhe, hU]; rfl
      · refine sp_set1 ((EvN.ev (en_cat (ds := (lawTold L n st a).map layD) (es := (if lawLayer L n st a = [] then [] else [lawLayer L n st a]).map layD) (ev_var rfl) (ev_if (b := !decide (lawLayer L n st a = [])) (et_test ((ev_op (ev_var rfl) (EvN.ev (en_lst (ds := ([] : List Row).map rowD) ea_nil (Nat.zero_le _))) (op2_neD (plS_d (.lst fun d hd => ?_)) (plS_d (.lst fun d hd => ?_)) (by decide : 2 ≤ 64) (by decide : 2 ≤ 64))).to ?_)) (fun hh => ?_) fun hh => ?_) .lst .lst ?_)).to (r' := .d (.lst ((lawTold L n st (a + 1)).map layD))) ?_) ⟨some (.d (.int (0 + (a : Nat)))), some (.d (.lst ((lawLayer L n st a).map rowD))), rfl, rfl⟩
        · obtain ⟨r, _, rfl⟩ := List.mem_map.mp hd
          exact pl_row r
        · cases hd
        · rw [eqD_lst rowD eq_row]
        · rw [if_neg (by simpa using hh)]
          exact EvN.ev (en_lst (ds := [layD (lawLayer L n st a)]) (ea_cons (ev_cb (ea_cons (ev_var rfl) ea_nil) (cd_tup .lst)) ea_nil) (by show 1 ≤ sizeLine; decide))
        · rw [if_pos (by simpa using hh)]
          exact EvN.ev (en_lst (ds := []) ea_nil (Nat.zero_le _))
        · have := lawTold_len L n st a
          rw [List.length_map, List.length_map]
          refine Nat.le_trans (?_ : _ ≤ 200) (by decide)
          split
          · simp; omega
          · simp; omega
        · rw [lawTold, List.map_append]
    · rintro env' S3 ⟨o5, o6, rfl, rfl⟩
      rw [List.length_range]
      exact ⟨o5, o6, rfl, rfl⟩
    · rintro env' S3 ⟨o5, o6, rfl, rfl⟩
      refine sp_ret (ev_tup (ds := [laysD (lawTold L n st L.length), rowD (lawLeft last n st)]) (ea_cons (ev_cb (ea_cons (ev_var rfl) ea_nil) (cd_tup .lst)) (ea_cons (ev_call (ea_cons (ev_var rfl) (ea_cons (ev_var rfl) (ea_cons (ev_var rfl) ea_nil))) ⟨last, n, st, rfl, by omega, hst, rfl, rfl⟩) ea_nil)) (by show 2 ≤ sizeLine; decide)) ⟨?_, k2⟩
      rw [← hst2]
end
end N21

set_option Elab.async false
set_option linter.all false
set_option maxRecDepth 100000
set_option maxHeartbeats 4000000
namespace N21
open PySem PySem.Spec PyProof.Rows L2 RW

/-! lefts -/
theorem lefts_cons (x : Int) (u : Row) (b : Bool) (kp : List Bool) : lefts (x :: u) (b :: kp) = if b = true then x :: lefts u kp else lefts u kp := by
  unfold lefts
  rw [List.zip_cons_cons, List.filter_cons]
  by_cases h : b = true
  · rw [if_pos h, if_pos h]; rfl
  · rw [if_neg h, if_neg h]
theorem lefts_nil (kp : List Bool) : lefts [] kp = [] := by unfold lefts; simp
theorem lefts_nil2 (u : Row) : lefts u [] = [] := by unfold lefts; simp
theorem lefts_rep : ∀ (n : Nat) (u : Row) (M : List Bool), lefts u (List.replicate n true ++ M) = u.take n ++ lefts (u.drop n) M
  | 0, u, M => by simp
  | n + 1, [], M => by simp [lefts_nil]
  | n + 1, x :: u, M => by
    rw [List.replicate_succ, List.cons_append, lefts_cons, if_pos rfl, lefts_rep n u M]; rfl
theorem lefts_append : ∀ (u w : Row) (kp : List Bool), u.length ≤ kp.length → lefts (u ++ w) kp = lefts u kp ++ lefts w (kp.drop u.length)
  | [], w, kp, _ => by simp [lefts_nil]
  | x :: u, w, [], h => by simp at h
  | x :: u, w, b :: kp, h => by
    have ih := lefts_append u w kp (by simpa using h)
    rw [List.cons_append, lefts_cons, lefts_cons, ih, List.length_cons, List.drop_succ_cons]
    split <;> rfl
def cnt (kp : List Bool) : Nat := kp.count true
theorem lefts_length : ∀ (u : Row) (kp : List Bool), u.length ≤ kp.length → (lefts u kp).length = cnt (kp.take u.length)
  | [], kp, _ => by simp [lefts_nil, cnt]
  | x :: u, [], h => by simp at h
  | x :: u, b :: kp, h => by
    have ih := lefts_length u kp (by simpa using h)
    unfold cnt at ih ⊢
    rw [lefts_cons, List.length_cons, List.take_succ_cons, List.count_cons]
    cases b with
    | true => rw [if_pos rfl, List.length_cons, ih]; rfl
    | false => rw [if_neg (by decide), ih]; rfl
theorem lefts_get : ∀ (u : Row) (kp : List Bool) (p : Nat), kp[p]? = some true → (lefts u kp)[cnt (kp.take p)]? = u[p]?
  | [], kp, p, h => by simp [lefts_nil]
  | x :: u, [], p, h => by simp at h
  | x :: u, b :: kp, 0, h => by
    simp at h
    subst h
    rw [lefts_cons, if_pos rfl]; rfl
  | x :: u, b :: kp, p + 1, h => by
    have ih := lefts_get u kp p (by simpa using h)
    unfold cnt at ih ⊢
    rw [lefts_cons, List.take_succ_cons, List.count_cons, List.getElem?_cons_succ]
    cases b with
    | true => rw [if_pos rfl]; simpa using ih
    | false => rw [if_neg (by decide)]; simpa using ih
theorem dot_cons (x y : Int) (u v : Row) : dot (x :: u) (y :: v) = x * y + dot u v := by
  unfold dot; rw [List.zip_cons_cons, List.map_cons, List.sum_cons]
theorem dot_nil (v : Row) : dot [] v = 0 := by unfold dot; simp
theorem dot_lefts : ∀ (u v : Row) (kp : List Bool), u.length = v.length → u.length ≤ kp.length → (∀ j, kp[j]? = some false → u.getD j 0 = 0) → dot (lefts u kp) (lefts v kp) = dot u v
  | [], v, kp, _, _, _ => by rw [lefts_nil, dot_nil, dot_nil]
  | x :: u, [], kp, h, _, _ => by simp at h
  | x :: u, y :: v, [], _, h, _ => by simp at h
  | x :: u, y :: v, b :: kp, h1, h2, h3 => by
    have ih := dot_lefts u v kp (by simpa using h1) (by simpa using h2) (fun j hj => by simpa using h3 (j + 1) (by simpa using hj))
    rw [lefts_cons, lefts_cons, dot_cons]
    cases b with
    | true => rw [if_pos rfl, if_pos rfl, dot_cons, ih]
    | false =>
      have := h3 0 rfl
      simp at this
      rw [if_neg (by decide), if_neg (by decide), ih, this]; simp
/-! keepRows, pick -/
theorem keep_cons (u : Row) (U : List Row) (b : Bool) (t : List Bool) : keepRows (u :: U) (b :: t) = if b = true then u :: keepRows U t else keepRows U t := by
  unfold keepRows
  rw [List.zip_cons_cons, List.filter_cons]
  by_cases h : b = true
  · rw [if_pos h, if_pos h]; rfl
  · rw [if_neg h, if_neg h]
theorem keep_append : ∀ (A B : List Row) (t : List Bool), A.length ≤ t.length → keepRows (A ++ B) t = keepRows A t ++ keepRows B (t.drop A.length)
  | [], B, t, _ => by simp [keepRows]
  | u :: A, B, [], h => by simp at h
  | u :: A, B, b :: t, h => by
    have ih := keep_append A B t (by simpa using h)
    rw [List.cons_append, keep_cons, keep_cons, ih, List.length_cons, List.drop_succ_cons]
    split <;> rfl
theorem keep_length : ∀ (U : List Row) (t : List Bool), U.length ≤ t.length → (keepRows U t).length = cnt (t.take U.length)
  | [], t, _ => by simp [keepRows, cnt]
  | u :: U, [], h => by simp at h
  | u :: U, b :: t, h => by
    have ih := keep_length U t (by simpa using h)
    unfold cnt at ih ⊢
    rw [keep_cons, List.length_cons, List.take_succ_cons, List.count_cons]
    cases b with
    | true => rw [if_pos rfl, List.length_cons, ih]; rfl
    | false => rw [if_neg (by decide), ih]; rfl
theorem keep_true : ∀ (U : List Row) (k : Nat), U.length ≤ k → keepRows U (List.replicate k true) = U
  | [], k, _ => by simp [keepRows]
  | u :: U, 0, h => by simp at h
  | u :: U, k + 1, h => by rw [List.replicate_succ, keep_cons, if_pos rfl, keep_true U k (by simpa using h)]
theorem lefts_true : ∀ (u : Row) (k : Nat), u.length ≤ k → lefts u (List.replicate k true) = u
  | [], k, _ => lefts_nil _
  | x :: u, 0, h => by simp at h
  | x :: u, k + 1, h => by rw [List.replicate_succ, lefts_cons, if_pos rfl, lefts_true u k (by simpa using h)]
theorem pick_keep_s (M : List Bool) (off : Nat) : ∀ (l : List Row) (s : Nat), off + s + l.length ≤ M.length → ((l.zipIdx s).filter fun p => M.getD (off + p.2) false).map (fun p => p.1) = keepRows l (M.drop (off + s))
  | [], s, _ => by simp [keepRows]
  | u :: l, s, h => by
    rw [List.length_cons] at h
    have hl : off + s < M.length := by omega
    have ih := pick_keep_s M off l (s + 1) (by omega)
    rw [List.zipIdx_cons, List.filter_cons, List.drop_eq_getElem_cons hl, keep_cons]
    have e : M.getD (off + s) false = M[off + s] := by rw [List.getD_eq_getElem?_getD, List.getElem?_eq_getElem hl]; rfl
    simp only [e]
    by_cases hb : M[off + s] = true
    · rw [if_pos hb, if_pos hb, List.map_cons, ih]; rfl
    · rw [if_neg hb, if_neg hb, ih]; rfl
theorem pick_keep {M : List Bool} {off : Nat} {l : List Row} (h : off + l.length ≤ M.length) : pick M off l = keepRows l (M.drop off) := pick_keep_s M off l 0 (by omega)
theorem trimL_flat (kp M : List Bool) : ∀ (L : Lays) (off : Nat), off + L.flatten.length ≤ M.length → (trimL kp M off L).flatten = (keepRows L.flatten (M.drop off)).map fun u => lefts u kp
  | [], off, _ => by simp [trimL, keepRows]
  | l :: L, off, h => by
    rw [List.flatten_cons, List.length_append] at h
    have ih := trimL_flat kp M L (off + l.length) (by omega)
    rw [trimL, List.flatten_append, ih, List.flatten_cons, keep_append _ _ _ (by rw [List.length_drop]; omega), List.drop_drop, List.map_append, pick_keep (by omega)]
    congr 1
    cases hk : keepRows l (M.drop off) with
    | nil => simp
    | cons a b => simp
/-! matS -/
theorem matS_drop (last : Row) : ∀ (j : Nat) (p : Nat) (U : List Row), (matS last p U).drop j = matS last (p + j) (U.drop j)
  | 0, _, _ => rfl
  | j + 1, p, [] => by simp [matS]
  | j + 1, p, u :: U => by
    rw [matS, List.drop_succ_cons, List.drop_succ_cons, matS_drop last j (p + 1) U]
    congr 1; omega
theorem mat_at {last : Row} {n : Nat} {U : List Row} {q : Nat} (h : q < U.length) : (matS last n U)[q]? = some (hit (last :: (keepRows (U.drop (q + 1)) ((matS last n U).drop (q + 1))).reverse) (n + q)) := by
  have e := matS_drop last q n U
  rw [drop_eq h, matS] at e
  have e2 := matS_drop last (q + 1) n U
  have : (matS last n U)[q]? = ((matS last n U).drop q)[0]? := by rw [List.getElem?_drop]; rfl
  rw [this, e, e2]
  rfl
theorem hit_iff {rows : List Row} {p : Nat} : hit rows p = true ↔ ∃ r ∈ rows, p < r.length ∧ r.getD p 0 ≠ 0 := by
  unfold hit
  rw [List.any_eq_true]
  constructor
  · rintro ⟨r, hr, h⟩
    simp only [Bool.and_eq_true, Bool.not_eq_true', decide_eq_true_eq, decide_eq_false_iff_not] at h
    exact ⟨r, hr, h⟩
  · rintro ⟨r, hr, h⟩
    refine ⟨r, hr, ?_⟩
    simp only [Bool.and_eq_true, Bool.not_eq_true', decide_eq_true_eq, decide_eq_false_iff_not]
    exact h
theorem hit_false {rows : List Row} {p : Nat} (h : hit rows p = false) : ∀ r ∈ rows, r.getD p 0 = 0 := fun r hr => by
  by_cases hl : p < r.length
  · by_cases hz : r.getD p 0 = 0
    · exact hz
    · rw [hit_iff.mpr ⟨r, hr, hl, hz⟩] at h; cases h
  · rw [List.getD_eq_getElem?_getD, List.getElem?_eq_none (by omega)]; rfl
theorem keep_mem : ∀ {U : List Row} {t : List Bool} {k : Nat} {u : Row}, U[k]? = some u → t[k]? = some true → u ∈ keepRows U t
  | [], _, _, _, h, _ => by simp at h
  | w :: U, [], _, _, _, h => by simp at h
  | w :: U, b :: t, 0, u, h1, h2 => by
    simp at h1 h2
    subst h1 h2
    rw [keep_cons, if_pos rfl]; exact List.mem_cons_self
  | w :: U, b :: t, k + 1, u, h1, h2 => by
    have := keep_mem (U := U) (t := t) (k := k) (u := u) (by simpa using h1) (by simpa using h2)
    rw [keep_cons]
    split
    · exact List.mem_cons_of_mem _ this
    · exact this
theorem keep_mem2 : ∀ {U : List Row} {t : List Bool} {u : Row}, u ∈ keepRows U t → ∃ k : Nat, U[k]? = some u ∧ t[k]? = some true
  | [], _, _, h => by simp [keepRows] at h
  | w :: U, [], _, h => by simp [keepRows] at h
  | w :: U, b :: t, u, h => by
    rw [keep_cons] at h
    by_cases hb : b = true
    · rw [if_pos hb] at h
      rcases List.mem_cons.mp h with rfl | h
      · exact ⟨0, rfl, by simp [hb]⟩
      · obtain ⟨k, h1, h2⟩ := keep_mem2 h
        exact ⟨k + 1, by simpa using h1, by simpa using h2⟩
    · rw [if_neg hb] at h
      obtain ⟨k, h1, h2⟩ := keep_mem2 h
      exact ⟨k + 1, by simpa using h1, by simpa using h2⟩
end N21

set_option Elab.async false
set_option linter.all false
set_option maxRecDepth 100000
set_option maxHeartbeats 4000000
namespace N21
open PySem PySem.Spec PyProof.Rows L2 RW

theorem cnt_rep (n : Nat) : cnt (List.replicate n true) = n := by unfold cnt; simp
theorem cnt_append (a b : List Bool) : cnt (a ++ b) = cnt a + cnt b := by unfold cnt; exact List.count_append ..
theorem kept_take (n : Nat) (M : List Bool) (j : Nat) : cnt ((List.replicate n true ++ M).take (n + j)) = n + cnt (M.take j) := by
  rw [List.take_append, List.take_of_length_le (by simp), List.length_replicate, Nat.add_sub_cancel_left, cnt_append, cnt_rep]
theorem kept_drop (n : Nat) (M : List Bool) (j : Nat) : (List.replicate n true ++ M).drop (n + j) = M.drop j := by
  rw [List.drop_append, List.drop_eq_nil_of_le (by simp), List.length_replicate, Nat.add_sub_cancel_left]; rfl
theorem mat_zero {last : Row} {n : Nat} {U : List Row} {q : Nat} (h : (matS last n U)[q]? = some false) : last.getD (n + q) 0 = 0 ∧ ∀ k u, U[k]? = some u → (matS last n U)[k]? = some true → q < k → u.getD (n + q) 0 = 0 := by
  have hq : q < U.length := by
    have := (List.getElem?_eq_some_iff.mp h).1
    rwa [matS_len] at this
  rw [mat_at hq] at h
  have hz := hit_false (Option.some.inj h)
  refine ⟨hz _ List.mem_cons_self, fun k u h1 h2 hk => hz _ (List.mem_cons_of_mem _ (List.mem_reverse.mpr (keep_mem (k := k - (q + 1)) ?_ ?_)))⟩
  · rw [List.getElem?_drop, show q + 1 + (k - (q + 1)) = k by omega]; exact h1
  · rw [List.getElem?_drop, show q + 1 + (k - (q + 1)) = k by omega]; exact h2
theorem kept_false {n : Nat} {M : List Bool} {j : Nat} (h : (List.replicate n true ++ M)[j]? = some false) : n ≤ j ∧ M[j - n]? = some false := by
  by_cases hj : j < n
  · rw [List.getElem?_append_left (by simpa using hj), List.getElem?_replicate, if_pos hj] at h; cases h
  · rw [List.getElem?_append_right (by simp; omega), List.length_replicate] at h
    exact ⟨by omega, h⟩
theorem zero_unit {last : Row} {n : Nat} {U : List Row} {k : Nat} {u : Row} (h1 : U[k]? = some u) (h2 : (matS last n U)[k]? = some true) (hl : u.length ≤ n + k) : ∀ j, (List.replicate n true ++ matS last n U)[j]? = some false → u.getD j 0 = 0 := fun j hj => by
  obtain ⟨a, b⟩ := kept_false hj
  by_cases hk : j - n < k
  · have := (mat_zero b).2 k u h1 h2 hk
    rwa [show n + (j - n) = j by omega] at this
  · rw [List.getD_eq_getElem?_getD, List.getElem?_eq_none (by omega)]; rfl
theorem zero_last {last : Row} {n : Nat} {U : List Row} : ∀ j, (List.replicate n true ++ matS last n U)[j]? = some false → last.getD j 0 = 0 := fun j hj => by
  obtain ⟨a, b⟩ := kept_false hj
  have := (mat_zero b).1
  rwa [show n + (j - n) = j by omega] at this
theorem lefts_map (f : Row → Int) : ∀ (l : List Row) (t : List Bool), lefts (l.map f) t = (keepRows l t).map f
  | [], t => by simp [lefts, keepRows]
  | u :: l, [] => by simp [lefts, keepRows]
  | u :: l, b :: t => by
    rw [List.map_cons, lefts_cons, keep_cons, lefts_map f l t]
    split <;> rfl
theorem vals_append (A B : Lays) (V : Row) : vals (A ++ B) V = vals B (vals A V) := List.foldl_append ..
theorem vals_tr {last : Row} {n : Nat} {U : List Row} : ∀ (L : Lays) (off : Nat) (V : Row), WL (n + off) L → U.drop off = L.flatten → off ≤ U.length → V.length = n + off →
    vals (trimL (List.replicate n true ++ matS last n U) (matS last n U) off L) (lefts V (List.replicate n true ++ matS last n U)) = lefts (vals L V) (List.replicate n true ++ matS last n U)
  | [], off, V, _, _, _, _ => rfl
  | l :: L, off, V, hw, hU, ho, hV => by
    have hUl : off + l.length + L.flatten.length = U.length := by
      have := congrArg List.length hU
      rw [List.length_drop, List.flatten_cons, List.length_append] at this
      omega
    have hM : (matS last n U).length = U.length := matS_len ..
    have ih := vals_tr (last := last) L (off + l.length) (V ++ l.map fun u => max 0 (dot u V)) (by rw [← Nat.add_assoc]; exact hw.2) (by rw [← List.drop_drop, hU, List.flatten_cons, List.drop_left]) (by omega) (by rw [List.length_append, List.length_map, hV]; omega)
    rw [trimL, vals_append]
    show _ = lefts (vals L (V ++ l.map fun u => max 0 (dot u V))) _
    rw [← ih]
    congr 1
    have e1 : vals (if (pick (matS last n U) off l).isEmpty then [] else [(pick (matS last n U) off l).map fun u => lefts u (List.replicate n true ++ matS last n U)]) (lefts V (List.replicate n true ++ matS last n U)) = lefts V (List.replicate n true ++ matS last n U) ++ (pick (matS last n U) off l).map (fun u => max 0 (dot (lefts u (List.replicate n true ++ matS last n U)) (lefts V (List.replicate n true ++ matS last n U)))) := by
      cases pick (matS last n U) off l with
      | nil => simp [vals]
      | cons a b => simp [vals]
    rw [e1, lefts_append _ _ _ (by rw [List.length_append, List.length_replicate, hM, hV]; omega), hV, kept_drop, lefts_map, pick_keep (by omega)]
    congr 1
    refine List.map_congr_left fun u hu => ?_
    obtain ⟨k, h1, h2⟩ := keep_mem2 hu
    have hk : k < l.length := (List.getElem?_eq_some_iff.mp h1).1
    have hUk : U[off + k]? = some u := by
      have : (U.drop off)[k]? = some u := by rw [hU, List.flatten_cons, List.getElem?_append_left hk]; exact h1
      rwa [List.getElem?_drop] at this
    rw [List.getElem?_drop] at h2
    have hul := (hw.1.2.2 u (List.mem_of_getElem? h1)).1
    rw [dot_lefts u V _ (by rw [hul, hV]) (by rw [List.length_append, List.length_replicate, hM]; omega) (zero_unit hUk h2 (by omega))]
theorem tr_value {n : Nat} {L : Lays} {last row : Row} (hw : Wf n L last) (hr : row.length = n) : dot (trR n L last) (vals (trL n L last) row) = dot last (vals L row) := by
  have hM : (mats n L last).length = L.flatten.length := matS_len ..
  have e := vals_tr (last := last) (n := n) (U := L.flatten) L 0 row hw.wl rfl (Nat.zero_le _) hr
  have e0 : lefts row (List.replicate n true ++ matS last n L.flatten) = row := by
    rw [lefts_rep, List.take_of_length_le (by omega), List.drop_eq_nil_of_le (by omega), lefts_nil, List.append_nil]
  rw [e0] at e
  show dot (lefts last _) (vals (trimL _ _ 0 L) row) = _
  unfold kept mats
  rw [e]
  have hv := vals_len L row
  have := hw.la.1
  exact dot_lefts _ _ _ (by rw [hv, hr]; exact this) (by rw [List.length_append, List.length_replicate, matS_len]; omega) zero_last
theorem WL_tr {n : Nat} {M : List Bool} : ∀ (L : Lays) (off : Nat), WL (n + off) L → off + L.flatten.length ≤ M.length → WL (n + cnt (M.take off)) (trimL (List.replicate n true ++ M) M off L)
  | [], _, _, _ => trivial
  | l :: L, off, hw, hl => by
    rw [List.flatten_cons, List.length_append] at hl
    have ih := WL_tr (M := M) L (off + l.length) (by rw [← Nat.add_assoc]; exact hw.2) (by omega)
    have hp : (pick M off l).length = cnt ((M.drop off).take l.length) := by
      rw [pick_keep (l := l) (by omega), keep_length l _ (by rw [List.length_drop]; omega)]
    have hc : cnt (M.take (off + l.length)) = cnt (M.take off) + (pick M off l).length := by rw [List.take_add, cnt_append, hp]
    rw [trimL]
    by_cases he : (pick M off l).isEmpty = true
    · rw [if_pos he, List.nil_append]
      have : (pick M off l).length = 0 := by simpa using he
      rwa [hc, this, Nat.add_zero] at ih
    · rw [if_neg he]
      refine ⟨⟨?_, ?_, fun w hw' => ?_⟩, ?_⟩
      · rw [List.length_map]
        cases h : pick M off l with
        | nil => rw [h] at he; simp at he
        | cons a b => simp
      · rw [List.length_map]
        exact Nat.le_trans (pick_len M off l) hw.1.2.1
      · obtain ⟨u, hu, rfl⟩ := List.mem_map.mp hw'
        obtain ⟨h1, h2⟩ := hw.1.2.2 u (pick_mem hu)
        refine ⟨?_, fun x hx => h2 x (lefts_mem hx)⟩
        rw [lefts_length u _ (by rw [List.length_append, List.length_replicate]; omega), h1, kept_take]
      · show WL (n + cnt (M.take off) + ((pick M off l).map _).length) (trimL _ M (off + l.length) L)
        rw [List.length_map, Nat.add_assoc, ← hc]
        exact ih
theorem tr_flat (n : Nat) (L : Lays) (last : Row) : (trL n L last).flatten = (keepRows L.flatten (mats n L last)).map fun u => lefts u (kept n L last) := by
  unfold trL
  rw [trimL_flat _ _ _ _ (by unfold mats; rw [matS_len]; omega)]; rfl
theorem tr_ok {n : Nat} {L : Lays} {last : Row} (hw : Wf n L last) : Wf n (trL n L last) (trR n L last) := by
  have hM : (mats n L last).length = L.flatten.length := matS_len ..
  have hf : (trL n L last).flatten.length = cnt (mats n L last) := by
    rw [tr_flat, List.length_map, keep_length _ _ (by omega), List.take_of_length_le (by omega)]
  refine ⟨hw.n1, hw.n8, Nat.le_trans (trimL_len _ _ _ _) hw.l4, ?_, ?_, ?_, fun x hx => hw.la.2 x (lefts_mem hx)⟩
  · have := WL_tr (n := n) (M := mats n L last) L 0 hw.wl (by omega)
    rwa [List.take_zero] at this
  · rw [tr_flat, List.length_map]
    exact Nat.le_trans (keepRows_len _ _) hw.u
  · unfold trR kept
    rw [lefts_length _ _ (by rw [List.length_append, List.length_replicate, hM]; exact Nat.le_of_eq hw.la.1), hw.la.1, hf, kept_take, ← hM, List.take_length]
theorem mats_tr_s {n : Nat} {U : List Row} {last : Row} : ∀ (d j : Nat), j + d = U.length →
    matS (lefts last (List.replicate n true ++ matS last n U)) (n + cnt ((matS last n U).take j)) ((keepRows (U.drop j) ((matS last n U).drop j)).map fun u => lefts u (List.replicate n true ++ matS last n U)) = List.replicate (keepRows (U.drop j) ((matS last n U).drop j)).length true
  | 0, j, h => by rw [List.drop_eq_nil_of_le (by omega)]; rfl
  | d + 1, j, h => by
    have ih := mats_tr_s (n := n) (U := U) (last := last) d (j + 1) (by omega)
    have hM : (matS last n U).length = U.length := matS_len ..
    have hj : j < U.length := by omega
    have hjM : j < (matS last n U).length := by omega
    have hat := mat_at (last := last) (n := n) hj
    rw [List.getElem?_eq_getElem hjM] at hat
    have hat := Option.some.inj hat
    rw [drop_eq hj, List.drop_eq_getElem_cons hjM, keep_cons]
    have hct : cnt ((matS last n U).take (j + 1)) = cnt ((matS last n U).take j) + cnt [(matS last n U)[j]] := by
      rw [List.take_succ_eq_append_getElem hjM, cnt_append]
    by_cases hb : (matS last n U)[j] = true
    · rw [if_pos hb, List.map_cons, matS, List.length_cons, List.replicate_succ]
      have h1 : cnt [(matS last n U)[j]] = 1 := by rw [hb]; rfl
      rw [hct, h1, ← Nat.add_assoc] at ih
      rw [ih, keep_true _ _ (by rw [List.length_map]; exact Nat.le_refl _)]
      congr 1
      rw [hb] at hat
      obtain ⟨r, hr, hrl, hrz⟩ := hit_iff.mp hat.symm
      have hkp : (List.replicate n true ++ matS last n U)[n + j]? = some true := by
        rw [List.getElem?_append_right (by simp), List.length_replicate, Nat.add_sub_cancel_left, List.getElem?_eq_getElem hjM, hb]
      have hg := lefts_get r _ (n + j) hkp
      rw [kept_take, List.getElem?_eq_getElem hrl] at hg
      have hg' := List.getElem?_eq_some_iff.mp hg
      refine hit_iff.mpr ⟨lefts r (List.replicate n true ++ matS last n U), ?_, hg'.1, ?_⟩
      · rcases List.mem_cons.mp hr with rfl | hr
        · exact List.mem_cons_self
        · exact List.mem_cons_of_mem _ (List.mem_reverse.mpr (List.mem_map_of_mem (List.mem_reverse.mp hr)))
      · rw [List.getD_eq_getElem?_getD, hg]
        rw [List.getD_eq_getElem?_getD, List.getElem?_eq_getElem hrl] at hrz
        exact hrz
    · rw [if_neg hb]
      have h1 : cnt [(matS last n U)[j]] = 0 := by
        cases e : (matS last n U)[j] with
        | true => exact absurd e hb
        | false => rfl
      rw [hct, h1, Nat.add_zero] at ih
      exact ih
theorem mats_tr (n : Nat) (L : Lays) (last : Row) : mats n (trL n L last) (trR n L last) = List.replicate (trL n L last).flatten.length true := by
  have := mats_tr_s (n := n) (U := L.flatten) (last := last) L.flatten.length 0 (by omega)
  unfold mats
  rw [tr_flat, List.length_map]
  exact this
theorem trimL_all (k : Nat) (w : Nat) : ∀ (L : Lays) (off : Nat), off + L.flatten.length ≤ k → (∀ l ∈ L, l ≠ []) → (∀ u ∈ L.flatten, u.length ≤ w) → trimL (List.replicate w true) (List.replicate k true) off L = L
  | [], _, _, _, _ => rfl
  | l :: L, off, h, hne, hu => by
    rw [List.flatten_cons, List.length_append] at h
    have ih := trimL_all k w L (off + l.length) (by omega) (fun m hm => hne m (List.mem_cons_of_mem _ hm)) (fun u h => hu u (by rw [List.flatten_cons]; exact List.mem_append_right _ h))
    have hp : pick (List.replicate k true) off l = l := by
      rw [pick_keep (by rw [List.length_replicate]; omega), List.drop_replicate, keep_true _ _ (by omega)]
    rw [trimL, ih, hp, if_neg (by simpa using hne l List.mem_cons_self)]
    have : l.map (fun u => lefts u (List.replicate w true)) = l := by
      conv => rhs; rw [← List.map_id l]
      exact List.map_congr_left fun u h => lefts_true u w (hu u (by rw [List.flatten_cons]; exact List.mem_append_left _ h))
    rw [this]; rfl
theorem WL_ne : ∀ {L : Lays} {w : Nat}, WL w L → ∀ l ∈ L, l ≠ []
  | [], _, _, l, h => by simp at h
  | m :: L, w, hw, l, h => by
    rcases List.mem_cons.mp h with rfl | h
    · intro e
      have := hw.1.1
      rw [e] at this
      simp at this
    · exact WL_ne hw.2 l h
theorem tr_tr {n : Nat} {L : Lays} {last : Row} (hw : Wf n L last) : trL n (trL n L last) (trR n L last) = trL n L last ∧ trR n (trL n L last) (trR n L last) = trR n L last := by
  have ho := tr_ok hw
  have hm := mats_tr n L last
  have hk : kept n (trL n L last) (trR n L last) = List.replicate (n + (trL n L last).flatten.length) true := by
    unfold kept
    rw [hm, List.replicate_append_replicate]
  constructor
  · show trimL (kept n (trL n L last) (trR n L last)) (mats n (trL n L last) (trR n L last)) 0 (trL n L last) = _
    rw [hk, hm]
    exact trimL_all _ _ _ _ (by omega) (WL_ne ho.wl) fun u hu => (WL_mem _ _ ho.wl u hu).1
  · show lefts (trR n L last) (kept n (trL n L last) (trR n L last)) = _
    rw [hk]
    exact lefts_true _ _ (Nat.le_of_eq ho.la.1)
end N21

set_option Elab.async false
set_option linter.all false
set_option maxRecDepth 100000
set_option maxHeartbeats 4000000
namespace N21
open PySem PySem.Spec PyProof.Rows L2 RW

theorem idxF_cons (j : Nat) (b : Bool) (t : List Bool) : idxF j (b :: t) = if b = true then j :: idxF (j + 1) t else idxF (j + 1) t := rfl
theorem left_idx (R : Row) (n : Nat) : ∀ (M : List Bool) (j : Nat), ((idxF j M).filter fun a => decide (n + a < R.length)).map (fun a => R.getD (n + a) 0) = lefts (R.drop (n + j)) M
  | [], j => by simp [idxF, lefts_nil2]
  | b :: t, j => by
    by_cases h : n + j < R.length
    · have ih := left_idx R n t (j + 1)
      have e : R.getD (n + j) 0 = R[n + j] := by rw [List.getD_eq_getElem?_getD, List.getElem?_eq_getElem h]; rfl
      rw [List.drop_eq_getElem_cons h, lefts_cons, show n + j + 1 = n + (j + 1) by omega, ← ih, idxF_cons]
      by_cases hb : b = true
      · rw [if_pos hb, if_pos hb, List.filter_cons, if_pos (by simpa using h), List.map_cons, e]
      · rw [if_neg hb, if_neg hb]
    · rw [List.drop_eq_nil_of_le (by omega), lefts_nil, List.filter_eq_nil_iff.mpr fun a ha => ?_, List.map_nil]
      have := (idxF_b (b :: t) j a ha).1
      simp; omega
theorem lawLeft_eq (R : Row) (n : Nat) (M : List Bool) : lawLeft R n (idxF 0 M) = lefts R (List.replicate n true ++ M) := by
  unfold lawLeft
  rw [lefts_rep, left_idx R n M 0, Nat.add_zero]
theorem idxF_append : ∀ (A B : List Bool) (j : Nat), idxF j (A ++ B) = idxF j A ++ idxF (j + A.length) B
  | [], B, j => by simp [idxF]
  | a :: A, B, j => by
    rw [List.cons_append]
    rw [idxF_cons, idxF_cons, idxF_append A B (j + 1), List.length_cons, show j + 1 + A.length = j + (A.length + 1) by omega]
    split <;> rfl
theorem homF_b : ∀ (A : Lays) (e : Nat), ∀ x ∈ homF e A, e ≤ x ∧ x < e + A.length
  | [], _, x, h => by simp [homF] at h
  | l :: A, e, x, h => by
    rw [homF] at h
    rw [List.length_cons]
    rcases List.mem_append.mp h with h | h
    · have := List.eq_of_mem_replicate h
      omega
    · have := homF_b A (e + 1) x h
      omega
theorem homF_append : ∀ (A B : Lays) (e : Nat), homF e (A ++ B) = homF e A ++ homF (e + A.length) B
  | [], B, e => by simp [homF]
  | a :: A, B, e => by
    rw [List.cons_append, homF, homF_append A B (e + 1), homF, List.append_assoc, List.length_cons, show e + 1 + A.length = e + (A.length + 1) by omega]
theorem keep_idx' (U : List Row) : ∀ (t : List Bool) (j : Nat), j + t.length ≤ U.length → keepRows (U.drop j) t = (idxF j t).map fun a => U.getD a []
  | [], j, h => by simp [keepRows, idxF]
  | b :: t, j, h => by
    rw [List.length_cons] at h
    have hj : j < U.length := by omega
    have ih := keep_idx' U t (j + 1) (by omega)
    rw [drop_eq hj, keep_cons, ih, idxF_cons]
    by_cases hb : b = true
    · rw [if_pos hb, if_pos hb, List.map_cons]
      congr 1
      rw [List.getD_eq_getElem?_getD, List.getElem?_eq_getElem hj]; rfl
    · rw [if_neg hb, if_neg hb]
theorem keep_take : ∀ (l R : List Row) (t : List Bool), l.length ≤ t.length → keepRows (l ++ R) (t.take l.length) = keepRows l t
  | [], R, t, _ => by simp [keepRows]
  | u :: l, R, [], h => by simp at h
  | u :: l, R, b :: t, h => by
    rw [List.cons_append, List.length_cons, List.take_succ_cons, keep_cons, keep_cons, keep_take l R t (by simpa using h)]
theorem law_filter {L : Lays} {M : List Bool} {d : Nat} {l : List Row} (hM : M.length = L.flatten.length) (hl : L[d]? = some l) :
    (idxF 0 M).filter (fun a => decide ((homF 0 L).getD a 0 = d)) = idxF (L.take d).flatten.length ((M.drop (L.take d).flatten.length).take l.length) := by
  obtain ⟨hd, el⟩ := List.getElem?_eq_some_iff.mp hl
  obtain ⟨off, ho⟩ : ∃ off, (L.take d).flatten.length = off := ⟨_, rfl⟩
  rw [ho]
  have hL : L = L.take d ++ (l :: L.drop (d + 1)) := by
    conv => lhs; rw [← List.take_append_drop d L, List.drop_eq_getElem_cons hd, el]
  have hlen : L.flatten.length = off + (l.length + (L.drop (d + 1)).flatten.length) := by
    conv => lhs; rw [hL]
    rw [List.flatten_append, List.length_append, List.flatten_cons, List.length_append, ho]
  have hh : homF 0 L = homF 0 (L.take d) ++ (List.replicate l.length d ++ homF (d + 1) (L.drop (d + 1))) := by
    conv => lhs; rw [hL]
    rw [homF_append, homF, List.length_take, Nat.zero_add, Nat.min_eq_left (by omega)]
  have h1 : (homF 0 (L.take d)).length = off := by rw [homF_len, ho]
  have h3 : (homF (d + 1) (L.drop (d + 1))).length = (L.drop (d + 1)).flatten.length := homF_len ..
  have hMs : M = M.take off ++ ((M.drop off).take l.length ++ (M.drop off).drop l.length) := by
    rw [List.take_append_drop, List.take_append_drop]
  have l1 : (M.take off).length = off := by rw [List.length_take]; omega
  have l2 : ((M.drop off).take l.length).length = l.length := by rw [List.length_take, List.length_drop]; omega
  have l3 : ((M.drop off).drop l.length).length = (L.drop (d + 1)).flatten.length := by rw [List.length_drop, List.length_drop]; omega
  have e : idxF 0 M = idxF 0 (M.take off) ++ (idxF off ((M.drop off).take l.length) ++ idxF (off + l.length) ((M.drop off).drop l.length)) := by
    conv => lhs; rw [hMs]
    rw [idxF_append, idxF_append, l1, l2, Nat.zero_add]
  rw [e, List.filter_append, List.filter_append, hh]
  have f1 : (idxF 0 (M.take off)).filter (fun a => decide ((homF 0 (L.take d) ++ (List.replicate l.length d ++ homF (d + 1) (L.drop (d + 1)))).getD a 0 = d)) = [] := by
    refine List.filter_eq_nil_iff.mpr fun a ha => ?_
    have hb := idxF_b _ _ a ha
    rw [l1] at hb
    have hal : a < (homF 0 (L.take d)).length := by omega
    rw [List.getD_eq_getElem?_getD, List.getElem?_append_left hal, List.getElem?_eq_getElem hal]
    have := (homF_b _ _ _ (List.getElem_mem hal)).2
    rw [List.length_take] at this
    simp only [Option.getD_some, decide_eq_true_eq]
    omega
  have f2 : (idxF off ((M.drop off).take l.length)).filter (fun a => decide ((homF 0 (L.take d) ++ (List.replicate l.length d ++ homF (d + 1) (L.drop (d + 1)))).getD a 0 = d)) = idxF off ((M.drop off).take l.length) := by
    refine List.filter_eq_self.mpr fun a ha => ?_
    have hb := idxF_b _ _ a ha
    rw [l2] at hb
    rw [List.getD_eq_getElem?_getD, List.getElem?_append_right (by omega), List.getElem?_append_left (by rw [List.length_replicate]; omega), List.getElem?_replicate, if_pos (by omega)]
    simp
  have f3 : (idxF (off + l.length) ((M.drop off).drop l.length)).filter (fun a => decide ((homF 0 (L.take d) ++ (List.replicate l.length d ++ homF (d + 1) (L.drop (d + 1)))).getD a 0 = d)) = [] := by
    refine List.filter_eq_nil_iff.mpr fun a ha => ?_
    have hb := idxF_b _ _ a ha
    rw [l3] at hb
    have hal : a - (homF 0 (L.take d)).length - (List.replicate l.length d).length < (homF (d + 1) (L.drop (d + 1))).length := by rw [List.length_replicate]; omega
    rw [List.getD_eq_getElem?_getD, List.getElem?_append_right (by omega), List.getElem?_append_right (by rw [List.length_replicate]; omega), List.getElem?_eq_getElem hal]
    have := (homF_b _ _ _ (List.getElem_mem hal)).1
    simp only [Option.getD_some, decide_eq_true_eq]
    omega
  rw [f1, f2, f3, List.append_nil, List.nil_append]
theorem law_layer {n : Nat} {L : Lays} {last : Row} {d : Nat} {l : List Row} (hl : L[d]? = some l) :
    lawLayer L n (stF n L last) d = (pick (mats n L last) (L.take d).flatten.length l).map fun u => lefts u (kept n L last) := by
  have hM : (mats n L last).length = L.flatten.length := matS_len ..
  have hfl := flat_len_take hl
  have hfl2 : (L.take (d + 1)).flatten.length ≤ L.flatten.length := by
    conv => rhs; rw [← List.take_append_drop (d + 1) L, List.flatten_append, List.length_append]
    omega
  have hU : L.flatten.drop (L.take d).flatten.length = l ++ (L.drop (d + 1)).flatten := by
    obtain ⟨hd, el⟩ := List.getElem?_eq_some_iff.mp hl
    have : L.flatten = (L.take d).flatten ++ (l ++ (L.drop (d + 1)).flatten) := by
      conv => lhs; rw [← List.take_append_drop d L, List.drop_eq_getElem_cons hd, el, List.flatten_append, List.flatten_cons]
    conv => lhs; rw [this]
    rw [List.drop_left]
  unfold lawLayer stF
  rw [law_filter hM hl]
  have hk := keep_idx' L.flatten (((mats n L last).drop (L.take d).flatten.length).take l.length) (L.take d).flatten.length (by rw [List.length_take, List.length_drop]; omega)
  rw [hU, keep_take _ _ _ (by rw [List.length_drop]; omega), ← pick_keep (by omega)] at hk
  rw [hk, List.map_map]
  refine List.map_congr_left fun a _ => ?_
  exact lawLeft_eq _ _ _
theorem lawTold_eq (n : Nat) (L : Lays) (last : Row) : ∀ d, d ≤ L.length → lawTold L n (stF n L last) d = trimL (kept n L last) (mats n L last) 0 (L.take d)
  | 0, _ => by rw [List.take_zero]; rfl
  | d + 1, h => by
    have hl : L[d]? = some L[d] := List.getElem?_eq_getElem (by omega)
    rw [lawTold, lawTold_eq n L last d (by omega), trimL_take _ _ hl, law_layer hl]
    congr 1
    cases pick (mats n L last) (L.take d).flatten.length L[d] with
    | nil => rfl
    | cons a b => simp
theorem law_tr (n : Nat) (L : Lays) (last : Row) : lawTold L n (stF n L last) L.length = trL n L last ∧ lawLeft last n (stF n L last) = trR n L last := by
  constructor
  · rw [lawTold_eq n L last _ (Nat.le_refl _), List.take_length]; rfl
  · exact lawLeft_eq _ _ _
end N21

set_option Elab.async false
set_option linter.all false
set_option maxRecDepth 100000
set_option maxHeartbeats 4000000
namespace N21
open PySem PySem.Spec PyProof.Rows L2 RW

/-! the vat -/
def cellF (ns : List Int) (i : Nat) : Int := if i < ns.length then ns.getD i 0 else 439 * (i : Nat) + 197
def big : Int := (10 ^ (57 : Int).toNat) ^ (6 : Int).toNat
def greatF (ns : List Int) (i : Nat) : Int := ((cellF ns i).natAbs : Int) % big
def vatF (ns : List Int) (i : Nat) : Vt := (max 0 (greatF ns i - 10 ^ (16 : Int).toNat), greatF ns i % 2147483477 * 269 + 587 * (i : Nat) + 37 * b2i (decide (cellF ns i < 0)) + 9, 0)
theorem big_pos : 0 < big := by unfold big; decide +kernel
def gVat (ss : List Sl) (S : List Dat) (r : List Dat) (S' : List Dat) : Prop := ∃ (ns : List Int) (i : Nat), ss = [.d (.scr ns), .d (.int i)] ∧ r = [.int (vatF ns i).1, .int (vatF ns i).2.1, .int (vatF ns i).2.2] ∧ S' = S
theorem op2_ixS {K : PySem.W.Frag} {S : List Dat} {ns : List Int} {i : Int} {u : Int} (h : atI (ns.map V.int) i = some (V.int u)) : Op2 K (rIx K) (.d (.scr ns)) (.d (.int i)) S (.int u) := fun B H as v w c h1 h2 Q q => by
  cases h2
  cases h1 with
  | scr h1 => exact .inl ⟨_, _, i, _, rfl, rfl, Evl.ex_l c.ex h1, h, q _ B H c Evo.refl (.int u)⟩
theorem raw_set {K : PySem.W.Frag} {te : TE} {env : Env1} {S S1 : List Dat} {x : Sl} {i : Nat} {u : TS} {D : Ends} {B H : Hp} {as : List Addr} {σ : L2.St} (h : Ev K te env S x S1) (c : Ok K B H as S) (g : EnvR K B as σ env)
    (q : ∀ B1 H1 v, Ok K B1 H1 as S1 → Evo B H as B1 H1 → EnvR K B1 as (σ.set i (some v)) (env.set i (some x)) → u D (σ.set i (some v)) H1) : tSeq (tAsg te (gName i)) u D σ H :=
  h B H as σ c g _ fun v B1 H1 c1 e1 r1 => q B1 H1 v c1 e1 ((g.mono e1.ex).set i r1)
theorem raw_retN {K : PySem.W.Frag} {te : TE} {env : Env1} {S S1 ds : List Dat} {D : Ends} {B H : Hp} {as : List Addr} {σ : L2.St} (h : EvN K te env S ds S1) (c : Ok K B H as S) (g : EnvR K B as σ env)
    (q : ∀ p B' H' vs, Ok K B' H' as S1 → Evo B H as B' H' → H p = none → B' p = none → H' p = some (.lst vs) → Reps K B' vs ds → D.rt (.ref p) H') : tRet te D σ H := h B H as σ c g _ q
section
variable {P : Program} {w : World} {K : PySem.W.Frag} {mg : Str → Option Value} {base : Heap}

theorem ok__law_vat (T : Txt K mg) : FnOk P w K mg base CX0 1 T.a__law_vat T.d__law_vat ["script", "spot"] (SpN K gVat) := by
  refine T.F__law_vat.ok sc__law_vat (spn_len (k := 2) fun ss S r S' hg => ?_) (fun cdv A outer s H vs Q E hr h => ⟨_, (pss_cons (ps_set (i := 2) sc__law_vat.nd rfl (by first | exact Or.inl rfl | exact Or.inr rfl) (pe_ifExp (pt_cmpR op_lt (pv 1) (pe_callB (call_lenK K) (by rfl) T.n_len (by decide +kernel) (pa_cons (pv 0) pa_nil)) (nomark _)) (pe_callTy call_intD (by rfl) T.n_int (by decide +kernel) (pa_cons (pe_ix (ix_seqK K) (pv 0) (pv 1) (fun _ _ => rfl)) pa_nil)) (pe_op op_add (pe_op op_mul pe_int (pv 1)) pe_int))) (pss_cons (ps_set (i := 3) sc__law_vat.nd rfl (by first | exact Or.inl rfl | exact Or.inr rfl) (pe_op op_mod (pe_callTy call_intD (by rfl) T.n_int (by decide +kernel) (pa_cons (pe_callB call_absD (by rfl) T.n_abs (by decide +kernel) (pa_cons (pv 2) pa_nil)) pa_nil)) (pe_op op_powW (pe_op op_powW pe_int pe_int) pe_int))) (pss_one (ps_ret (pe_lst (pa_cons (pe_callB (call_max2D rfl) (by rfl) T.n_max (by decide +kernel) (pa_cons pe_int (pa_cons (pe_op op_sub (pv 3) (pe_op op_powW pe_int pe_int)) pa_nil))) (pa_cons (pe_op op_add (pe_op op_add (pe_op op_add (pe_op op_mul (pe_op op_mod (pe_callTy call_intD (by rfl) T.n_int (by decide +kernel) (pa_cons (pv 3) pa_nil)) pe_int) pe_int) (pe_op op_mul pe_int (pv 1))) (pe_op op_mul pe_int (pe_callTy call_intD (by rfl) T.n_int (by decide +kernel) (pa_cons (pe_cmpR op_lt (pv 2) pe_int (nomark _)) pa_nil)))) pe_int) (pa_cons pe_int pa_nil)))))))), ?_⟩)
  · obtain ⟨i, n, rfl, _⟩ := hg; rfl
  · obtain ⟨B, as, S, ss, r, S', c, rs, ⟨ns, i, rfl, rfl, rfl⟩, q⟩ := h
    have g := EnvR.start (N := ["script", "spot", "cell", "great"]) rs
    refine raw_set (x := .d (.int (cellF ns i))) (S1 := S') (ev_if (b := decide ((i : Int) < ns.length)) (S1 := S') (et_test (ev_op (ev_var rfl) (ev_cb (ea_cons (ev_var rfl) ea_nil) cd_lenS) o_lt)) (fun hh => ?_) fun hh => ?_) c g fun B1 H1 v c1 x1 g1 => ?_
    · have hlt : i < ns.length := by have := of_decide_eq_true hh; omega
      refine (ev_cb (ea_cons (ev_op (ev_var rfl) (ev_var rfl) (op2_ixS (u := ns.getD i 0) ?_)) ea_nil) cd_int).to ?_
      · rw [atI_nat (by rw [List.length_map]; exact hlt), List.getElem_map, List.getD_eq_getElem?_getD, List.getElem?_eq_getElem hlt]; rfl
      · unfold cellF; rw [if_pos hlt]
    · have hlt : ¬ i < ns.length := by have := of_decide_eq_false hh; omega
      refine (ev_op (ev_op ev_int (ev_var rfl) (o_mul (cm_l (by decide) (by decide)))) ev_int o_add).to ?_
      unfold cellF; rw [if_neg hlt]
    · refine raw_set (x := .d (.int (greatF ns i))) (S1 := S') (ev_op (ev_cb (ea_cons (ev_cb (ea_cons (ev_var rfl) ea_nil) cd_abs) ea_nil) cd_int) (ev_op (ev_op ev_int ev_int (o_powW ⟨by decide, by decide⟩)) ev_int (o_powW ⟨by decide, by decide +kernel⟩)) (o_mod big_pos)) c1 g1 fun B2 H2 v2 c2 x2 g2 => ?_
      refine raw_retN (ds := [.int (vatF ns i).1, .int (vatF ns i).2.1, .int (vatF ns i).2.2]) (S1 := S') (en_lst (ea_cons (ev_cb (ea_cons ev_int (ea_cons (ev_op (ev_var rfl) (ev_op ev_int ev_int (o_powW ⟨by decide, by decide⟩)) o_sub) ea_nil)) cd_max2) (ea_cons (ev_op (ev_op (ev_op (ev_op (ev_op (ev_cb (ea_cons (ev_var rfl) ea_nil) cd_int) ev_int (o_mod (by decide))) ev_int (o_mul (cm_r (by decide) (by decide)))) (ev_op ev_int (ev_var rfl) (o_mul (cm_l (by decide) (by decide)))) o_add) (ev_op ev_int (ev_cb (ea_cons (ev_op (ev_var rfl) ev_int o_lt) ea_nil) cd_intB) (o_mul (cm_l (by decide) (by decide)))) o_add) ev_int o_add) (ea_cons ev_int ea_nil))) (by show 3 ≤ sizeLine; decide)) c2 g2 fun p B3 H3 ws c3 x3 hp hb hl r3 => q p B3 H3 ws c3 ((x1.trans x2).trans x3) ((x1.trans x2).old hp) hb hl r3
end
/-! thin networks -/
def thinL (v : Vt) (l : List Row) (n : Nat) : List Row × Vt := foldF (fun v u => thinF v u n) l v
def thinLs (v : Vt) (L : Lays) (n : Nat) : Lays × Vt := foldF (fun v l => thinL v l n) L v
theorem thinLs_cons (v : Vt) (l : List Row) (L : Lays) (n : Nat) : (thinLs v (l :: L) n).1 = (thinL v l n).1 :: (thinLs (thinL v l n).2 L n).1 := rfl
theorem thinL_len (v : Vt) (l : List Row) (n : Nat) : (thinL v l n).1.length = l.length := foldF_len _ _ _
theorem thinLs_ok (n : Nat) : ∀ (L : Lays) (v : Vt) (w : Nat), WLs w L → WLs w (thinLs v L n).1 ∧ (thinLs v L n).1.flatten.length = L.flatten.length
  | [], _, _, _ => ⟨trivial, rfl⟩
  | l :: L, v, w, h => by
    obtain ⟨i1, i2⟩ := thinLs_ok n L (thinL v l n).2 (w + l.length) h.2
    rw [thinLs_cons]
    refine ⟨⟨⟨by rw [thinL_len]; exact h.1.1, by rw [thinL_len]; exact h.1.2.1, ?_⟩, by rw [thinL_len]; exact i1⟩, by rw [List.flatten_cons, List.length_append, i2, thinL_len, List.flatten_cons, List.length_append]⟩
    refine foldF_mem (p := fun u : Row => u.length = w ∧ Sm 4 u) _ _ fun v u hu => ?_
    have := h.1.2.2 u hu
    exact ⟨(thinF_len ..).trans this.1, thinF_b v u n (by decide) this.2⟩
theorem Sm.sh {r : Row} (h : Sm 4 r) : ∀ x ∈ r, Sh x := fun x hx => by
  have := h x hx
  unfold Sh
  omega
theorem WLs.wl : ∀ {L : Lays} {w : Nat}, WLs w L → WL w L
  | [], _, _ => trivial
  | l :: L, w, h => ⟨⟨h.1.1, by have := h.1.2.1; omega, fun u hu => ⟨(h.1.2.2 u hu).1, (h.1.2.2 u hu).2.sh⟩⟩, WLs.wl h.2⟩
/-- a drawn network -/
structure Drawn (v : Vt) where
  n : Nat
  L : Lays
  last : Row
  v' : Vt
def nF (v : Vt) : Nat := (1 + (drawF v 3).1).toNat
def depF (v : Vt) : Nat := (drawF (drawF v 3).2 5).1.toNat
def v2F (v : Vt) : Vt := (drawF (drawF v 3).2 5).2
def LF (v : Vt) : Lays := (thinLs (partsF (v2F v) (nF v) (depF v)).2 (partsF (v2F v) (nF v) (depF v)).1.1 (nF v)).1
def v3F (v : Vt) : Vt := (thinLs (partsF (v2F v) (nF v) (depF v)).2 (partsF (v2F v) (nF v) (depF v)).1.1 (nF v)).2
def lastF (v : Vt) : Row := (thinF (v3F v) (partsF (v2F v) (nF v) (depF v)).1.2 (nF v)).1
def v4F (v : Vt) : Vt := (thinF (v3F v) (partsF (v2F v) (nF v) (depF v)).1.2 (nF v)).2
theorem nF_ok (v : Vt) : (1 + (drawF v 3).1 = (nF v : Int)) ∧ 1 ≤ nF v ∧ nF v ≤ 3 := by
  have h1 := draw_nn v (t := 3) (by omega)
  have h2 := draw_lt v (t := 3) (by omega)
  unfold nF
  omega
theorem depF_ok (v : Vt) : ((drawF (drawF v 3).2 5).1 = (depF v : Int)) ∧ depF v ≤ 4 := by
  have h1 := draw_nn (drawF v 3).2 (t := 5) (by omega)
  have h2 := draw_lt (drawF v 3).2 (t := 5) (by omega)
  unfold depF
  omega
theorem drawn_ok (v : Vt) : Wf (nF v) (LF v) (lastF v) := by
  obtain ⟨_, n1, n3⟩ := nF_ok v
  obtain ⟨_, d4⟩ := depF_ok v
  obtain ⟨p1, p2, p3⟩ := PF_ok (nF v) (v2F v) (depF v)
  obtain ⟨t1, t2⟩ := thinLs_ok (nF v) (PF (nF v) (v2F v) (depF v)).1 (partsF (v2F v) (nF v) (depF v)).2 (nF v) p2
  have hlen : (LF v).length = (PF (nF v) (v2F v) (depF v)).1.length := foldF_len _ _ _
  refine ⟨n1, by omega, by rw [hlen, p1]; exact d4, t1.wl, ?_, ?_, ?_⟩
  · show (thinLs _ _ _).1.flatten.length ≤ 128
    have : (thinLs (partsF (v2F v) (nF v) (depF v)).2 (partsF (v2F v) (nF v) (depF v)).1.1 (nF v)).1.flatten.length = (PF (nF v) (v2F v) (depF v)).1.flatten.length := t2
    omega
  · have e : (LF v).flatten.length = (PF (nF v) (v2F v) (depF v)).1.flatten.length := t2
    rw [e]
    exact (thinF_len ..).trans (rowF_len ..)
  · refine Sm.sh (thinF_b _ _ _ (by decide) ?_)
    exact rowF_b _ _ (by decide)
def v5F (v : Vt) : Vt := (RF (nF v) (v4F v) 5).2
def gRight (ss : List Sl) (S : List Dat) (r : Dat) (S' : List Dat) : Prop := ∃ (k : Nat) (v : Vt), ss = [.c k] ∧ S[k]? = some (vatD v) ∧ r = .bl true ∧ S' = S.set k (vatD (v5F v))
end N21

set_option Elab.async false
set_option linter.all false
set_option maxRecDepth 100000
set_option maxHeartbeats 4000000
namespace N21
open PySem PySem.Spec PyProof.Rows L2 RW

theorem filter_none {α : Type} (xs : List α) : xs.filter (fun _ => false) = [] := by simp
theorem pl_nil : Pl 1 (.lst (([] : List Row).map rowD)) := .lst fun d hd => by cases hd
abbrev scC__law_right_layer : Scope := { kind := .function, names := [(Str.ofString ".0", .local), (Str.ofString "layer", .local), (Str.ofString "tuple", .globalImplicit), (Str.ofString "inputs", .cell), (Str.ofString "vat", .cell)], isGenerator := false, isCoroutine := false, more := [] }
section
variable {P : Program} {w : World} {K : PySem.W.Frag} {mg : Str → Option Value} {base : Heap}

theorem ok__law_right (T : Txt K mg) : FnOk P w K mg base CX0 8 T.a__law_right T.d__law_right ["vat"] (SpD K (gRight)) := by
  have G__law_draw := ok__law_draw (P := P) (w := w) (base := base) T
  have b__law_draw := T.b__law_draw
  have G__law_parts := ok__law_parts (P := P) (w := w) (base := base) T
  have b__law_parts := T.b__law_parts
  have G__law_thin := ok__law_thin (P := P) (w := w) (base := base) T
  have b__law_thin := T.b__law_thin
  have G_Networku_initu := ok_Networku_initu (P := P) (w := w) (base := base) T
  have b_Networku_initu := T.b_Networku_initu
  have G__law_trimmed := ok__law_trimmed (P := P) (w := w) (base := base) T
  have b__law_trimmed := T.b__law_trimmed
  have G_trimmed := ok_trimmed (P := P) (w := w) (base := base) T
  have b_trimmed := T.b_trimmed
  have G_Networku_equ := ok_Networku_equ (P := P) (w := w) (base := base) T
  have b_Networku_equ := T.b_Networku_equ
  have G__law_rows := ok__law_rows (P := P) (w := w) (base := base) T
  have b__law_rows := T.b__law_rows
  have G_value_of := ok_value_of (P := P) (w := w) (base := base) T
  have b_value_of := T.b_value_of
  have M_Network := T.M_Network
  have OW : RwT.OwnC K T.C T.a_Networku_equ := ⟨T.o_eq, T.o_fn, T.o_ne, T.isC.hm, T.o_sub⟩
  refine T.F__law_right.ok sc__law_right (spd_len (k := 1) fun ss S r S' hg => ?_) (fun cdv A outer s H vs Q E hr h => ⟨_, (pss_cons (ps_set (i := 1) sc__law_right.nd rfl (by first | exact Or.inl rfl | exact Or.inr rfl) (pe_op op_add pe_int (pe_call G__law_draw (hr.mono (by decide)) rfl T.m__law_draw T.k__law_draw b__law_draw .nil pass0 (pa_cons (pv 0) (pa_cons pe_int pa_nil))))) (pss_cons (ps_asg (pe_call G__law_parts (hr.mono (by decide)) rfl T.m__law_parts T.k__law_parts b__law_parts .nil pass0 (pa_cons (pv 0) (pa_cons (pv 1) (pa_cons (pe_call G__law_draw (hr.mono (by decide)) rfl T.m__law_draw T.k__law_draw b__law_draw .nil pass0 (pa_cons (pv 0) (pa_cons pe_int pa_nil))) (pa_cons pe_int (pa_cons pe_int pa_nil)))))) (pg_tup rfl (pgs_cons (pg_name (i := 2) sc__law_right.nd rfl (by first | exact Or.inl rfl | exact Or.inr rfl)) (pgs_cons (pg_name (i := 3) sc__law_right.nd rfl (by first | exact Or.inl rfl | exact Or.inr rfl)) pgs_nil)))) (pss_cons (ps_set (i := 2) sc__law_right.nd rfl (by first | exact Or.inl rfl | exact Or.inr rfl) (pe_callTy (call_tupK K rfl) (by rfl) T.n_tuple (by decide +kernel) (pa_cons (pe_lc (own := [("layer", 5)]) rfl sc__law_right.nd (pi_seqK K (pv 2)) (blkOk_by (own := [("layer", 5)]) (N := ["vat", "inputs", "layers", "last", "unit", "layer", "network", "due", "told", "row"]) (sc := (defScope s__law_right)) (by decide +kernel)) (fun _ _ _ _ _ => (pg_name (i := 5) sc__law_right.nd rfl (by first | exact Or.inl rfl | exact Or.inr rfl))) (fun _ _ _ _ _ => pts_nil) (fun _ _ _ _ _ => (pe_callTy (call_tupK K rfl) (by rfl) T.n_tuple (by decide +kernel) (pa_cons (pe_lc (own := [("unit", 4)]) rfl sc__law_right.nd (pi_seqK K (pv 5)) (blkOk_by (own := [("unit", 4)]) (N := ["vat", "inputs", "layers", "last", "unit", "layer", "network", "due", "told", "row"]) (sc := scC__law_right_layer) (by decide +kernel)) (fun _ _ _ _ _ => (pg_name (i := 4) sc__law_right.nd rfl (by first | exact Or.inl rfl | exact Or.inr rfl))) (fun _ _ _ _ _ => pts_nil) (fun _ _ _ _ _ => (pe_call G__law_thin (hr.mono (by decide)) rfl T.m__law_thin T.k__law_thin b__law_thin .nil pass0 (pa_cons (pv 0) (pa_cons (pv 4) (pa_cons (pv 1) pa_nil)))))) pa_nil)))) pa_nil))) (pss_cons (ps_set (i := 3) sc__law_right.nd rfl (by first | exact Or.inl rfl | exact Or.inr rfl) (pe_call G__law_thin (hr.mono (by decide)) rfl T.m__law_thin T.k__law_thin b__law_thin .nil pass0 (pa_cons (pv 0) (pa_cons (pv 3) (pa_cons (pv 1) pa_nil))))) (pss_cons (ps_asg (pe_tup (pa_cons (pe_make M_Network G_Networku_initu (hr.mono (by decide)) rfl T.m_Network b_Networku_initu .nil pass0 (pa_cons (pv 1) (pa_cons (pv 2) (pa_cons (pv 3) pa_nil)))) (pa_cons (pe_call G__law_trimmed (hr.mono (by decide)) rfl T.m__law_trimmed T.k__law_trimmed b__law_trimmed .nil pass0 (pa_cons (pv 1) (pa_cons (pv 2) (pa_cons (pv 3) pa_nil)))) pa_nil))) (pg_tup rfl (pgs_cons (pg_name (i := 6) sc__law_right.nd rfl (by first | exact Or.inl rfl | exact Or.inr rfl)) (pgs_cons (pg_name (i := 7) sc__law_right.nd rfl (by first | exact Or.inl rfl | exact Or.inr rfl)) pgs_nil)))) (pss_cons (ps_set (i := 8) sc__law_right.nd rfl (by first | exact Or.inl rfl | exact Or.inr rfl) (pe_call G_trimmed (hr.mono (by decide)) rfl T.m_trimmed T.k_trimmed b_trimmed .nil pass0 (pa_cons (pv 6) pa_nil))) (pss_cons (ps_if (PW.pt (pw_or (pt_cmpR (op_neD hr.units) (pe_tup (pa_cons (pe_fld (pv 8) rfl) (pa_cons (pe_fld (pv 8) rfl) (pa_cons (pe_fld (pv 8) rfl) pa_nil)))) (pe_op op_catA (pe_tup (pa_cons (pv 1) pa_nil)) (pv 7)) (nomark _)) (pw_or1 (pt_cmpR (RwT.op_ownNe OW (hr.mono (by decide)) G_Networku_equ b_Networku_equ pass0) (pe_call G_trimmed (hr.mono (by decide)) rfl T.m_trimmed T.k_trimmed b_trimmed .nil pass0 (pa_cons (pv 8) pa_nil)) (pv 8) (nomark _))))) (pss_one (ps_ret pe_bl)) pss_nil) (pss_one (ps_ret (pe_cmpR (op_eqD hr.units) (pe_lc (own := [("row", 9)]) rfl sc__law_right.nd (pi_seqK K (pe_call G__law_rows (hr.mono (by decide)) rfl T.m__law_rows T.k__law_rows b__law_rows .nil pass0 (pa_cons (pv 0) (pa_cons (pv 1) (pa_cons pe_int pa_nil))))) (blkOk_by (own := [("row", 9)]) (N := ["vat", "inputs", "layers", "last", "unit", "layer", "network", "due", "told", "row"]) (sc := (defScope s__law_right)) (by decide +kernel)) (fun _ _ _ _ _ => (pg_name (i := 9) sc__law_right.nd rfl (by first | exact Or.inl rfl | exact Or.inr rfl))) (fun _ _ _ _ _ => (pts_one (pt_cmpR op_ne (pe_call G_value_of (hr.mono (by decide)) rfl T.m_value_of T.k_value_of b_value_of .nil pass0 (pa_cons (pv 8) (pa_cons (pv 9) pa_nil))) (pe_call G_value_of (hr.mono (by decide)) rfl T.m_value_of T.k_value_of b_value_of .nil pass0 (pa_cons (pv 6) (pa_cons (pv 9) pa_nil))) (nomark _)))) (fun _ _ _ _ _ => (pv 9))) (pe_lst pa_nil) (nomark _))))))))))), sp_body h fun ss S r S' hg => ?_⟩)
  · obtain ⟨i, n, rfl, _⟩ := hg; rfl
  · obtain ⟨k, v, rfl, hk, rfl, rfl⟩ := hg
    have hkl : k < S.length := (List.getElem?_eq_some_iff.mp hk).1
    obtain ⟨hn, n1, n3⟩ := nF_ok v
    obtain ⟨hd, d4⟩ := depF_ok v
    have hw := drawn_ok v
    have hw2 := tr_ok hw
    have hw3 := tr_ok hw2
    obtain ⟨p1, p2, p3⟩ := PF_ok (nF v) (v2F v) (depF v)
    have hLl : (partsF (v2F v) (nF v) (depF v)).1.1.length ≤ 4 := by show (PF (nF v) (v2F v) (depF v)).1.length ≤ 4; omega
    have hla : (partsF (v2F v) (nF v) (depF v)).1.2.length ≤ 1000 := by
      have : (partsF (v2F v) (nF v) (depF v)).1.2.length = nF v + (PF (nF v) (v2F v) (depF v)).1.flatten.length := rowF_len ..
      omega
    have hwl : ∀ l ∈ (partsF (v2F v) (nF v) (depF v)).1.1, l.length ≤ 3 ∧ ∀ u ∈ l, u.length ≤ 1000 := by
      intro l hl
      obtain ⟨i, hi⟩ := List.mem_iff_getElem?.mp hl
      have := WL.get p2.wl hi
      have hfl := flat_len_take hi
      have hle : ((partsF (v2F v) (nF v) (depF v)).1.1.take (i + 1)).flatten.length ≤ (PF (nF v) (v2F v) (depF v)).1.flatten.length := by
        show ((PF (nF v) (v2F v) (depF v)).1.take (i + 1)).flatten.length ≤ _
        conv => rhs; rw [← List.take_append_drop (i + 1) (PF (nF v) (v2F v) (depF v)).1, List.flatten_append, List.length_append]
        omega
      have h3 : ∀ {L : Lays} {w i : Nat} {l : List Row}, WLs w L → L[i]? = some l → l.length ≤ 3 := by
        intro L
        induction L with
        | nil => intro w i l _ h; simp at h
        | cons m L ih =>
          intro w i l h e
          cases i with
          | zero => simp at e; subst e; exact h.1.2.1
          | succ i => exact ih h.2 (by simpa using e)
      refine ⟨h3 p2 hi, fun u hu => ?_⟩
      have h4 := (this.2.2 u hu).1
      have h5 : ((PF (nF v) (v2F v) (depF v)).1.take i).flatten.length ≤ (PF (nF v) (v2F v) (depF v)).1.flatten.length := by
        conv => rhs; rw [← List.take_append_drop i (PF (nF v) (v2F v) (depF v)).1, List.flatten_append, List.length_append]
        omega
      omega
    refine sp_set (x := .d (.int (nF v))) (S1 := S.set k (vatD (drawF v 3).2)) ((ev_op ev_int (ev_call (ea_cons (ev_var rfl) (ea_cons ev_int ea_nil)) ⟨k, v, 3, rfl, hk, by omega, by omega, rfl, rfl⟩) o_add).to (by rw [hn])) ?_
    refine sp_asg (d := .tup [laysD (partsF (v2F v) (nF v) (depF v)).1.1, rowD (partsF (v2F v) (nF v) (depF v)).1.2]) (S1 := S.set k (vatD (partsF (v2F v) (nF v) (depF v)).2)) (ev_call (ea_cons (ev_var rfl) (ea_cons (ev_var rfl) (ea_cons ((ev_call (S2 := S.set k (vatD (v2F v))) (ea_cons (ev_var rfl) (ea_cons ev_int ea_nil)) ⟨k, (drawF v 3).2, 5, rfl, set_get hk, by omega, by omega, rfl, by rw [List.set_set]; rfl⟩).to (r' := .d (.int (depF v))) (by rw [hd])) (ea_cons ev_int (ea_cons ev_int ea_nil))))) ⟨k, v2F v, nF v, depF v, rfl, set_get hk, by omega, d4, rfl, by rw [List.set_set]⟩) tg_pair ?_
    have hO := en_fold (K := K) (te := tCB (rTupD K) (tCons (tLc (iSeq K (tVar 5)) (gName 4) tYes (tCall (SpD K gThin) [] E0 (tCons (tVar 0) (tCons (tVar 4) (tCons (tVar 1) tNil)))) [4]) tNil))
      (env := [some (.c k), some (.d (.int (nF v))), some (.d (laysD (partsF (v2F v) (nF v) (depF v)).1.1)), some (.d (rowD (partsF (v2F v) (nF v) (depF v)).1.2)), none, none, none, none, none, none]) (S := S.set k (vatD (partsF (v2F v) (nF v) (depF v)).2)) (xs := (partsF (v2F v) (nF v) (depF v)).1.1) (g := layD) (es := LF v) layD
      (fun i => S.set k (vatD (foldF (fun v' l => thinL v' l (nF v)) ((partsF (v2F v) (nF v) (depF v)).1.1.take i) (partsF (v2F v) (nF v) (depF v)).2).2)) (wi := iSeq K (tVar 2)) (tg := gName 5) (vs := [5]) (G := G0) (is := [5]) (it_tup (ev_var rfl)) (size_1000 (by omega)) (foldF_len _ _ _) (fun _ _ _ => trivial) (fun i => by simp) (by decide) (fun l env => env.set 5 (some (.d (layD l)))) (fun i l b ha hb => ⟨tg_name, ?_⟩)
    · rw [List.take_of_length_le (Nat.le_refl _)] at hO
      refine sp_set (x := .d (laysD (LF v))) (S1 := S.set k (vatD (v3F v))) (ev_cb (ea_cons hO.ev ea_nil) (cd_tup .lst)) ?_
      refine sp_set (x := .d (rowD (lastF v))) (S1 := S.set k (vatD (v4F v))) (ev_call (ea_cons (ev_var rfl) (ea_cons (ev_var rfl) (ea_cons (ev_var rfl) ea_nil))) ⟨k, v3F v, _, nF v, rfl, set_get hk, hla, rfl, by rw [List.set_set]; rfl⟩) ?_
      have hlt := law_tr (nF v) (LF v) (lastF v)
      refine sp_asg (d := .tup [netD T.C (nF v) (LF v) (lastF v), .tup [laysD (trL (nF v) (LF v) (lastF v)), rowD (trR (nF v) (LF v) (lastF v))]]) (S1 := S.set k (vatD (v4F v))) (ev_tup (ds := [netD T.C (nF v) (LF v) (lastF v), .tup [laysD (trL (nF v) (LF v) (lastF v)), rowD (trR (nF v) (LF v) (lastF v))]]) (ea_cons (ev_make (S2 := S.set k (vatD (v4F v))) (ea_cons (ev_var rfl) (ea_cons (ev_var rfl) (ea_cons (ev_var rfl) ea_nil))) ⟨_, nF v, LF v, lastF v, rfl, ca0, hw, rfl, cas.symm⟩ rfl) (ea_cons (ev_call (ea_cons (ev_var rfl) (ea_cons (ev_var rfl) (ea_cons (ev_var rfl) ea_nil))) ⟨nF v, LF v, lastF v, rfl, hw, by rw [hlt.1, hlt.2], rfl⟩) ea_nil)) (by show 2 ≤ sizeLine; decide)) tg_pair ?_
      refine sp_set (x := .d (netD T.C (nF v) (trL (nF v) (LF v) (lastF v)) (trR (nF v) (LF v) (lastF v)))) (S1 := S.set k (vatD (v4F v))) (ev_call (ea_cons (ev_var rfl) ea_nil) ⟨nF v, LF v, lastF v, rfl, hw, hw2, rfl, rfl⟩) ?_
      have hpl : Pl 4 (.tup [.int (nF v), laysD (trL (nF v) (LF v) (lastF v)), rowD (trR (nF v) (LF v) (lastF v))]) := by
        have up : ∀ {m : Nat} {d : Dat}, Pl m d → Pl (m + 1) d := by
          intro m d h
          induction h with
          | non => exact .non
          | bl b => exact .bl b
          | int i => exact .int i
          | str h => exact .str h
          | tup h ih => exact .tup ih
          | lst h ih => exact .lst ih
        refine .tup fun d hd => ?_
        simp only [List.mem_cons, List.mem_nil_iff, or_false] at hd
        rcases hd with rfl | rfl | rfl
        · exact .int _
        · exact pl_lays _
        · exact up (up (pl_row _))
      have htt := tr_tr hw
      refine sp_ifq (b := false) (et_orP (a := false) (b := false) (et_test ((ev_op (ev_tup (ds := [.int (nF v), laysD (trL (nF v) (LF v) (lastF v)), rowD (trR (nF v) (LF v) (lastF v))]) (ea_cons (ev_fld (ev_var rfl) T.cl T.na_inputs rfl) (ea_cons (ev_fld (ev_var rfl) T.cl T.na_layers rfl) (ea_cons (ev_fld (ev_var rfl) T.cl T.na_last rfl) ea_nil))) (by show 3 ≤ sizeLine; decide)) (ev_op (ev_tup (ds := [.int (nF v)]) (ea_cons (ev_var rfl) ea_nil) (by show 1 ≤ sizeLine; decide)) (ev_var rfl) (op2_catT (by show 3 ≤ sizeLine; decide))) (op2_neD (plS_d hpl) (plS_d hpl) (by decide) (by decide))).to ?_)) fun _ => et_test ((ev_op (ev_call (ea_cons (ev_var rfl) ea_nil) ⟨nF v, trL (nF v) (LF v) (lastF v), trR (nF v) (LF v) (lastF v), rfl, hw2, hw3, rfl, rfl⟩) (ev_var rfl) (o_own (k := true) ⟨nF v, nF v, _, _, _, _, rfl, ?_, rfl⟩)).to ?_)) (fun h => by cases h) fun _ => sp_nextq ?_
      · exact congrArg (fun b => Sl.d (.bl (!b))) (eqD_refl hpl)
      · rfl
      · have hrf := RF_ok (nF v) (v4F v) 5
        have hE := en_filterA (K := K) (te := tVar 9) (tt := tTest (tOp rNe (tCall (SpD K (gVal T.C)) [] E0 (tCons (tVar 8) (tCons (tVar 9) tNil))) (tCall (SpD K (gVal T.C)) [] E0 (tCons (tVar 6) (tCons (tVar 9) tNil)))))
            (env := [some (.c k), some (.d (.int (nF v))), some (.d (laysD (LF v))), some (.d (rowD (lastF v))), none, none, some (.d (netD T.C (nF v) (LF v) (lastF v))), some (.d (.tup [laysD (trL (nF v) (LF v) (lastF v)), rowD (trR (nF v) (LF v) (lastF v))])), some (.d (netD T.C (nF v) (trL (nF v) (LF v) (lastF v)) (trR (nF v) (LF v) (lastF v)))), none]) (S := S.set k (vatD (v4F v))) (S1 := S.set k (vatD (v5F v))) (xs := (RF (nF v) (v4F v) 5).1) (g := rowD) (is := [9]) (fun _ => false) rowD
            (wi := iSeq K (tCall (SpD K gRows) [] E0 (tCons (tVar 0) (tCons (tVar 1) (tCons (tC (.int 5)) tNil))))) (tg := gName 9) (vs := [9]) (G := G0) (it_lst (ev_call (ea_cons (ev_var rfl) (ea_cons (ev_var rfl) (ea_cons ev_int ea_nil))) ⟨k, v4F v, nF v, rfl, set_get hk, n1, by omega, rfl, by rw [List.set_set]; rfl⟩)) (size_1000 (by omega)) (fun _ _ => trivial) (by decide) (fun r env => env.set 9 (some (.d (rowD r)))) (fun r hr => ⟨tg_name, et_test ((ev_op (ev_call (ea_cons (ev_var rfl) (ea_cons (ev_var rfl) ea_nil)) ⟨nF v, trL (nF v) (LF v) (lastF v), trR (nF v) (LF v) (lastF v), r, rfl, hrf.2 r hr, hw2, rfl, rfl⟩) (ev_call (ea_cons (ev_var rfl) (ea_cons (ev_var rfl) ea_nil)) ⟨nF v, LF v, lastF v, r, rfl, hrf.2 r hr, hw, rfl, rfl⟩) op2_ne_int).to (by rw [tr_value hw (hrf.2 r hr).1]; simp)), fun h => by cases h⟩)
        rw [filter_none] at hE
        refine sp_ret (d := .bl true) ((ev_op hE.ev (EvN.ev (en_lst (ds := ([] : List Row).map rowD) ea_nil (Nat.zero_le _))) (op2_eqD (plS_d pl_nil) (plS_d pl_nil) (by decide) (by decide))).to ?_) ⟨rfl, List.take_of_length_le (by simp)⟩
        rw [eqD_lst rowD eq_row]; simp
      · rw [htt.1, htt.2]; simp
    · have hb2 := foldF_get (fun v' l => thinL v' l (nF v)) (partsF (v2F v) (nF v) (depF v)).1.1 (partsF (v2F v) (nF v) (depF v)).2 i l ha
      have hs2 := foldF_step (fun v' l => thinL v' l (nF v)) (partsF (v2F v) (nF v) (depF v)).1.1 (partsF (v2F v) (nF v) (depF v)).2 i l ha
      obtain ⟨hl3, hlu⟩ := hwl l (List.mem_of_getElem? ha)
      rw [hs2]
      have e : b = (thinL (foldF (fun v' l => thinL v' l (nF v)) ((partsF (v2F v) (nF v) (depF v)).1.1.take i) (partsF (v2F v) (nF v) (depF v)).2).2 l (nF v)).1 := Option.some.inj (hb.symm.trans hb2)
      subst e
      generalize (foldF (fun v' l => thinL v' l (nF v)) ((partsF (v2F v) (nF v) (depF v)).1.1.take i) (partsF (v2F v) (nF v) (depF v)).2).2 = vi
      have hI := en_fold (K := K) (te := tCall (SpD K gThin) [] E0 (tCons (tVar 0) (tCons (tVar 4) (tCons (tVar 1) tNil))))
        (env := [some (.c k), some (.d (.int (nF v))), some (.d (laysD (partsF (v2F v) (nF v) (depF v)).1.1)), some (.d (rowD (partsF (v2F v) (nF v) (depF v)).1.2)), none, some (.d (layD l)), none, none, none, none]) (S := S.set k (vatD vi)) (xs := l) (g := rowD) (es := (thinL vi l (nF v)).1) rowD
        (fun i => S.set k (vatD (foldF (fun v' u => thinF v' u (nF v)) (l.take i) vi).2)) (wi := iSeq K (tVar 5)) (tg := gName 4) (vs := [4]) (G := G0) (is := [4]) (it_tup (ev_var rfl)) (size_1000 (by omega)) (foldF_len _ _ _) (fun _ _ _ => trivial) (fun i => by simp) (by decide) (fun u env => env.set 4 (some (.d (rowD u)))) (fun j u c hu hc => ⟨tg_name, ?_⟩)
      · rw [List.take_of_length_le (Nat.le_refl _)] at hI
        exact ev_cb (ea_cons hI.ev ea_nil) (cd_tup .lst)
      · have hb3 := foldF_get (fun v' u => thinF v' u (nF v)) l vi j u hu
        have hs3 := foldF_step (fun v' u => thinF v' u (nF v)) l vi j u hu
        rw [hs3]
        have e3 : c = (thinF (foldF (fun v' u => thinF v' u (nF v)) (l.take j) vi).2 u (nF v)).1 := Option.some.inj (hc.symm.trans hb3)
        subst e3
        generalize (foldF (fun v' u => thinF v' u (nF v)) (l.take j) vi).2 = vj
        exact ev_call (ea_cons (ev_var rfl) (ea_cons (ev_var rfl) (ea_cons (ev_var rfl) ea_nil))) ⟨k, vj, u, nF v, rfl, set_get hk, hlu u (List.mem_of_getElem? hu), rfl, by rw [List.set_set]⟩
end
end N21

set_option Elab.async false
set_option linter.all false
set_option maxRecDepth 100000
set_option maxHeartbeats 4000000
namespace N21
open PySem PySem.Spec PyProof.Rows L2 RW

def longL : Lays := [[[1], [2]], [[0, 0, 1]], [[1, 0, 0, 0]]]
def longR : Row := [1, 3, 0, 0, 0]
def wideL : Lays := [[[1, 1]]]
def wideR : Row := [5, 0, 0]
theorem sh_of {r : Row} (h : r.all (fun x => decide (-(2 ^ 64) < x ∧ x < 2 ^ 64)) = true) : ∀ x ∈ r, Sh x := fun x hx => by
  have h5 := List.all_eq_true.mp h x hx
  have h6 : -(2 ^ 64) < x ∧ x < 2 ^ 64 := of_decide_eq_true h5
  unfold Sh
  omega
def wlB : Nat → Lays → Bool
  | _, [] => true
  | w, l :: L => decide (1 ≤ l.length) && decide (l.length ≤ 64) && l.all (fun u => decide (u.length = w) && u.all (fun x => decide (-(2 ^ 64) < x ∧ x < 2 ^ 64))) && wlB (w + l.length) L
theorem wlB_ok : ∀ {L : Lays} {w : Nat}, wlB w L = true → WL w L
  | [], _, _ => trivial
  | l :: L, w, h => by
    unfold wlB at h
    simp only [Bool.and_eq_true, decide_eq_true_eq, List.all_eq_true] at h
    refine ⟨⟨h.1.1.1, h.1.1.2, fun u hu => ⟨(h.1.2 u hu).1, fun x hx => by
      have h5 := (h.1.2 u hu).2 x hx
      have h6 : -(2 ^ 64) < x ∧ x < 2 ^ 64 := by first | exact h5 | exact of_decide_eq_true h5 | simpa using h5
      unfold Sh
      omega⟩⟩, wlB_ok h.2⟩
theorem rw_of {r : Row} {n : Nat} (h1 : r.length = n) (h : r.all (fun x => decide (-(2 ^ 64) < x ∧ x < 2 ^ 64)) = true) : Rw r n := ⟨h1, sh_of h⟩
theorem long_ok : Wf 1 longL longR := ⟨by decide, by decide, by decide, wlB_ok (by decide), by decide, rw_of (by decide) (by decide)⟩
theorem wide_ok : Wf 2 wideL wideR := ⟨by decide, by decide, by decide, wlB_ok (by decide), by decide, rw_of (by decide) (by decide)⟩
theorem long_tr : trL 1 longL longR = [[[1]]] ∧ trR 1 longL longR = [1, 3] := by decide
theorem wide_tr : trL 2 wideL wideR = [] ∧ trR 2 wideL wideR = [5, 0] := by decide
theorem short_ok : Wf 1 [[[1]]] [1, 3] := ⟨by decide, by decide, by decide, wlB_ok (by decide), by decide, rw_of (by decide) (by decide)⟩
theorem flat_ok : Wf 2 [] [5, 0] := ⟨by decide, by decide, by decide, wlB_ok (by decide), by decide, rw_of (by decide) (by decide)⟩
def gLaw (ss : List Sl) (S : List Dat) (r : Dat) (S' : List Dat) : Prop := ∃ (ns : List Int), ss = [.d (.scr ns)] ∧ ns.length ≤ 63 ∧ r = .bl true ∧ S = [] ∧ S' = []
section
variable {P : Program} {w : World} {K : PySem.W.Frag} {mg : Str → Option Value} {base : Heap}

theorem ok_law (T : Txt K mg) : FnOk P w K mg base CX0 9 T.a_law T.d_law ["script"] (SpD K (gLaw)) := by
  have G__law_vat := ok__law_vat (P := P) (w := w) (base := base) T
  have b__law_vat := T.b__law_vat
  have G__law_right := ok__law_right (P := P) (w := w) (base := base) T
  have b__law_right := T.b__law_right
  have G_Networku_initu := ok_Networku_initu (P := P) (w := w) (base := base) T
  have b_Networku_initu := T.b_Networku_initu
  have G_Networku_equ := ok_Networku_equ (P := P) (w := w) (base := base) T
  have b_Networku_equ := T.b_Networku_equ
  have G_trimmed := ok_trimmed (P := P) (w := w) (base := base) T
  have b_trimmed := T.b_trimmed
  have M_Network := T.M_Network
  have OW : RwT.OwnC K T.C T.a_Networku_equ := ⟨T.o_eq, T.o_fn, T.o_ne, T.isC.hm, T.o_sub⟩
  refine T.F_law.ok sc_law (spd_len (k := 1) fun ss S r S' hg => ?_) (fun cdv A outer s H vs Q E hr h => ⟨_, (pss_cons (ps_for PassesOwn.never rfl (pi_range1 (by rfl) T.n_range (pa_cons (pe_callB (call_max2D rfl) (by rfl) T.n_max (by decide +kernel) (pa_cons pe_int (pa_cons (pe_callB (call_min2D rfl) (by rfl) T.n_min (by decide +kernel) (pa_cons pe_int (pa_cons (pe_callB (call_lenK K) (by rfl) T.n_len (by decide +kernel) (pa_cons (pv 0) pa_nil)) pa_nil))) pa_nil))) pa_nil)) (pg_name (i := 1) sc_law.nd rfl (by first | exact Or.inl rfl | exact Or.inr rfl)) (pss_cons (ps_set (i := 2) sc_law.nd rfl (by first | exact Or.inl rfl | exact Or.inr rfl) (pe_call G__law_vat (hr.mono (by decide)) rfl T.m__law_vat T.k__law_vat b__law_vat .nil pass0 (pa_cons (pv 0) (pa_cons (pv 1) pa_nil)))) (pss_one (ps_for PassesOwn.never rfl (pi_range1 (by rfl) T.n_range (pa_cons pe_int pa_nil)) (pg_name (i := 3) sc_law.nd rfl (by first | exact Or.inl rfl | exact Or.inr rfl)) (pss_one (ps_if (pt_not (pt_truK K (pe_call G__law_right (hr.mono (by decide)) rfl T.m__law_right T.k__law_right b__law_right .nil pass0 (pa_cons (pv 2) pa_nil)))) (pss_one (ps_ret pe_bl)) pss_nil)))))) (pss_cons (ps_set (i := 4) sc_law.nd rfl (by first | exact Or.inl rfl | exact Or.inr rfl) (pe_make M_Network G_Networku_initu (hr.mono (by decide)) rfl T.m_Network b_Networku_initu .nil pass0 (pa_cons pe_int (pa_cons (pe_tup (pa_cons (pe_tup (pa_cons (pe_tup (pa_cons pe_int pa_nil)) (pa_cons (pe_tup (pa_cons pe_int pa_nil)) pa_nil))) (pa_cons (pe_tup (pa_cons (pe_tup (pa_cons pe_int (pa_cons pe_int (pa_cons pe_int pa_nil)))) pa_nil)) (pa_cons (pe_tup (pa_cons (pe_tup (pa_cons pe_int (pa_cons pe_int (pa_cons pe_int (pa_cons pe_int pa_nil))))) pa_nil)) pa_nil)))) (pa_cons (pe_tup (pa_cons pe_int (pa_cons pe_int (pa_cons pe_int (pa_cons pe_int (pa_cons pe_int pa_nil)))))) pa_nil))))) (pss_one (ps_ret (pe_and (pe_cmpR (RwT.op_ownEq OW (hr.mono (by decide)) G_Networku_equ b_Networku_equ pass0) (pe_call G_trimmed (hr.mono (by decide)) rfl T.m_trimmed T.k_trimmed b_trimmed .nil pass0 (pa_cons (pv 4) pa_nil)) (pe_make M_Network G_Networku_initu (hr.mono (by decide)) rfl T.m_Network b_Networku_initu .nil pass0 (pa_cons pe_int (pa_cons (pe_tup (pa_cons (pe_tup (pa_cons (pe_tup (pa_cons pe_int pa_nil)) pa_nil)) pa_nil)) (pa_cons (pe_tup (pa_cons pe_int (pa_cons pe_int pa_nil))) pa_nil)))) (nomark _)) (pe_one (pe_cmpR (RwT.op_ownEq OW (hr.mono (by decide)) G_Networku_equ b_Networku_equ pass0) (pe_call G_trimmed (hr.mono (by decide)) rfl T.m_trimmed T.k_trimmed b_trimmed .nil pass0 (pa_cons (pe_make M_Network G_Networku_initu (hr.mono (by decide)) rfl T.m_Network b_Networku_initu .nil pass0 (pa_cons pe_int (pa_cons (pe_tup (pa_cons (pe_tup (pa_cons (pe_tup (pa_cons pe_int (pa_cons pe_int pa_nil))) pa_nil)) pa_nil)) (pa_cons (pe_tup (pa_cons pe_int (pa_cons pe_int (pa_cons pe_int pa_nil)))) pa_nil)))) pa_nil)) (pe_make M_Network G_Networku_initu (hr.mono (by decide)) rfl T.m_Network b_Networku_initu .nil pass0 (pa_cons pe_int (pa_cons (pe_tup pa_nil) (pa_cons (pe_tup (pa_cons pe_int (pa_cons pe_int pa_nil))) pa_nil)))) (nomark _)))))))), sp_body h fun ss S r S' hg => ?_⟩)
  · obtain ⟨i, rfl, _⟩ := hg; rfl
  · obtain ⟨ns, rfl, hns, rfl, rfl, rfl⟩ := hg
    obtain ⟨c, hc⟩ : ∃ c : Nat, max 1 (min 4 (ns.length : Int)) = (c : Int) := ⟨(max 1 (min 4 (ns.length : Int))).toNat, by omega⟩
    have hc4 : c ≤ 4 := by omega
    refine sp_seq (P' := { nx := fun env' S2 => ∃ o1 o2 o3, env' = [some (.d (.scr ns)), o1, o2, o3, none] })
      (sp_forA (xs := List.range c) (g := fun i => Dat.int (0 + (i : Nat))) (it_rangeN (m := c) (ea_cons ((ev_cb (ea_cons ev_int (ea_cons (ev_cb (ea_cons ev_int (ea_cons (ev_cb (ea_cons (ev_var rfl) ea_nil) cd_lenS) ea_nil)) cd_min2) ea_nil)) cd_max2).to (by rw [hc])) ea_nil) (by omega)) (fun i env' S2 => ∃ o1 o2 o3, env' = [some (.d (.scr ns)), o1, o2, o3, none]) ⟨none, none, none, rfl⟩ (fun _ _ _ _ _ _ _ _ _ => trivial) ?_ ?_) ?_
    · rintro i a env' S2 ha ⟨o1, o2, o3, rfl⟩
      refine ⟨[1], fun env => env.set 1 (some (.d (.int (0 + (a : Nat))))), tg_name, ?_⟩
      rw [Int.zero_add]
      refine sp_setC (S1 := S2) (ds := [.int (vatF ns a).1, .int (vatF ns a).2.1, .int (vatF ns a).2.2]) (en_call (ea_cons (ev_var rfl) (ea_cons (ev_var rfl) ea_nil)) ⟨ns, a, rfl, rfl, rfl⟩) ?_
      refine sp_forA (xs := List.range 4) (g := fun i => Dat.int (0 + (i : Nat))) (it_rangeN (m := 4) (ea_cons ev_int ea_nil) (by omega)) (fun i env' S3 => ∃ v o3, S3 = S2 ++ [vatD v] ∧ env' = [some (.d (.scr ns)), some (.d (.int (a : Nat))), some (.c S2.length), o3, none]) ⟨vatF ns a, o3, rfl, rfl⟩ (fun _ _ _ _ _ _ _ _ _ => trivial) ?_ ?_
      · rintro j b env' S3 hb ⟨v, o4, rfl, rfl⟩
        refine ⟨[3], fun env => env.set 3 (some (.d (.int (0 + (b : Nat))))), tg_name, ?_⟩
        refine sp_if (b := false) (et_not (a := true) (et_bl (ev_call (ea_cons (ev_var rfl) ea_nil) ⟨S2.length, v, rfl, ca0, rfl, rfl⟩))) (fun h => by cases h) fun _ => sp_next ⟨v5F v, _, cas, rfl⟩
      · rintro env' S3 ⟨v, o4, rfl, rfl⟩
        exact ⟨_, _, _, rfl⟩
    · rintro env' S2 ⟨o1, o2, o3, rfl⟩
      exact ⟨o1, o2, o3, rfl⟩
    · rintro env' S2 ⟨o1, o2, o3, rfl⟩
      refine sp_set (x := .d (netD T.C 1 longL longR)) (S1 := S2) (ev_make (S2 := S2) (ea_cons ev_int (ea_cons (ev_tup (ds := [layD [[1], [2]], layD [[0, 0, 1]], layD [[1, 0, 0, 0]]]) (ea_cons (ev_tup (ds := [rowD [1], rowD [2]]) (ea_cons (ev_tup (ds := [.int 1]) (ea_cons ev_int ea_nil) (by show 1 ≤ sizeLine; decide)) (ea_cons (ev_tup (ds := [.int 2]) (ea_cons ev_int ea_nil) (by show 1 ≤ sizeLine; decide)) ea_nil)) (by show 2 ≤ sizeLine; decide))
        (ea_cons (ev_tup (ds := [rowD [0, 0, 1]]) (ea_cons (ev_tup (ds := [.int 0, .int 0, .int 1]) (ea_cons ev_int (ea_cons ev_int (ea_cons ev_int ea_nil))) (by show 3 ≤ sizeLine; decide)) ea_nil) (by show 1 ≤ sizeLine; decide))
        (ea_cons (ev_tup (ds := [rowD [1, 0, 0, 0]]) (ea_cons (ev_tup (ds := [.int 1, .int 0, .int 0, .int 0]) (ea_cons ev_int (ea_cons ev_int (ea_cons ev_int (ea_cons ev_int ea_nil)))) (by show 4 ≤ sizeLine; decide)) ea_nil) (by show 1 ≤ sizeLine; decide)) ea_nil))) (by show 3 ≤ sizeLine; decide))
        (ea_cons (ev_tup (ds := [.int 1, .int 3, .int 0, .int 0, .int 0]) (ea_cons ev_int (ea_cons ev_int (ea_cons ev_int (ea_cons ev_int (ea_cons ev_int ea_nil))))) (by show 5 ≤ sizeLine; decide)) ea_nil))) ⟨_, 1, longL, longR, rfl, ca0, long_ok, rfl, cas.symm⟩ rfl) ?_
      refine sp_ret (d := .bl true) (ev_andV (a := true) (b := true) ((ev_op (ev_call (ea_cons (ev_var rfl) ea_nil) ⟨1, longL, longR, rfl, long_ok, tr_ok long_ok, rfl, rfl⟩) (ev_make (S2 := S2) (ea_cons ev_int (ea_cons (ev_tup (ds := [layD [[1]]]) (ea_cons (ev_tup (ds := [rowD [1]]) (ea_cons (ev_tup (ds := [.int 1]) (ea_cons ev_int ea_nil) (by show 1 ≤ sizeLine; decide)) ea_nil) (by show 1 ≤ sizeLine; decide)) ea_nil) (by show 1 ≤ sizeLine; decide)) (ea_cons (ev_tup (ds := [.int 1, .int 3]) (ea_cons ev_int (ea_cons ev_int ea_nil)) (by show 2 ≤ sizeLine; decide)) ea_nil))) ⟨_, 1, [[[1]]], [1, 3], rfl, ca0, short_ok, rfl, cas.symm⟩ rfl) (o_own (k := true) ⟨1, 1, _, _, _, _, rfl, ?_, rfl⟩)).to rfl) fun _ => (ev_op (ev_call (ea_cons (ev_make (S2 := S2) (ea_cons ev_int (ea_cons (ev_tup (ds := [layD [[1, 1]]]) (ea_cons (ev_tup (ds := [rowD [1, 1]]) (ea_cons (ev_tup (ds := [.int 1, .int 1]) (ea_cons ev_int (ea_cons ev_int ea_nil)) (by show 2 ≤ sizeLine; decide)) ea_nil) (by show 1 ≤ sizeLine; decide)) ea_nil) (by show 1 ≤ sizeLine; decide)) (ea_cons (ev_tup (ds := [.int 5, .int 0, .int 0]) (ea_cons ev_int (ea_cons ev_int (ea_cons ev_int ea_nil))) (by show 3 ≤ sizeLine; decide)) ea_nil))) ⟨_, 2, wideL, wideR, rfl, ca0, wide_ok, rfl, cas.symm⟩ rfl) ea_nil) ⟨2, wideL, wideR, rfl, wide_ok, tr_ok wide_ok, rfl, rfl⟩) (ev_make (S2 := S2) (ea_cons ev_int (ea_cons (ev_tup (ds := []) ea_nil (Nat.zero_le _)) (ea_cons (ev_tup (ds := [.int 5, .int 0]) (ea_cons ev_int (ea_cons ev_int ea_nil)) (by show 2 ≤ sizeLine; decide)) ea_nil))) ⟨_, 2, [], [5, 0], rfl, ca0, flat_ok, rfl, cas.symm⟩ rfl) (o_own (k := true) ⟨2, 2, _, _, _, _, rfl, ?_, rfl⟩)).to rfl) ⟨rfl, rfl⟩
      · rw [long_tr.1, long_tr.2]; simp
      · rw [wide_tr.1, wide_tr.2]; simp
end
end N21

set_option Elab.async false
set_option maxRecDepth 100000
set_option maxHeartbeats 4000000
namespace N21
open PySem PySem.Spec PyProof.Rows L2 RW
theorem all_mk {l : PySem.W.OpenLaw} {w : World} {K : PySem.W.Frag} {h : Heap} {mg : Str → Option Value} {fa C : Addr} (X : K.In h) (G : h.Ns mainGlobals mg) (hfa : mg "law" = some (.ref fa))
    {t_BEYOND : Tok}
    {t_BENEATH : Tok}
    {t_MOST_INPUTS : Tok}
    {t_MOST_LAYERS : Tok}
    {t_MOST_IN_LAYER : Tok}
    {t_MOST_UNITS : Tok}
    {a_is_whole : Addr} {od_is_whole an_is_whole : Option Addr} {sl_is_whole : Array (Option Value)} {oc_is_whole kV_is_whole dc_is_whole pm_is_whole cd_is_whole ct_is_whole : Value}
    {a_is_short : Addr} {od_is_short an_is_short : Option Addr} {sl_is_short : Array (Option Value)} {oc_is_short kV_is_short dc_is_short pm_is_short cd_is_short ct_is_short : Value}
    {a_are_short : Addr} {od_are_short an_are_short : Option Addr} {sl_are_short : Array (Option Value)} {oc_are_short kV_are_short dc_are_short pm_are_short cd_are_short ct_are_short : Value}
    {a_is_short_row : Addr} {od_is_short_row an_is_short_row : Option Addr} {sl_is_short_row : Array (Option Value)} {oc_is_short_row kV_is_short_row dc_is_short_row pm_is_short_row cd_is_short_row ct_is_short_row : Value}
    {a_product_of : Addr} {od_product_of an_product_of : Option Addr} {sl_product_of : Array (Option Value)} {oc_product_of kV_product_of dc_product_of pm_product_of cd_product_of ct_product_of : Value}
    {a_Networku_initu : Addr} {od_Networku_initu an_Networku_initu : Option Addr} {sl_Networku_initu : Array (Option Value)} {oc_Networku_initu kV_Networku_initu dc_Networku_initu pm_Networku_initu cd_Networku_initu ct_Networku_initu : Value}
    {a_Networku_equ : Addr} {od_Networku_equ an_Networku_equ : Option Addr} {sl_Networku_equ : Array (Option Value)} {oc_Networku_equ kV_Networku_equ dc_Networku_equ pm_Networku_equ cd_Networku_equ ct_Networku_equ : Value}
    {a_are_parts : Addr} {od_are_parts an_are_parts : Option Addr} {sl_are_parts : Array (Option Value)} {oc_are_parts kV_are_parts dc_are_parts pm_are_parts cd_are_parts ct_are_parts : Value}
    {a_need_network : Addr} {od_need_network an_need_network : Option Addr} {sl_need_network : Array (Option Value)} {oc_need_network kV_need_network dc_need_network pm_need_network cd_need_network ct_need_network : Value}
    {a_need_network_and_row : Addr} {od_need_network_and_row an_need_network_and_row : Option Addr} {sl_need_network_and_row : Array (Option Value)} {oc_need_network_and_row kV_need_network_and_row dc_need_network_and_row pm_need_network_and_row cd_need_network_and_row ct_need_network_and_row : Value}
    {a_all_values : Addr} {od_all_values an_all_values : Option Addr} {sl_all_values : Array (Option Value)} {oc_all_values kV_all_values dc_all_values pm_all_values cd_all_values ct_all_values : Value}
    {a_value_of : Addr} {od_value_of an_value_of : Option Addr} {sl_value_of : Array (Option Value)} {oc_value_of kV_value_of dc_value_of pm_value_of cd_value_of ct_value_of : Value}
    {a_mattering : Addr} {od_mattering an_mattering : Option Addr} {sl_mattering : Array (Option Value)} {oc_mattering kV_mattering dc_mattering pm_mattering cd_mattering ct_mattering : Value}
    {a_trimmed : Addr} {od_trimmed an_trimmed : Option Addr} {sl_trimmed : Array (Option Value)} {oc_trimmed kV_trimmed dc_trimmed pm_trimmed cd_trimmed ct_trimmed : Value}
    {a_left_of : Addr} {od_left_of an_left_of : Option Addr} {sl_left_of : Array (Option Value)} {oc_left_of kV_left_of dc_left_of pm_left_of cd_left_of ct_left_of : Value}
    {a__law_vat : Addr} {od__law_vat an__law_vat : Option Addr} {sl__law_vat : Array (Option Value)} {oc__law_vat kV__law_vat dc__law_vat pm__law_vat cd__law_vat ct__law_vat : Value}
    {a__law_draw : Addr} {od__law_draw an__law_draw : Option Addr} {sl__law_draw : Array (Option Value)} {oc__law_draw kV__law_draw dc__law_draw pm__law_draw cd__law_draw ct__law_draw : Value}
    {a__law_pick : Addr} {od__law_pick an__law_pick : Option Addr} {sl__law_pick : Array (Option Value)} {oc__law_pick kV__law_pick dc__law_pick pm__law_pick cd__law_pick ct__law_pick : Value}
    {a__law_row : Addr} {od__law_row an__law_row : Option Addr} {sl__law_row : Array (Option Value)} {oc__law_row kV__law_row dc__law_row pm__law_row cd__law_row ct__law_row : Value}
    {a__law_parts : Addr} {od__law_parts an__law_parts : Option Addr} {sl__law_parts : Array (Option Value)} {oc__law_parts kV__law_parts dc__law_parts pm__law_parts cd__law_parts ct__law_parts : Value}
    {a__law_rows : Addr} {od__law_rows an__law_rows : Option Addr} {sl__law_rows : Array (Option Value)} {oc__law_rows kV__law_rows dc__law_rows pm__law_rows cd__law_rows ct__law_rows : Value}
    {a__law_thin : Addr} {od__law_thin an__law_thin : Option Addr} {sl__law_thin : Array (Option Value)} {oc__law_thin kV__law_thin dc__law_thin pm__law_thin cd__law_thin ct__law_thin : Value}
    {a__law_trimmed : Addr} {od__law_trimmed an__law_trimmed : Option Addr} {sl__law_trimmed : Array (Option Value)} {oc__law_trimmed kV__law_trimmed dc__law_trimmed pm__law_trimmed cd__law_trimmed ct__law_trimmed : Value}
    {a__law_left : Addr} {od__law_left an__law_left : Option Addr} {sl__law_left : Array (Option Value)} {oc__law_left kV__law_left dc__law_left pm__law_left cd__law_left ct__law_left : Value}
    {a__law_right : Addr} {od__law_right an__law_right : Option Addr} {sl__law_right : Array (Option Value)} {oc__law_right kV__law_right dc__law_right pm__law_right cd__law_right ct__law_right : Value}
    {a_law : Addr} {od_law an_law : Option Addr} {sl_law : Array (Option Value)} {oc_law kV_law dc_law pm_law cd_law ct_law : Value}
    (hC : PySem.W.nsIn K mainGlobals "Network" = some (some (.ref C)))
    (c_BEYOND : PySem.W.nsIn K mainGlobals "BEYOND" = some (some (.int (10 ^ 60) t_BEYOND)))
    (c_BENEATH : PySem.W.nsIn K mainGlobals "BENEATH" = some (some (.int (-(10 ^ 60)) t_BENEATH)))
    (c_MOST_INPUTS : PySem.W.nsIn K mainGlobals "MOST_INPUTS" = some (some (.int 8 t_MOST_INPUTS)))
    (c_MOST_LAYERS : PySem.W.nsIn K mainGlobals "MOST_LAYERS" = some (some (.int 4 t_MOST_LAYERS)))
    (c_MOST_IN_LAYER : PySem.W.nsIn K mainGlobals "MOST_IN_LAYER" = some (some (.int 64 t_MOST_IN_LAYER)))
    (c_MOST_UNITS : PySem.W.nsIn K mainGlobals "MOST_UNITS" = some (some (.int 128 t_MOST_UNITS)))
    (a__is_whole : PySem.W.nsIn K mainGlobals "is_whole" = some (some (.ref a_is_whole)))
    (l__is_whole : K.lookup a_is_whole = some ⟨oc_is_whole, od_is_whole, .func (PySem.W.fnOf "is_whole" "is_whole" (defArgs s_is_whole) (defBody s_is_whole) (defScope s_is_whole) .none kV_is_whole dc_is_whole pm_is_whole an_is_whole cd_is_whole ct_is_whole), sl_is_whole⟩)
    (c__is_whole : PySem.W.codeIn K cd_is_whole "is_whole" = true)
    (k__is_whole : PySem.W.keepIn K (.ref a_is_whole) = true)
    (a__is_short : PySem.W.nsIn K mainGlobals "is_short" = some (some (.ref a_is_short)))
    (l__is_short : K.lookup a_is_short = some ⟨oc_is_short, od_is_short, .func (PySem.W.fnOf "is_short" "is_short" (defArgs s_is_short) (defBody s_is_short) (defScope s_is_short) .none kV_is_short dc_is_short pm_is_short an_is_short cd_is_short ct_is_short), sl_is_short⟩)
    (c__is_short : PySem.W.codeIn K cd_is_short "is_short" = true)
    (k__is_short : PySem.W.keepIn K (.ref a_is_short) = true)
    (a__are_short : PySem.W.nsIn K mainGlobals "are_short" = some (some (.ref a_are_short)))
    (l__are_short : K.lookup a_are_short = some ⟨oc_are_short, od_are_short, .func (PySem.W.fnOf "are_short" "are_short" (defArgs s_are_short) (defBody s_are_short) (defScope s_are_short) .none kV_are_short dc_are_short pm_are_short an_are_short cd_are_short ct_are_short), sl_are_short⟩)
    (c__are_short : PySem.W.codeIn K cd_are_short "are_short" = true)
    (k__are_short : PySem.W.keepIn K (.ref a_are_short) = true)
    (a__is_short_row : PySem.W.nsIn K mainGlobals "is_short_row" = some (some (.ref a_is_short_row)))
    (l__is_short_row : K.lookup a_is_short_row = some ⟨oc_is_short_row, od_is_short_row, .func (PySem.W.fnOf "is_short_row" "is_short_row" (defArgs s_is_short_row) (defBody s_is_short_row) (defScope s_is_short_row) .none kV_is_short_row dc_is_short_row pm_is_short_row an_is_short_row cd_is_short_row ct_is_short_row), sl_is_short_row⟩)
    (c__is_short_row : PySem.W.codeIn K cd_is_short_row "is_short_row" = true)
    (k__is_short_row : PySem.W.keepIn K (.ref a_is_short_row) = true)
    (a__product_of : PySem.W.nsIn K mainGlobals "product_of" = some (some (.ref a_product_of)))
    (l__product_of : K.lookup a_product_of = some ⟨oc_product_of, od_product_of, .func (PySem.W.fnOf "product_of" "product_of" (defArgs s_product_of) (defBody s_product_of) (defScope s_product_of) .none kV_product_of dc_product_of pm_product_of an_product_of cd_product_of ct_product_of), sl_product_of⟩)
    (c__product_of : PySem.W.codeIn K cd_product_of "product_of" = true)
    (k__product_of : PySem.W.keepIn K (.ref a_product_of) = true)
    (a__Networku_initu : PySem.W.findIn K (.ref C) "__init__" = some (some (.ref a_Networku_initu)))
    (i__Networku_initu : PySem.W.isFn K (.ref a_Networku_initu) = true)
    (l__Networku_initu : K.lookup a_Networku_initu = some ⟨oc_Networku_initu, od_Networku_initu, .func (PySem.W.fnOf "__init__" "Network.__init__" (defArgs s_Networku_initu) (defBody s_Networku_initu) (defScope s_Networku_initu) .none kV_Networku_initu dc_Networku_initu pm_Networku_initu an_Networku_initu cd_Networku_initu ct_Networku_initu), sl_Networku_initu⟩)
    (c__Networku_initu : PySem.W.codeIn K cd_Networku_initu "Network.__init__" = true)
    (k__Networku_initu : PySem.W.keepIn K (.ref a_Networku_initu) = true)
    (a__Networku_equ : PySem.W.findIn K (.ref C) "__eq__" = some (some (.ref a_Networku_equ)))
    (i__Networku_equ : PySem.W.isFn K (.ref a_Networku_equ) = true)
    (l__Networku_equ : K.lookup a_Networku_equ = some ⟨oc_Networku_equ, od_Networku_equ, .func (PySem.W.fnOf "__eq__" "Network.__eq__" (defArgs s_Networku_equ) (defBody s_Networku_equ) (defScope s_Networku_equ) .none kV_Networku_equ dc_Networku_equ pm_Networku_equ an_Networku_equ cd_Networku_equ ct_Networku_equ), sl_Networku_equ⟩)
    (c__Networku_equ : PySem.W.codeIn K cd_Networku_equ "Network.__eq__" = true)
    (k__Networku_equ : PySem.W.keepIn K (.ref a_Networku_equ) = true)
    (a__are_parts : PySem.W.nsIn K mainGlobals "are_parts" = some (some (.ref a_are_parts)))
    (l__are_parts : K.lookup a_are_parts = some ⟨oc_are_parts, od_are_parts, .func (PySem.W.fnOf "are_parts" "are_parts" (defArgs s_are_parts) (defBody s_are_parts) (defScope s_are_parts) .none kV_are_parts dc_are_parts pm_are_parts an_are_parts cd_are_parts ct_are_parts), sl_are_parts⟩)
    (c__are_parts : PySem.W.codeIn K cd_are_parts "are_parts" = true)
    (k__are_parts : PySem.W.keepIn K (.ref a_are_parts) = true)
    (a__need_network : PySem.W.nsIn K mainGlobals "need_network" = some (some (.ref a_need_network)))
    (l__need_network : K.lookup a_need_network = some ⟨oc_need_network, od_need_network, .func (PySem.W.fnOf "need_network" "need_network" (defArgs s_need_network) (defBody s_need_network) (defScope s_need_network) .none kV_need_network dc_need_network pm_need_network an_need_network cd_need_network ct_need_network), sl_need_network⟩)
    (c__need_network : PySem.W.codeIn K cd_need_network "need_network" = true)
    (k__need_network : PySem.W.keepIn K (.ref a_need_network) = true)
    (a__need_network_and_row : PySem.W.nsIn K mainGlobals "need_network_and_row" = some (some (.ref a_need_network_and_row)))
    (l__need_network_and_row : K.lookup a_need_network_and_row = some ⟨oc_need_network_and_row, od_need_network_and_row, .func (PySem.W.fnOf "need_network_and_row" "need_network_and_row" (defArgs s_need_network_and_row) (defBody s_need_network_and_row) (defScope s_need_network_and_row) .none kV_need_network_and_row dc_need_network_and_row pm_need_network_and_row an_need_network_and_row cd_need_network_and_row ct_need_network_and_row), sl_need_network_and_row⟩)
    (c__need_network_and_row : PySem.W.codeIn K cd_need_network_and_row "need_network_and_row" = true)
    (k__need_network_and_row : PySem.W.keepIn K (.ref a_need_network_and_row) = true)
    (a__all_values : PySem.W.nsIn K mainGlobals "all_values" = some (some (.ref a_all_values)))
    (l__all_values : K.lookup a_all_values = some ⟨oc_all_values, od_all_values, .func (PySem.W.fnOf "all_values" "all_values" (defArgs s_all_values) (defBody s_all_values) (defScope s_all_values) .none kV_all_values dc_all_values pm_all_values an_all_values cd_all_values ct_all_values), sl_all_values⟩)
    (c__all_values : PySem.W.codeIn K cd_all_values "all_values" = true)
    (k__all_values : PySem.W.keepIn K (.ref a_all_values) = true)
    (a__value_of : PySem.W.nsIn K mainGlobals "value_of" = some (some (.ref a_value_of)))
    (l__value_of : K.lookup a_value_of = some ⟨oc_value_of, od_value_of, .func (PySem.W.fnOf "value_of" "value_of" (defArgs s_value_of) (defBody s_value_of) (defScope s_value_of) .none kV_value_of dc_value_of pm_value_of an_value_of cd_value_of ct_value_of), sl_value_of⟩)
    (c__value_of : PySem.W.codeIn K cd_value_of "value_of" = true)
    (k__value_of : PySem.W.keepIn K (.ref a_value_of) = true)
    (a__mattering : PySem.W.nsIn K mainGlobals "mattering" = some (some (.ref a_mattering)))
    (l__mattering : K.lookup a_mattering = some ⟨oc_mattering, od_mattering, .func (PySem.W.fnOf "mattering" "mattering" (defArgs s_mattering) (defBody s_mattering) (defScope s_mattering) .none kV_mattering dc_mattering pm_mattering an_mattering cd_mattering ct_mattering), sl_mattering⟩)
    (c__mattering : PySem.W.codeIn K cd_mattering "mattering" = true)
    (k__mattering : PySem.W.keepIn K (.ref a_mattering) = true)
    (a__trimmed : PySem.W.nsIn K mainGlobals "trimmed" = some (some (.ref a_trimmed)))
    (l__trimmed : K.lookup a_trimmed = some ⟨oc_trimmed, od_trimmed, .func (PySem.W.fnOf "trimmed" "trimmed" (defArgs s_trimmed) (defBody s_trimmed) (defScope s_trimmed) .none kV_trimmed dc_trimmed pm_trimmed an_trimmed cd_trimmed ct_trimmed), sl_trimmed⟩)
    (c__trimmed : PySem.W.codeIn K cd_trimmed "trimmed" = true)
    (k__trimmed : PySem.W.keepIn K (.ref a_trimmed) = true)
    (a__left_of : PySem.W.nsIn K mainGlobals "left_of" = some (some (.ref a_left_of)))
    (l__left_of : K.lookup a_left_of = some ⟨oc_left_of, od_left_of, .func (PySem.W.fnOf "left_of" "left_of" (defArgs s_left_of) (defBody s_left_of) (defScope s_left_of) .none kV_left_of dc_left_of pm_left_of an_left_of cd_left_of ct_left_of), sl_left_of⟩)
    (c__left_of : PySem.W.codeIn K cd_left_of "left_of" = true)
    (k__left_of : PySem.W.keepIn K (.ref a_left_of) = true)
    (a___law_vat : PySem.W.nsIn K mainGlobals "_law_vat" = some (some (.ref a__law_vat)))
    (l___law_vat : K.lookup a__law_vat = some ⟨oc__law_vat, od__law_vat, .func (PySem.W.fnOf "_law_vat" "_law_vat" (defArgs s__law_vat) (defBody s__law_vat) (defScope s__law_vat) .none kV__law_vat dc__law_vat pm__law_vat an__law_vat cd__law_vat ct__law_vat), sl__law_vat⟩)
    (c___law_vat : PySem.W.codeIn K cd__law_vat "_law_vat" = true)
    (k___law_vat : PySem.W.keepIn K (.ref a__law_vat) = true)
    (a___law_draw : PySem.W.nsIn K mainGlobals "_law_draw" = some (some (.ref a__law_draw)))
    (l___law_draw : K.lookup a__law_draw = some ⟨oc__law_draw, od__law_draw, .func (PySem.W.fnOf "_law_draw" "_law_draw" (defArgs s__law_draw) (defBody s__law_draw) (defScope s__law_draw) .none kV__law_draw dc__law_draw pm__law_draw an__law_draw cd__law_draw ct__law_draw), sl__law_draw⟩)
    (c___law_draw : PySem.W.codeIn K cd__law_draw "_law_draw" = true)
    (k___law_draw : PySem.W.keepIn K (.ref a__law_draw) = true)
    (a___law_pick : PySem.W.nsIn K mainGlobals "_law_pick" = some (some (.ref a__law_pick)))
    (l___law_pick : K.lookup a__law_pick = some ⟨oc__law_pick, od__law_pick, .func (PySem.W.fnOf "_law_pick" "_law_pick" (defArgs s__law_pick) (defBody s__law_pick) (defScope s__law_pick) .none kV__law_pick dc__law_pick pm__law_pick an__law_pick cd__law_pick ct__law_pick), sl__law_pick⟩)
    (c___law_pick : PySem.W.codeIn K cd__law_pick "_law_pick" = true)
    (k___law_pick : PySem.W.keepIn K (.ref a__law_pick) = true)
    (a___law_row : PySem.W.nsIn K mainGlobals "_law_row" = some (some (.ref a__law_row)))
    (l___law_row : K.lookup a__law_row = some ⟨oc__law_row, od__law_row, .func (PySem.W.fnOf "_law_row" "_law_row" (defArgs s__law_row) (defBody s__law_row) (defScope s__law_row) .none kV__law_row dc__law_row pm__law_row an__law_row cd__law_row ct__law_row), sl__law_row⟩)
    (c___law_row : PySem.W.codeIn K cd__law_row "_law_row" = true)
    (k___law_row : PySem.W.keepIn K (.ref a__law_row) = true)
    (a___law_parts : PySem.W.nsIn K mainGlobals "_law_parts" = some (some (.ref a__law_parts)))
    (l___law_parts : K.lookup a__law_parts = some ⟨oc__law_parts, od__law_parts, .func (PySem.W.fnOf "_law_parts" "_law_parts" (defArgs s__law_parts) (defBody s__law_parts) (defScope s__law_parts) .none kV__law_parts dc__law_parts pm__law_parts an__law_parts cd__law_parts ct__law_parts), sl__law_parts⟩)
    (c___law_parts : PySem.W.codeIn K cd__law_parts "_law_parts" = true)
    (k___law_parts : PySem.W.keepIn K (.ref a__law_parts) = true)
    (a___law_rows : PySem.W.nsIn K mainGlobals "_law_rows" = some (some (.ref a__law_rows)))
    (l___law_rows : K.lookup a__law_rows = some ⟨oc__law_rows, od__law_rows, .func (PySem.W.fnOf "_law_rows" "_law_rows" (defArgs s__law_rows) (defBody s__law_rows) (defScope s__law_rows) .none kV__law_rows dc__law_rows pm__law_rows an__law_rows cd__law_rows ct__law_rows), sl__law_rows⟩)
    (c___law_rows : PySem.W.codeIn K cd__law_rows "_law_rows" = true)
    (k___law_rows : PySem.W.keepIn K (.ref a__law_rows) = true)
    (a___law_thin : PySem.W.nsIn K mainGlobals "_law_thin" = some (some (.ref a__law_thin)))
    (l___law_thin : K.lookup a__law_thin = some ⟨oc__law_thin, od__law_thin, .func (PySem.W.fnOf "_law_thin" "_law_thin" (defArgs s__law_thin) (defBody s__law_thin) (defScope s__law_thin) .none kV__law_thin dc__law_thin pm__law_thin an__law_thin cd__law_thin ct__law_thin), sl__law_thin⟩)
    (c___law_thin : PySem.W.codeIn K cd__law_thin "_law_thin" = true)
    (k___law_thin : PySem.W.keepIn K (.ref a__law_thin) = true)
    (a___law_trimmed : PySem.W.nsIn K mainGlobals "_law_trimmed" = some (some (.ref a__law_trimmed)))
    (l___law_trimmed : K.lookup a__law_trimmed = some ⟨oc__law_trimmed, od__law_trimmed, .func (PySem.W.fnOf "_law_trimmed" "_law_trimmed" (defArgs s__law_trimmed) (defBody s__law_trimmed) (defScope s__law_trimmed) .none kV__law_trimmed dc__law_trimmed pm__law_trimmed an__law_trimmed cd__law_trimmed ct__law_trimmed), sl__law_trimmed⟩)
    (c___law_trimmed : PySem.W.codeIn K cd__law_trimmed "_law_trimmed" = true)
    (k___law_trimmed : PySem.W.keepIn K (.ref a__law_trimmed) = true)
    (a___law_left : PySem.W.nsIn K mainGlobals "_law_left" = some (some (.ref a__law_left)))
    (l___law_left : K.lookup a__law_left = some ⟨oc__law_left, od__law_left, .func (PySem.W.fnOf "_law_left" "_law_left" (defArgs s__law_left) (defBody s__law_left) (defScope s__law_left) .none kV__law_left dc__law_left pm__law_left an__law_left cd__law_left ct__law_left), sl__law_left⟩)
    (c___law_left : PySem.W.codeIn K cd__law_left "_law_left" = true)
    (k___law_left : PySem.W.keepIn K (.ref a__law_left) = true)
    (a___law_right : PySem.W.nsIn K mainGlobals "_law_right" = some (some (.ref a__law_right)))
    (l___law_right : K.lookup a__law_right = some ⟨oc__law_right, od__law_right, .func (PySem.W.fnOf "_law_right" "_law_right" (defArgs s__law_right) (defBody s__law_right) (defScope s__law_right) .none kV__law_right dc__law_right pm__law_right an__law_right cd__law_right ct__law_right), sl__law_right⟩)
    (c___law_right : PySem.W.codeIn K cd__law_right "_law_right" = true)
    (k___law_right : PySem.W.keepIn K (.ref a__law_right) = true)
    (a__law : PySem.W.nsIn K mainGlobals "law" = some (some (.ref a_law)))
    (l__law : K.lookup a_law = some ⟨oc_law, od_law, .func (PySem.W.fnOf "law" "law" (defArgs s_law) (defBody s_law) (defScope s_law) .none kV_law dc_law pm_law an_law cd_law ct_law), sl_law⟩)
    (c__law : PySem.W.codeIn K cd_law "law" = true)
    (k__law : PySem.W.keepIn K (.ref a_law) = true)
    (z_isinstance : PySem.W.nsIn K mainGlobals "isinstance" = some none)
    (z_int : PySem.W.nsIn K mainGlobals "int" = some none)
    (z_bool : PySem.W.nsIn K mainGlobals "bool" = some none)
    (z_tuple : PySem.W.nsIn K mainGlobals "tuple" = some none)
    (z_list : PySem.W.nsIn K mainGlobals "list" = some none)
    (z_len : PySem.W.nsIn K mainGlobals "len" = some none)
    (z_sum : PySem.W.nsIn K mainGlobals "sum" = some none)
    (z_all : PySem.W.nsIn K mainGlobals "all" = some none)
    (z_any : PySem.W.nsIn K mainGlobals "any" = some none)
    (z_zip : PySem.W.nsIn K mainGlobals "zip" = some none)
    (z_max : PySem.W.nsIn K mainGlobals "max" = some none)
    (z_min : PySem.W.nsIn K mainGlobals "min" = some none)
    (z_abs : PySem.W.nsIn K mainGlobals "abs" = some none)
    (z_range : PySem.W.nsIn K mainGlobals "range" = some none)
    (z_enumerate : PySem.W.nsIn K mainGlobals "enumerate" = some none)
    (z_reversed : PySem.W.nsIn K mainGlobals "reversed" = some none)
    (z_sorted : PySem.W.nsIn K mainGlobals "sorted" = some none)
    (pg : PySem.W.plainGet K C Str.empty = true)
    (hd : PySem.W.hasDictIn K C = true)
    (po : PySem.W.plainOver K C = true)
    (sa : PySem.W.findIn K (.ref C) "__setattr__" = some (some (.builtin "object.__setattr__")))
    (mk : PySem.W.makesIn K C = true)
    (kc : PySem.W.keepIn K (.ref C) = true)
    (n_inputs : PySem.W.findIn K (.ref C) "inputs" = some none)
    (n_layers : PySem.W.findIn K (.ref C) "layers" = some none)
    (n_last : PySem.W.findIn K (.ref C) "last" = some none)
    (n_depth : PySem.W.findIn K (.ref C) "depth" = some none)
    (n_units : PySem.W.findIn K (.ref C) "units" = some none)
    (ica : PySem.W.findIn K (.ref C) "__class__" = some (some (.builtin "object.__class__")))
    (icn : PySem.W.specialIn K (.builtin "object.__class__") "__get__" = some (some (.builtin "getset_descriptor.__get__")))
    (ict : PySem.W.takesIn K (.builtin "object.__class__") = some true)
    (icm : PySem.W.mroIn K C (.type "object") = some true)
    (one : PySem.W.findIn K (.ref C) "__ne__" = some (some (.builtin "object.__ne__")))
    (osub : PySem.W.notFirst K C (.ref C) = true) :
    ∃ fd : FuncData, (∀ (s : Shared) (v : Value), BindsTo s fd ⟨[v], []⟩ [("script", v)]) ∧ ∀ base : Heap, K.In base → base.Ns mainGlobals mg → FnOk l.prog w K mg base CX0 9 fa fd ["script"] (SpD K gLaw) := by
  have e := hfa.symm.trans (PySem.W.mg_of X G a__law)
  cases e
  have F_is_whole := fun_mk (st := s_is_whole) l__is_whole c__is_whole k__is_whole
  have b_is_whole := F_is_whole.binds (ps := ["value"]) fun _ _ _ _ _ _ us hl => match us, hl with | [_], _ => rfl
  have F_is_short := fun_mk (st := s_is_short) l__is_short c__is_short k__is_short
  have b_is_short := F_is_short.binds (ps := ["value"]) fun _ _ _ _ _ _ us hl => match us, hl with | [_], _ => rfl
  have F_are_short := fun_mk (st := s_are_short) l__are_short c__are_short k__are_short
  have b_are_short := F_are_short.binds (ps := ["values"]) fun _ _ _ _ _ _ us hl => match us, hl with | [_], _ => rfl
  have F_is_short_row := fun_mk (st := s_is_short_row) l__is_short_row c__is_short_row k__is_short_row
  have b_is_short_row := F_is_short_row.binds (ps := ["value", "least", "most"]) fun _ _ _ _ _ _ us hl => match us, hl with | [_, _, _], _ => rfl
  have F_product_of := fun_mk (st := s_product_of) l__product_of c__product_of k__product_of
  have b_product_of := F_product_of.binds (ps := ["one", "other"]) fun _ _ _ _ _ _ us hl => match us, hl with | [_, _], _ => rfl
  have F_Networku_initu := fun_mk (st := s_Networku_initu) l__Networku_initu c__Networku_initu k__Networku_initu
  have b_Networku_initu := F_Networku_initu.binds (ps := ["self", "inputs", "layers", "last"]) fun _ _ _ _ _ _ us hl => match us, hl with | [_, _, _, _], _ => rfl
  have F_Networku_equ := fun_mk (st := s_Networku_equ) l__Networku_equ c__Networku_equ k__Networku_equ
  have b_Networku_equ := F_Networku_equ.binds (ps := ["self", "value"]) fun _ _ _ _ _ _ us hl => match us, hl with | [_, _], _ => rfl
  have F_are_parts := fun_mk (st := s_are_parts) l__are_parts c__are_parts k__are_parts
  have b_are_parts := F_are_parts.binds (ps := ["inputs", "layers", "last"]) fun _ _ _ _ _ _ us hl => match us, hl with | [_, _, _], _ => rfl
  have F_need_network := fun_mk (st := s_need_network) l__need_network c__need_network k__need_network
  have b_need_network := F_need_network.binds (ps := ["network"]) fun _ _ _ _ _ _ us hl => match us, hl with | [_], _ => rfl
  have F_need_network_and_row := fun_mk (st := s_need_network_and_row) l__need_network_and_row c__need_network_and_row k__need_network_and_row
  have b_need_network_and_row := F_need_network_and_row.binds (ps := ["network", "row"]) fun _ _ _ _ _ _ us hl => match us, hl with | [_, _], _ => rfl
  have F_all_values := fun_mk (st := s_all_values) l__all_values c__all_values k__all_values
  have b_all_values := F_all_values.binds (ps := ["network", "row"]) fun _ _ _ _ _ _ us hl => match us, hl with | [_, _], _ => rfl
  have F_value_of := fun_mk (st := s_value_of) l__value_of c__value_of k__value_of
  have b_value_of := F_value_of.binds (ps := ["network", "row"]) fun _ _ _ _ _ _ us hl => match us, hl with | [_, _], _ => rfl
  have F_mattering := fun_mk (st := s_mattering) l__mattering c__mattering k__mattering
  have b_mattering := F_mattering.binds (ps := ["network"]) fun _ _ _ _ _ _ us hl => match us, hl with | [_], _ => rfl
  have F_trimmed := fun_mk (st := s_trimmed) l__trimmed c__trimmed k__trimmed
  have b_trimmed := F_trimmed.binds (ps := ["network"]) fun _ _ _ _ _ _ us hl => match us, hl with | [_], _ => rfl
  have F_left_of := fun_mk (st := s_left_of) l__left_of c__left_of k__left_of
  have b_left_of := F_left_of.binds (ps := ["row", "kept"]) fun _ _ _ _ _ _ us hl => match us, hl with | [_, _], _ => rfl
  have F__law_vat := fun_mk (st := s__law_vat) l___law_vat c___law_vat k___law_vat
  have b__law_vat := F__law_vat.binds (ps := ["script", "spot"]) fun _ _ _ _ _ _ us hl => match us, hl with | [_, _], _ => rfl
  have F__law_draw := fun_mk (st := s__law_draw) l___law_draw c___law_draw k___law_draw
  have b__law_draw := F__law_draw.binds (ps := ["vat", "total"]) fun _ _ _ _ _ _ us hl => match us, hl with | [_, _], _ => rfl
  have F__law_pick := fun_mk (st := s__law_pick) l___law_pick c___law_pick k___law_pick
  have b__law_pick := F__law_pick.binds (ps := ["vat", "items"]) fun _ _ _ _ _ _ us hl => match us, hl with | [_, _], _ => rfl
  have F__law_row := fun_mk (st := s__law_row) l___law_row c___law_row k___law_row
  have b__law_row := F__law_row.binds (ps := ["vat", "many", "size"]) fun _ _ _ _ _ _ us hl => match us, hl with | [_, _, _], _ => rfl
  have F__law_parts := fun_mk (st := s__law_parts) l___law_parts c___law_parts k___law_parts
  have b__law_parts := F__law_parts.binds (ps := ["vat", "inputs", "depth", "wide", "size"]) fun _ _ _ _ _ _ us hl => match us, hl with | [_, _, _, _, _], _ => rfl
  have F__law_rows := fun_mk (st := s__law_rows) l___law_rows c___law_rows k___law_rows
  have b__law_rows := F__law_rows.binds (ps := ["vat", "many", "turns"]) fun _ _ _ _ _ _ us hl => match us, hl with | [_, _, _], _ => rfl
  have F__law_thin := fun_mk (st := s__law_thin) l___law_thin c___law_thin k___law_thin
  have b__law_thin := F__law_thin.binds (ps := ["vat", "row", "inputs"]) fun _ _ _ _ _ _ us hl => match us, hl with | [_, _, _], _ => rfl
  have F__law_trimmed := fun_mk (st := s__law_trimmed) l___law_trimmed c___law_trimmed k___law_trimmed
  have b__law_trimmed := F__law_trimmed.binds (ps := ["inputs", "layers", "last"]) fun _ _ _ _ _ _ us hl => match us, hl with | [_, _, _], _ => rfl
  have F__law_left := fun_mk (st := s__law_left) l___law_left c___law_left k___law_left
  have b__law_left := F__law_left.binds (ps := ["row", "inputs", "stays"]) fun _ _ _ _ _ _ us hl => match us, hl with | [_, _, _], _ => rfl
  have F__law_right := fun_mk (st := s__law_right) l___law_right c___law_right k___law_right
  have b__law_right := F__law_right.binds (ps := ["vat"]) fun _ _ _ _ _ _ us hl => match us, hl with | [_], _ => rfl
  have F_law := fun_mk (st := s_law) l__law c__law k__law
  have b_law := F_law.binds (ps := ["script"]) fun _ _ _ _ _ _ us hl => match us, hl with | [_], _ => rfl
  let T : Txt K mg := { a_is_whole := a_is_whole, d_is_whole := _, F_is_whole := F_is_whole, b_is_whole := b_is_whole, m_is_whole := PySem.W.mg_of X G a__is_whole, k_is_whole := k__is_whole, a_is_short := a_is_short, d_is_short := _, F_is_short := F_is_short, b_is_short := b_is_short, m_is_short := PySem.W.mg_of X G a__is_short, k_is_short := k__is_short, a_are_short := a_are_short, d_are_short := _, F_are_short := F_are_short, b_are_short := b_are_short, m_are_short := PySem.W.mg_of X G a__are_short, k_are_short := k__are_short, a_is_short_row := a_is_short_row, d_is_short_row := _, F_is_short_row := F_is_short_row, b_is_short_row := b_is_short_row, m_is_short_row := PySem.W.mg_of X G a__is_short_row, k_is_short_row := k__is_short_row, a_product_of := a_product_of, d_product_of := _, F_product_of := F_product_of, b_product_of := b_product_of, m_product_of := PySem.W.mg_of X G a__product_of, k_product_of := k__product_of, a_Networku_initu := a_Networku_initu, d_Networku_initu := _, F_Networku_initu := F_Networku_initu, b_Networku_initu := b_Networku_initu, a_Networku_equ := a_Networku_equ, d_Networku_equ := _, F_Networku_equ := F_Networku_equ, b_Networku_equ := b_Networku_equ, a_are_parts := a_are_parts, d_are_parts := _, F_are_parts := F_are_parts, b_are_parts := b_are_parts, m_are_parts := PySem.W.mg_of X G a__are_parts, k_are_parts := k__are_parts, a_need_network := a_need_network, d_need_network := _, F_need_network := F_need_network, b_need_network := b_need_network, m_need_network := PySem.W.mg_of X G a__need_network, k_need_network := k__need_network, a_need_network_and_row := a_need_network_and_row, d_need_network_and_row := _, F_need_network_and_row := F_need_network_and_row, b_need_network_and_row := b_need_network_and_row, m_need_network_and_row := PySem.W.mg_of X G a__need_network_and_row, k_need_network_and_row := k__need_network_and_row, a_all_values := a_all_values, d_all_values := _, F_all_values := F_all_values, b_all_values := b_all_values, m_all_values := PySem.W.mg_of X G a__all_values, k_all_values := k__all_values, a_value_of := a_value_of, d_value_of := _, F_value_of := F_value_of, b_value_of := b_value_of, m_value_of := PySem.W.mg_of X G a__value_of, k_value_of := k__value_of, a_mattering := a_mattering, d_mattering := _, F_mattering := F_mattering, b_mattering := b_mattering, m_mattering := PySem.W.mg_of X G a__mattering, k_mattering := k__mattering, a_trimmed := a_trimmed, d_trimmed := _, F_trimmed := F_trimmed, b_trimmed := b_trimmed, m_trimmed := PySem.W.mg_of X G a__trimmed, k_trimmed := k__trimmed, a_left_of := a_left_of, d_left_of := _, F_left_of := F_left_of, b_left_of := b_left_of, m_left_of := PySem.W.mg_of X G a__left_of, k_left_of := k__left_of, a__law_vat := a__law_vat, d__law_vat := _, F__law_vat := F__law_vat, b__law_vat := b__law_vat, m__law_vat := PySem.W.mg_of X G a___law_vat, k__law_vat := k___law_vat, a__law_draw := a__law_draw, d__law_draw := _, F__law_draw := F__law_draw, b__law_draw := b__law_draw, m__law_draw := PySem.W.mg_of X G a___law_draw, k__law_draw := k___law_draw, a__law_pick := a__law_pick, d__law_pick := _, F__law_pick := F__law_pick, b__law_pick := b__law_pick, m__law_pick := PySem.W.mg_of X G a___law_pick, k__law_pick := k___law_pick, a__law_row := a__law_row, d__law_row := _, F__law_row := F__law_row, b__law_row := b__law_row, m__law_row := PySem.W.mg_of X G a___law_row, k__law_row := k___law_row, a__law_parts := a__law_parts, d__law_parts := _, F__law_parts := F__law_parts, b__law_parts := b__law_parts, m__law_parts := PySem.W.mg_of X G a___law_parts, k__law_parts := k___law_parts, a__law_rows := a__law_rows, d__law_rows := _, F__law_rows := F__law_rows, b__law_rows := b__law_rows, m__law_rows := PySem.W.mg_of X G a___law_rows, k__law_rows := k___law_rows, a__law_thin := a__law_thin, d__law_thin := _, F__law_thin := F__law_thin, b__law_thin := b__law_thin, m__law_thin := PySem.W.mg_of X G a___law_thin, k__law_thin := k___law_thin, a__law_trimmed := a__law_trimmed, d__law_trimmed := _, F__law_trimmed := F__law_trimmed, b__law_trimmed := b__law_trimmed, m__law_trimmed := PySem.W.mg_of X G a___law_trimmed, k__law_trimmed := k___law_trimmed, a__law_left := a__law_left, d__law_left := _, F__law_left := F__law_left, b__law_left := b__law_left, m__law_left := PySem.W.mg_of X G a___law_left, k__law_left := k___law_left, a__law_right := a__law_right, d__law_right := _, F__law_right := F__law_right, b__law_right := b__law_right, m__law_right := PySem.W.mg_of X G a___law_right, k__law_right := k___law_right, a_law := fa, d_law := _, F_law := F_law, b_law := b_law, t_BEYOND := t_BEYOND, m_BEYOND := PySem.W.mg_of X G c_BEYOND, t_BENEATH := t_BENEATH, m_BENEATH := PySem.W.mg_of X G c_BENEATH, t_MOST_INPUTS := t_MOST_INPUTS, m_MOST_INPUTS := PySem.W.mg_of X G c_MOST_INPUTS, t_MOST_LAYERS := t_MOST_LAYERS, m_MOST_LAYERS := PySem.W.mg_of X G c_MOST_LAYERS, t_MOST_IN_LAYER := t_MOST_IN_LAYER, m_MOST_IN_LAYER := PySem.W.mg_of X G c_MOST_IN_LAYER, t_MOST_UNITS := t_MOST_UNITS, m_MOST_UNITS := PySem.W.mg_of X G c_MOST_UNITS, n_isinstance := PySem.W.mg_none_of X G z_isinstance, n_int := PySem.W.mg_none_of X G z_int, n_bool := PySem.W.mg_none_of X G z_bool, n_tuple := PySem.W.mg_none_of X G z_tuple, n_list := PySem.W.mg_none_of X G z_list, n_len := PySem.W.mg_none_of X G z_len, n_sum := PySem.W.mg_none_of X G z_sum, n_all := PySem.W.mg_none_of X G z_all, n_any := PySem.W.mg_none_of X G z_any, n_zip := PySem.W.mg_none_of X G z_zip, n_max := PySem.W.mg_none_of X G z_max, n_min := PySem.W.mg_none_of X G z_min, n_abs := PySem.W.mg_none_of X G z_abs, n_range := PySem.W.mg_none_of X G z_range, n_enumerate := PySem.W.mg_none_of X G z_enumerate, n_reversed := PySem.W.mg_none_of X G z_reversed, n_sorted := PySem.W.mg_none_of X G z_sorted, C := C, cl := ⟨pg, hd, po, sa⟩, na_inputs := n_inputs, na_layers := n_layers, na_last := n_last, na_depth := n_depth, na_units := n_units, m_Network := PySem.W.mg_of X G hC, M_Network := ⟨mk, a__Networku_initu, i__Networku_initu, kc⟩, isC := ⟨⟨pg, hd, po, sa⟩, ica, icn, ict, icm⟩, o_eq := a__Networku_equ, o_fn := i__Networku_equ, o_ne := one, o_sub := osub, kC := by unfold PySem.W.kitOne; simp }
  exact ⟨_, fun s v => .of_eq rfl, fun base _ _ => ok_law T⟩
theorem walk {l : PySem.W.OpenLaw} {q : Program} {loose : List Str} {XP : (Str → Option Value) → Heap → Prop} {YP : World → Heap → Prop} {d : DefRec} {K : Params → PySem.W.Frag} (hn : l.most = some 63) (hdf : d.params.defaults = [])
    (hY : ∀ (w : World) (h : Heap), YP w h → (K w.params).In h)
    (F : ∀ (w : World) (mg : Str → Option Value) (fa : Addr) (h : Heap), (K w.params).In h → h.Ns mainGlobals mg → mg d.name = some (.ref fa) →
      ∃ fd : FuncData, (∀ (s : Shared) (u : Value), BindsTo s fd ⟨[u], []⟩ [("script", u)]) ∧ ∀ base : Heap, (K w.params).In base → base.Ns mainGlobals mg → FnOk l.prog w (K w.params) mg base CX0 9 fa fd ["script"] (SpD (K w.params) gLaw)) :
    PySem.W.WalkO q loose XP YP l.row.toRowW d [] (fun f vs => PySem.call f vs) :=
  L2.walk_of (n := 63) (k := 9) (x := "script") (CX := fun _ => CX0) (sp := fun w => SpD (K w.params) gLaw) hn (by decide) hdf ⟨rfl, by decide, by decide⟩ hY F (fun _ H a ns hl _ hS => ⟨H, [], [], [.d (.scr ns)], .bl true, [], ⟨Evl.Ex.refl _, rfl, fun k a s h => by simp at h, List.nodup_nil⟩, .cons (Rep.scr hS : Rep _ _ _ (.scr ns)) .nil, ⟨ns, rfl, hl, rfl, rfl, rfl⟩, fun v B' H' _ _ r => by cases r; rfl⟩) fun _ _ _ _ _ z => z
end N21
open PySem PySem.W PyProof.Rows
set_option maxRecDepth 100000 in
set_option maxHeartbeats 0 in
theorem PySem.Challenge.cw_rampworks_k21_whole_trimmed_networks_holds : PySem.Challenge.rw_rampworks_k21_whole_trimmed_networks.Holds := by
  w_on; o_law; k_head; (case hw => w_witness2)
  k_fill
  refine N21.walk (l := PySem.Challenge.rw_rampworks_k21_whole_trimmed_networks) rfl rfl (fun w h Y => PySem.W.kIn_of Y) ?F
  case F =>
    intro w mg fa h KX G hmg
    refine' N21.all_mk KX G hmg ?hC ?c_BEYOND ?c_BENEATH ?c_MOST_INPUTS ?c_MOST_LAYERS ?c_MOST_IN_LAYER ?c_MOST_UNITS ?a__is_whole ?l__is_whole ?c__is_whole ?k__is_whole ?a__is_short ?l__is_short ?c__is_short ?k__is_short ?a__are_short ?l__are_short ?c__are_short ?k__are_short ?a__is_short_row ?l__is_short_row ?c__is_short_row ?k__is_short_row ?a__product_of ?l__product_of ?c__product_of ?k__product_of ?a__Networku_initu ?i__Networku_initu ?l__Networku_initu ?c__Networku_initu ?k__Networku_initu ?a__Networku_equ ?i__Networku_equ ?l__Networku_equ ?c__Networku_equ ?k__Networku_equ ?a__are_parts ?l__are_parts ?c__are_parts ?k__are_parts ?a__need_network ?l__need_network ?c__need_network ?k__need_network ?a__need_network_and_row ?l__need_network_and_row ?c__need_network_and_row ?k__need_network_and_row ?a__all_values ?l__all_values ?c__all_values ?k__all_values ?a__value_of ?l__value_of ?c__value_of ?k__value_of ?a__mattering ?l__mattering ?c__mattering ?k__mattering ?a__trimmed ?l__trimmed ?c__trimmed ?k__trimmed ?a__left_of ?l__left_of ?c__left_of ?k__left_of ?a___law_vat ?l___law_vat ?c___law_vat ?k___law_vat ?a___law_draw ?l___law_draw ?c___law_draw ?k___law_draw ?a___law_pick ?l___law_pick ?c___law_pick ?k___law_pick ?a___law_row ?l___law_row ?c___law_row ?k___law_row ?a___law_parts ?l___law_parts ?c___law_parts ?k___law_parts ?a___law_rows ?l___law_rows ?c___law_rows ?k___law_rows ?a___law_thin ?l___law_thin ?c___law_thin ?k___law_thin ?a___law_trimmed ?l___law_trimmed ?c___law_trimmed ?k___law_trimmed ?a___law_left ?l___law_left ?c___law_left ?k___law_left ?a___law_right ?l___law_right ?c___law_right ?k___law_right ?a__law ?l__law ?c__law ?k__law ?z_isinstance ?z_int ?z_bool ?z_tuple ?z_list ?z_len ?z_sum ?z_all ?z_any ?z_zip ?z_max ?z_min ?z_abs ?z_range ?z_enumerate ?z_reversed ?z_sorted ?pg ?hd ?po ?sa ?mk ?kc ?n_inputs ?n_layers ?n_last ?n_depth ?n_units ?ica ?icn ?ict ?icm ?one ?osub
    (case hC => k_is)
    (case c_BEYOND => k_is)
    (case c_BENEATH => k_is)
    (case c_MOST_INPUTS => k_is)
    (case c_MOST_LAYERS => k_is)
    (case c_MOST_IN_LAYER => k_is)
    (case c_MOST_UNITS => k_is)
    (case a__is_whole => k_is)
    (case l__is_whole => k_is)
    (case c__is_whole => k_is)
    (case k__is_whole => k_is)
    (case a__is_short => k_is)
    (case l__is_short => k_is)
    (case c__is_short => k_is)
    (case k__is_short => k_is)
    (case a__are_short => k_is)
    (case l__are_short => k_is)
    (case c__are_short => k_is)
    (case k__are_short => k_is)
    (case a__is_short_row => k_is)
    (case l__is_short_row => k_is)
    (case c__is_short_row => k_is)
    (case k__is_short_row => k_is)
    (case a__product_of => k_is)
    (case l__product_of => k_is)
    (case c__product_of => k_is)
    (case k__product_of => k_is)
    (case a__Networku_initu => k_is)
    (case i__Networku_initu => k_is)
    (case l__Networku_initu => k_is)
    (case c__Networku_initu => k_is)
    (case k__Networku_initu => k_is)
    (case a__Networku_equ => k_is)
    (case i__Networku_equ => k_is)
    (case l__Networku_equ => k_is)
    (case c__Networku_equ => k_is)
    (case k__Networku_equ => k_is)
    (case a__are_parts => k_is)
    (case l__are_parts => k_is)
    (case c__are_parts => k_is)
    (case k__are_parts => k_is)
    (case a__need_network => k_is)
    (case l__need_network => k_is)
    (case c__need_network => k_is)
    (case k__need_network => k_is)
    (case a__need_network_and_row => k_is)
    (case l__need_network_and_row => k_is)
    (case c__need_network_and_row => k_is)
    (case k__need_network_and_row => k_is)
    (case a__all_values => k_is)
    (case l__all_values => k_is)
    (case c__all_values => k_is)
    (case k__all_values => k_is)
    (case a__value_of => k_is)
    (case l__value_of => k_is)
    (case c__value_of => k_is)
    (case k__value_of => k_is)
    (case a__mattering => k_is)
    (case l__mattering => k_is)
    (case c__mattering => k_is)
    (case k__mattering => k_is)
    (case a__trimmed => k_is)
    (case l__trimmed => k_is)
    (case c__trimmed => k_is)
    (case k__trimmed => k_is)
    (case a__left_of => k_is)
    (case l__left_of => k_is)
    (case c__left_of => k_is)
    (case k__left_of => k_is)
    (case a___law_vat => k_is)
    (case l___law_vat => k_is)
    (case c___law_vat => k_is)
    (case k___law_vat => k_is)
    (case a___law_draw => k_is)
    (case l___law_draw => k_is)
    (case c___law_draw => k_is)
    (case k___law_draw => k_is)
    (case a___law_pick => k_is)
    (case l___law_pick => k_is)
    (case c___law_pick => k_is)
    (case k___law_pick => k_is)
    (case a___law_row => k_is)
    (case l___law_row => k_is)
    (case c___law_row => k_is)
    (case k___law_row => k_is)
    (case a___law_parts => k_is)
    (case l___law_parts => k_is)
    (case c___law_parts => k_is)
    (case k___law_parts => k_is)
    (case a___law_rows => k_is)
    (case l___law_rows => k_is)
    (case c___law_rows => k_is)
    (case k___law_rows => k_is)
    (case a___law_thin => k_is)
    (case l___law_thin => k_is)
    (case c___law_thin => k_is)
    (case k___law_thin => k_is)
    (case a___law_trimmed => k_is)
    (case l___law_trimmed => k_is)
    (case c___law_trimmed => k_is)
    (case k___law_trimmed => k_is)
    (case a___law_left => k_is)
    (case l___law_left => k_is)
    (case c___law_left => k_is)
    (case k___law_left => k_is)
    (case a___law_right => k_is)
    (case l___law_right => k_is)
    (case c___law_right => k_is)
    (case k___law_right => k_is)
    (case a__law => k_is)
    (case l__law => k_is)
    (case c__law => k_is)
    (case k__law => k_is)
    (case z_isinstance => k_is)
    (case z_int => k_is)
    (case z_bool => k_is)
    (case z_tuple => k_is)
    (case z_list => k_is)
    (case z_len => k_is)
    (case z_sum => k_is)
    (case z_all => k_is)
    (case z_any => k_is)
    (case z_zip => k_is)
    (case z_max => k_is)
    (case z_min => k_is)
    (case z_abs => k_is)
    (case z_range => k_is)
    (case z_enumerate => k_is)
    (case z_reversed => k_is)
    (case z_sorted => k_is)
    (case pg => k_is)
    (case hd => k_is)
    (case po => k_is)
    (case sa => k_is)
    (case mk => k_is)
    (case kc => k_is)
    (case n_inputs => k_is)
    (case n_layers => k_is)
    (case n_last => k_is)
    (case n_depth => k_is)
    (case n_units => k_is)
    (case ica => k_is)
    (case icn => k_is)
    (case ict => k_is)
    (case icm => k_is)
    (case one => k_is)
    (case osub => k_is)
