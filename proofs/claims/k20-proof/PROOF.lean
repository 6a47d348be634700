import PyProof.Rows.All
import Wide.All
import OpenK.AllK
import Wide.FinOn
import PyProof.EqAt
import PyProof.EqKinds
import PyProof.TupleCall
import KE.GoesEnum
import HandS.Base
import HandS.Call
import HandS.List
import HandS.Comp
import HandS.Iter
import HandS.Evl
import HandS.Words
import HandS.Conv
import HandS.TupAny
import HandS.TupMul
import HandS.IsInst
import HandS.Wide
import HandS.RevRange
import HandS.SortInts
import PyProof.IsRules
import HandS.OwnEq
import HandS.More
import PyProof.InstNe
import HandS.FStr
import HandS.Text
import KE.KCallOwn
import HandS.Star
import PySem.Challenge.RW_rampworks_k20_whole_networks_put_togethe
set_option Elab.async false
set_option linter.all false
set_option maxRecDepth 100000
set_option maxHeartbeats 4000000
namespace RW
open PySem PySem.Spec PyProof.Rows L2

/-- a sequence at a: a list (true), a tuple (false) -/
def Sq (K : PySem.W.Frag) (k : Bool) (H : Hp) (a : Addr) (xs : List V) : Prop := match k with
  | true => SqL K H a xs
  | false => SqT K H a xs
def itAt (k : Bool) (h : Heap) (it a : Addr) (i : Nat) : Prop := match k with
  | true => h.IsListIter it a i
  | false => h.IsTupleIter it a i
def seqAt (k : Bool) (h : Heap) (a : Addr) (its : Array Value) : Prop := match k with
  | true => h.IsList a its
  | false => h.IsTuple a its
def itObj (k : Bool) (a : Addr) : Obj := match k with
  | true => { cls := .type "list_iterator", data := .fields #[.ref a, .int 0 0] }
  | false => { cls := .type "tuple_iterator", data := .fields #[.ref a, .int 0 0] }
theorem itAt.there {k : Bool} {h : Heap} {it a : Addr} {i : Nat} (x : itAt k h it a i) : ∃ o, h.get? it = some o ∧ ∀ v, o.data ≠ .cell v := by
  cases k with
  | true => obtain ⟨o, e, c, d⟩ := x; exact ⟨o, e, fun v z => by rw [d] at z; cases z⟩
  | false => obtain ⟨o, e, c, d⟩ := x; exact ⟨o, e, fun v z => by rw [d] at z; cases z⟩
theorem itAt.at {k : Bool} {h h' : Heap} {it a : Addr} {i : Nat} (x : itAt k h it a i) (s : ∀ o, h.get? it = some o → h'.get? it = some o) : itAt k h' it a i := by
  cases k with
  | true => exact Heap.IsListIter.at x s
  | false => exact Heap.IsTupleIter.at x s
theorem draws_k {prog : Program} {w : World} {A : Around} (hh : A.handled = none) (k : Bool) (it t : Addr) (hne : t ≠ it) (items : Array Value) :
    Draws prog w A it [it, t] items.size (fun i v => items[i]? = some v) (fun i h => itAt k h it t i ∧ seqAt k h t items) := by
  cases k with
  | true => exact Draws.list hh it t hne items
  | false => exact Draws.tuple hh it t hne items
theorem begins_k (k : Bool) (t : Addr) (items : Array Value) : Begins (.ref t) (itObj k t) fun h => seqAt k h t items := by
  cases k with
  | true => exact begins_list t items
  | false => exact begins_tuple t items
theorem itAt_new {k : Bool} {h : Heap} {it a : Addr} (e : h.get? it = some (itObj k a)) : itAt k h it a 0 := by
  cases k with
  | true => exact ⟨_, e, rfl, rfl⟩
  | false => exact ⟨_, e, rfl, rfl⟩
section
variable {X : Cx} {pins : List (Addr × Obj)} {σ : L2.St} {H : Hp} {s : Shared} {k : Bool} {a : Addr} {xs ys : List V}
theorem inv_seq (I : Inv X pins σ H s) (h : Sq X.K k H a xs) : ∃ its : List Value, Vals xs its ∧ seqAt k s.heap a its.toArray := by
  cases k with
  | true =>
    obtain ⟨its, rv, p, _⟩ := I.list h
    exact ⟨its, rv, p.isList⟩
  | false =>
    obtain ⟨its, rv, p, _⟩ := I.tuple h
    exact ⟨its, rv, p⟩
theorem inv_inj (I : Inv X pins σ H s) (h : Sq X.K k H a xs) (h' : Sq X.K k H a ys) : xs = ys := by
  cases k with
  | true => exact I.list_inj h h'
  | false => exact I.tuple_inj h h'
theorem seqAt.lt {k : Bool} {h : Heap} {a : Addr} {its : Array Value} (x : seqAt k h a its) : a < h.objs.size := by
  cases k with
  | true => obtain ⟨o, e, _⟩ := x; exact Heap.lt_size e
  | false => obtain ⟨o, e, _⟩ := x; exact Heap.lt_size e
end

/-! ### a list or a tuple, walked -/
def ItS (K : PySem.W.Frag) (k : Bool) (a : Addr) : It := match k with
  | true => Itl K a
  | false => Itt K a
def iSeq (K : PySem.W.Frag) (tl : TE) : TI := fun σ H R => tl σ H fun x H1 => ∃ a k, x = .ref a ∧ (∃ xs, Sq K k H1 a xs) ∧ R (ItS K k a) H1
theorem pi_seq {X : Cx} {tg l : Expr} {tl : TE} (hl : PE X l tl) : PI X tg l (iSeq X.K tl) := by
  refine ⟨fun pins s σ H R I h => ?_⟩
  refine thn (hl.run pins s σ H _ I h) fun v s1 ⟨x, H1, I1, r1, q1⟩ => ?_
  obtain ⟨a, k, e, ⟨xs, hq⟩, q⟩ := q1
  subst e
  cases r1
  obtain ⟨its, rv, p⟩ := inv_seq I1 hq
  cases k with
  | true =>
    refine wpAny_pyIter_list p ?_
    refine ⟨s1.heap.objs.size, [s1.heap.objs.size], _, _, H1, rfl, I1.kept (t' := s1.toks) fun b o e => Heap.get?_push_of_some _ e, turn_list a _, ⟨_, Heap.get?_push_size _ rfl, rfl, rfl⟩, fun b hb => ?_, q⟩
    have e : b = s1.heap.objs.size := by simpa using hb
    subst e
    exact I1.fpOk (Nat.le_refl _) (I1.hok.fresh (Nat.le_refl _))
  | false =>
    refine wpAny_pyIter_tuple p ?_
    refine ⟨s1.heap.objs.size, [s1.heap.objs.size], _, _, H1, rfl, I1.kept (t' := s1.toks) fun b o e => Heap.get?_push_of_some _ e, turn_tuple a _, ⟨_, Heap.get?_push_size _ rfl, rfl, rfl⟩, fun b hb => ?_, q⟩
    have e : b = s1.heap.objs.size := by simpa using hb
    subst e
    exact I1.fpOk (Nat.le_refl _) (I1.hok.fresh (Nat.le_refl _))

/-! ### zip of two sequences -/
def ItzG (K : PySem.W.Frag) (k1 k2 : Bool) (a b : Addr) : It :=
  ⟨fun i H => ∃ (xs ys : List V) (x y : V), Sq K k1 H a xs ∧ Sq K k2 H b ys ∧ xs[i]? = some x ∧ ys[i]? = some y,
    fun i H v H' => ∃ T x y, v = .ref T ∧ H T = none ∧ H' = upd H T (.tup [x, y]) ∧ (∀ xs, Sq K k1 H a xs → xs[i]? = some x) ∧ ∀ ys, Sq K k2 H b ys → ys[i]? = some y,
    fun i H => ∃ xs ys : List V, Sq K k1 H a xs ∧ Sq K k2 H b ys ∧ i ≤ xs.length ∧ i ≤ ys.length ∧ (xs.length ≤ i ∨ ys.length ≤ i)⟩
theorem turn_zipG {P : Program} {w : World} {K : PySem.W.Frag} {elts : List Expr} {kk : Nat} {tpos : Pos} {k1 k2 : Bool} {a b z TI TO i1 i2 : Addr} (D : ZipSep2 z TI TO i1 i2 [i1, a] [i2, b]) (n1 : a ≠ i1) (n2 : b ≠ i2) :
    Turn P w K (.Tuple elts kk tpos) (ItzG K k1 k2 a b) [z, TI, TO, i1, i2] z (fun i h => IsZip h z TI TO .none ∧ IsTupOf2 h TI (.ref i1) (.ref i2) ∧ (∃ x y, IsTupOf2 h TO x y) ∧ itAt k1 h i1 a i ∧ itAt k2 h i2 b i) where
  mem := by simp
  obj := fun i h st c hc => by
    obtain ⟨hz, hTI, ⟨x, y, hTO⟩, h1, h2⟩ := st
    have e' : c = z ∨ c = TI ∨ c = TO ∨ c = i1 ∨ c = i2 := by simpa using hc
    rcases e' with q | q | q | q | q
    · rw [q]; exact ⟨_, hz, fun v q => nomatch q⟩
    · rw [q]; exact ⟨_, hTI, fun v q => nomatch q⟩
    · rw [q]; exact ⟨_, hTO, fun v q => nomatch q⟩
    · rw [q]; exact h1.there
    · rw [q]; exact h2.there
  keep := fun i h h' st k => by
    obtain ⟨hz, hTI, ⟨x, y, hTO⟩, h1, h2⟩ := st
    exact ⟨k z (by simp) _ hz, k TI (by simp) _ hTI, ⟨x, y, k TO (by simp) _ hTO⟩, h1.at fun o q => k i1 (by simp) o q, h2.at fun o q => k i2 (by simp) o q⟩
  item := by
    intro X hP hw hK hc i pins s σ H E I hf st hg
    subst hP hw hK
    obtain ⟨hz, hTI, ⟨x0, y0, hTO⟩, h1, h2⟩ := st
    obtain ⟨xs, ys, x, y, hqx, hqy, hx, hy⟩ := hg
    obtain ⟨its, rv, p⟩ := inv_seq I hqx
    obtain ⟨its2, rv2, p2⟩ := inv_seq I hqy
    obtain ⟨u, hu, ru⟩ := rv.get hx
    obtain ⟨u2, hu2, ru2⟩ := rv2.get hy
    have hzl : z < s.heap.objs.size := Heap.lt_size hz
    have hh : X.A.in1.handled = none := I.ok.hd hc
    have l1 : i < its.toArray.size := by
      have := (List.getElem?_eq_some_iff.mp hu).1
      simpa using this
    have l2 : i < its2.toArray.size := by
      have := (List.getElem?_eq_some_iff.mp hu2).1
      simpa using this
    refine wpAny_pyNext_zipD2_item D (draws_k hh k1 i1 a n1 its.toArray) (draws_k hh k2 i2 b n2 its2.toArray) hz hTI hTO ⟨h1, p⟩ ⟨h2, p2⟩ l1 l2 fun v1 v2 h' tk e1 e2 z' TO' h1' h2' hT hsz hk => ?_
    have e1' : v1 = u := by
      have q : its[i]? = some v1 := by simpa using e1
      rw [hu] at q
      exact (Option.some.inj q).symm
    have e2' : v2 = u2 := by
      have q : its2[i]? = some v2 := by simpa using e2
      rw [hu2] at q
      exact (Option.some.inj q).symm
    subst e1' e2'
    refine ⟨_, rfl, wpAny_letOwnedTupleGo_zip (s := { s with heap := h', toks := tk }) z' fun h'' z'' sb => ?_⟩
    have hT2 : h''.get? s.heap.objs.size = some { cls := .type "tuple", data := .seq #[v1, v2] } := (sb.2 _ (Nat.ne_of_gt hzl)).trans hT
    have new : ObjOk X.prog X.w (upd H s.heap.objs.size (.tup [x, y])) h'' s.heap.objs.size (.tup [x, y]) :=
      ⟨by show 2 ≤ sizeLine; decide, [v1, v2], .cons ru (.cons ru2 .nil), ⟨_, hT2, rfl, _, rfl⟩⟩
    have I1 : Inv X pins σ (upd H s.heap.objs.size (.tup [x, y])) { s with heap := h'', toks := tk } :=
      I.turnedNew (t' := tk) (ch := [z, TI, TO, i1, i2]) (fun c o hb q => (sb.2 c (fun q' => hb (by simp [q']))).trans (hk c o (fun q' => hb (by simp [q'])) (fun q' => hb (by simp [q'])) (fun q' => hb (by simp [q'])) (fun q' => hb (by simp [q'])) q)) hf (Nat.le_refl _) new
    refine ⟨.ref s.heap.objs.size, _, I1, rfl, ⟨_, x, y, rfl, I.hok.fresh (Nat.le_refl _), rfl, fun l hl => by rw [inv_inj I hl hqx]; exact hx, fun l hl => by rw [inv_inj I hl hqy]; exact hy⟩, ⟨z'', ?_, ⟨v1, v2, ?_⟩, ?_, ?_⟩, fun c hcm => ?_⟩
    · exact (sb.2 _ D.TIz).trans (hk _ _ D.TIz D.TITO D.TIi1 D.TIi2 hTI)
    · exact (sb.2 _ D.TOz).trans TO'
    · exact h1'.1.at fun o q => (sb.2 _ (Ne.symm D.zi1)).trans q
    · exact h2'.1.at fun o q => (sb.2 _ (Ne.symm D.zi2)).trans q
    · have hlt : c < s.heap.objs.size := by
        have e' : c = z ∨ c = TI ∨ c = TO ∨ c = i1 ∨ c = i2 := by simpa using hcm
        rcases e' with q | q | q | q | q
        · rw [q]; exact hzl
        · rw [q]; exact Heap.lt_size hTI
        · rw [q]; exact Heap.lt_size hTO
        · rw [q]; obtain ⟨_, e1, _⟩ := h1.there; exact Heap.lt_size e1
        · rw [q]; obtain ⟨_, e2, _⟩ := h2.there; exact Heap.lt_size e2
      rw [upd_ne (Nat.ne_of_lt hlt)]
      exact (hf c hcm).1
  done := by
    intro X hP hw hK hc i pins s σ H E I hf st hg
    subst hP hw hK
    obtain ⟨hz, hTI, ⟨x0, y0, hTO⟩, h1, h2⟩ := st
    obtain ⟨xs, ys, hqx, hqy, le1, le2, hend⟩ := hg
    obtain ⟨its, rv, p⟩ := inv_seq I hqx
    obtain ⟨its2, rv2, p2⟩ := inv_seq I hqy
    have l1 := rv.length
    have l2 := rv2.length
    have hh : X.A.in1.handled = none := I.ok.hd hc
    exact wpAny_pyNext_zipD2_end D (draws_k hh k1 i1 a n1 its.toArray) (draws_k hh k2 i2 b n2 its2.toArray) hz hTI hTO ⟨h1, p⟩ ⟨h2, p2⟩ (by simp; omega) (by simp; omega) (by simp; omega) fun h' tk hk => ⟨rfl, I.turnedL (t' := tk) (ch := [z, TI, TO, i1, i2]) (fun c o hb q =>
      hk c o (fun q' => hb (by simp [q'])) (fun q' => hb (by simp [q'])) (fun q' => hb (by simp [q'])) (fun q' => hb (by simp [q'])) q) hf⟩
  self := fun A i s Q E st h => wpAny_pyIter_zip st.1 h

def iZipG (K : PySem.W.Frag) (ta : TA) : TI := fun σ H R => ta σ H fun vs H1 => ∃ a b k1 k2 xs ys, vs = [.ref a, .ref b] ∧ Sq K k1 H1 a xs ∧ Sq K k2 H1 b ys ∧ R (ItzG K k1 k2 a b) H1
theorem pi_zipG {X : Cx} {e e2 : Expr} {ta : TA} {p pos tpos : Pos} {elts : List Expr} {kk : Nat} (hg : Gl X "zip") (hm : X.mg "zip" = none) (ha : PA X [e, e2] ta)
    (hs : starEach [e, e2] X.env = (false, eval e X.env) :: starEach [e2] X.env := by rfl) (hpl : (backTo pos (starEach [e2] X.env)).any (·.1) = false := by rfl) :
    PI X (.Tuple elts kk tpos) (.Call (.Name "zip" p) [e, e2] [] pos) (iZipG X.K ta) := by
  refine ⟨fun pins s σ H R I h => ?_⟩
  refine Call_ (ld_blt I hg hm PyProof.Rows.boot_zip (PyProof.Rows.callWith_type1 (thn (ha.run pos pins s σ H _ I h) fun us s1 ⟨vs, H1, I1, r1, q1⟩ => ?_) hs hpl))
  obtain ⟨a, b, k1, k2, xs, ys, ex, hqx, hqy, q⟩ := q1
  subst ex
  cases r1 with
  | cons r rr =>
    cases rr with
    | cons r' rr =>
      cases rr
      cases r
      cases r'
      have fresh5 : ∀ c, c ∈ [s1.heap.objs.size + 4, s1.heap.objs.size + 2, s1.heap.objs.size + 3, s1.heap.objs.size, s1.heap.objs.size + 1] → FpOk X pins H1 c := fun c hcm => by
        have e' : c = s1.heap.objs.size + 4 ∨ c = s1.heap.objs.size + 2 ∨ c = s1.heap.objs.size + 3 ∨ c = s1.heap.objs.size ∨ c = s1.heap.objs.size + 1 := by simpa using hcm
        have hle : s1.heap.objs.size ≤ c := by
          rcases e' with z | z | z | z | z
          · rw [z]; exact Nat.le_add_right _ _
          · rw [z]; exact Nat.le_add_right _ _
          · rw [z]; exact Nat.le_add_right _ _
          · rw [z]; exact Nat.le_refl _
          · rw [z]; exact Nat.le_add_right _ _
        exact I1.fpOk hle (I1.hok.fresh hle)
      obtain ⟨its, rv, p1⟩ := inv_seq I1 hqx
      obtain ⟨its2, rv2, p2⟩ := inv_seq I1 hqy
      have ha1 := p1.lt
      have ha2 := p2.lt
      refine zip_begins2 (begins_k k1 a its.toArray) (begins_k k2 b its2.toArray) p1 p2 fun h' hz hTI hTO h1 h2 hsz hk => wpAny_pyIter_zip hz ?_
      have I2 : Inv X pins σ H1 { s1 with heap := h' } := I1.kept (t' := s1.toks) hk
      have S : ZipSep2 (s1.heap.objs.size + 4) (s1.heap.objs.size + 2) (s1.heap.objs.size + 3) s1.heap.objs.size (s1.heap.objs.size + 1) [s1.heap.objs.size, a] [s1.heap.objs.size + 1, b] :=
        zip_sep2 (fp1 := [a]) (fp2 := [b]) (fun c hc => by rw [List.mem_singleton.mp hc]; exact ha1) (fun c hc => by rw [List.mem_singleton.mp hc]; exact ha2)
      exact ⟨s1.heap.objs.size + 4, [s1.heap.objs.size + 4, s1.heap.objs.size + 2, s1.heap.objs.size + 3, s1.heap.objs.size, s1.heap.objs.size + 1], _, _, H1, rfl, I2, turn_zipG S (Nat.ne_of_lt ha1) (Nat.ne_of_lt (Nat.lt_succ_of_lt ha2)), ⟨hz, hTI, ⟨_, _, hTO⟩, itAt_new h1, itAt_new h2⟩, fresh5, q⟩
end RW

set_option Elab.async false
set_option linter.all false
set_option maxRecDepth 100000
set_option maxHeartbeats 4000000
namespace RW
open PySem PySem.Spec PyProof.Rows L2
theorem meets_enumerate_new1 {v : Value} {o : Obj} {H : Heap → Prop} (B : Begins v o H) :
    Meets (Builtin.«enumerate.__new__» ⟨[.type "enumerate", v], []⟩) (fun _ R s => H s.heap ∧
      R (.ok (.ret (.ref (s.heap.push o).objs.size))) { s with heap := (s.heap.push o).push { cls := .type "enumerate", data := .fields #[.none, .bool false, .ref s.heap.objs.size, rawInt 0, .none, .none] } }) :=
  .of_wp fun prog w A R s h => by
    obtain ⟨hp, g, d, tk, os⟩ := s; obtain ⟨h1, h⟩ := h
    have hsub := sub_enumerate
    have q1 : ∀ {A' : Around} {E : Value → Shared → Prop} {Q : Value → Shared → Prop}, Q (.ref hp.objs.size) ⟨hp.push o, g, d, tk, os⟩ → wpAny (model prog w) A' (pyIter v) Q E ⟨hp, g, d, tk, os⟩ :=
      fun q => B.iter prog w _ _ ⟨hp, g, d, tk, os⟩ _ h1 q
    wp_walk using q1
    refine wpAny_stack_any fun st => wpAny_pure ?_
    split
    · rename_i c _ _ _ _ _
      cases (c == Value.type "enumerate")
      · wp_walk using q1
        exact ⟨_, rfl, h⟩
      · wp_walk using q1
        exact ⟨_, rfl, h⟩
    · wp_walk using q1
      exact ⟨_, rfl, h⟩
section
variable {prog : Program} {w : World} {A : Around} {E : Value → Shared → Prop} {s : Shared}
theorem enum_begins1 {v : Value} {o : Obj} {H : Heap → Prop} {Q : Value → Shared → Prop} (B : Begins v o H) (h1 : H s.heap)
    (h : ∀ h', IsEnum h' (s.heap.objs.size + 1) s.heap.objs.size 0 .none → h'.get? s.heap.objs.size = some o → h'.objs.size = s.heap.objs.size + 2 →
      (∀ b o, s.heap.get? b = some o → h'.get? b = some o) → Q (.ref (s.heap.objs.size + 1)) { s with heap := h' }) :
    wpAny (model prog w) A (call (.type "enumerate") [v]) Q E s := by
  refine callType_new F.called_enumerate (by decide) (F.typeCall_enumerate_1 _) (F.newCall_enumerate_1 _) (fun obj => F.args_object_init_2 obj _) F.entry_enumerate_new
    (meets_enumerate_new1 B) ⟨h1, ?_⟩
  have hz : (s.heap.push o).objs.size = s.heap.objs.size + 1 := Heap.size_push ..
  show _ ∧ _
  rw [hz]
  have he : IsEnum ((s.heap.push o).push { cls := .type "enumerate", data := .fields #[.none, .bool false, .ref s.heap.objs.size, rawInt 0, .none, .none] }) (s.heap.objs.size + 1) s.heap.objs.size 0 .none := by
    have := Heap.get?_push_size (s.heap.push o) (o := { cls := .type "enumerate", data := .fields #[.none, .bool false, .ref s.heap.objs.size, rawInt 0, .none, .none] }) rfl
    rw [hz] at this; exact this
  refine ⟨⟨_, he, rfl⟩, h _ he (Heap.get?_push_of_some _ (Heap.get?_push_size _ B.free)) (by rw [Heap.size_push, hz]) fun b o x => Heap.get?_push_of_some _ (Heap.get?_push_of_some _ x)⟩
end
def IteG (K : PySem.W.Frag) (k : Bool) (a : Addr) : It :=
  ⟨fun i H => ∃ (xs : List V) (x : V), Sq K k H a xs ∧ xs[i]? = some x, fun i H v H' => ∃ T x, v = .ref T ∧ H T = none ∧ H' = upd H T (.tup [.int (i : Nat), x]) ∧ ∀ xs, Sq K k H a xs → xs[i]? = some x, fun i H => ∃ xs : List V, Sq K k H a xs ∧ xs.length = i⟩
theorem turn_enumG {P : Program} {w : World} {K : PySem.W.Frag} {elts : List Expr} {kk : Nat} {tpos : Pos} {k : Bool} {a e it : Addr} (hne : e ≠ it) (hea : a ≠ e) (hia : a ≠ it) :
    Turn P w K (.Tuple elts kk tpos) (IteG K k a) [e, it] e (fun i h => (∃ old, IsEnum h e it ((i : Nat) : Int) old) ∧ itAt k h it a i) where
  mem := by simp
  obj := fun i h st b hb => by
    obtain ⟨⟨old, he⟩, hi⟩ := st
    have e' : b = e ∨ b = it := by simpa using hb
    rcases e' with z | z
    · rw [z]; exact ⟨_, he, fun v q => nomatch q⟩
    · rw [z]; exact hi.there
  keep := fun i h h' st k => let ⟨⟨old, he⟩, hi⟩ := st; ⟨⟨old, k e (by simp) _ he⟩, hi.at fun o q => k it (by simp) o q⟩
  item := by
    intro X hP hw hK hc i pins s σ H E I hf st hg
    subst hP hw hK
    obtain ⟨⟨old, he⟩, hit⟩ := st
    obtain ⟨xs, x, hq, hx⟩ := hg
    obtain ⟨its, rv, p⟩ := inv_seq I hq
    obtain ⟨u, hu, ru⟩ := rv.get hx
    have hel : e < s.heap.objs.size := Heap.lt_size he
    have hil : it < s.heap.objs.size := by obtain ⟨_, q, _⟩ := hit.there; exact Heap.lt_size q
    have hh : X.A.in1.handled = none := I.ok.hd hc
    have l1 : i < its.toArray.size := by
      have := (List.getElem?_eq_some_iff.mp hu).1
      simpa using this
    refine wpAny_pyNext_enum_itemC (draws_k hh k it a hia its.toArray) he ⟨hit, p⟩ l1 hne (by simp [hne, Ne.symm hea]) fun v1 h' tk e1 ho hst' hT hsz hk => ?_
    have e1' : v1 = u := by
      have q : its[i]? = some v1 := by simpa using e1
      rw [hu] at q
      exact (Option.some.inj q).symm
    subst e1'
    refine ⟨_, rfl, wpAny_letOwnedTupleGo_enum (s := { s with heap := h', toks := tk + 1 }) ho fun h'' he' sb => ?_⟩
    have hT2 : h''.get? s.heap.objs.size = some { cls := .type "tuple", data := .seq #[.int i tk, v1] } := (sb.2 _ (Nat.ne_of_gt hel)).trans hT
    have new : ObjOk X.prog X.w (upd H s.heap.objs.size (.tup [.int (i : Nat), x])) h'' s.heap.objs.size (.tup [.int (i : Nat), x]) :=
      ⟨by show 2 ≤ sizeLine; decide, [.int i tk, v1], .cons ⟨_, rfl⟩ (.cons ru .nil), ⟨_, hT2, rfl, _, rfl⟩⟩
    have I1 : Inv X pins σ (upd H s.heap.objs.size (.tup [.int (i : Nat), x])) { s with heap := h'', toks := tk + 1 } :=
      I.turnedNew (ch := [e, it]) (fun b ob hb q => (sb.2 b (fun z => hb (by simp [z]))).trans (hk b ob (fun z => hb (by simp [z])) (fun z => hb (by simp [z])) q)) hf (Nat.le_refl _) new
    refine ⟨.ref s.heap.objs.size, _, I1, rfl, ⟨_, x, rfl, I.hok.fresh (Nat.le_refl _), rfl, fun ys hy => by rw [inv_inj I hy hq]; exact hx⟩, ⟨⟨v1, ?_⟩, hst'.1.at fun o q => (sb.2 it (Ne.symm hne)).trans q⟩, fun b hb => ?_⟩
    · have e1 : ((i + 1 : Nat) : Int) = (i : Int) + 1 := by omega
      rw [e1]; exact he'
    · have hb' : b < s.heap.objs.size := by
        have e' : b = e ∨ b = it := by simpa using hb
        rcases e' with z | z
        · rw [z]; exact hel
        · rw [z]; exact hil
      rw [upd_ne (Nat.ne_of_lt hb')]
      exact (hf b hb).1
  done := by
    intro X hP hw hK hc i pins s σ H E I hf st hg
    subst hP hw hK
    obtain ⟨⟨old, he⟩, hit⟩ := st
    obtain ⟨xs, hq, hx⟩ := hg
    obtain ⟨its, rv, p⟩ := inv_seq I hq
    obtain ⟨f0, f1, f2, f3, f4, f5⟩ := hf it (by simp)
    have hh : X.A.in1.handled = none := I.ok.hd hc
    have hl := rv.length
    have hi : its.toArray.size = i := by simp; omega
    subst hi
    exact wpAny_pyNext_enum_endD (draws_k hh k it a hia its.toArray) he ⟨hit, p⟩ fun h' eb => ⟨rfl, I.turned (t' := s.toks) (fun b o hb q => eb b o hb q) f0 f1 f3 f4 f5⟩
  self := fun A i s Q E st h => let ⟨⟨_, he⟩, _⟩ := st; wpAny_pyIter_enum he h
def iEnumG (K : PySem.W.Frag) (ta : TA) : TI := fun σ H R => ta σ H fun vs H1 => ∃ a k xs, vs = [.ref a] ∧ Sq K k H1 a xs ∧ R (IteG K k a) H1
theorem pi_enumG {X : Cx} {e : Expr} {ta : TA} {p pos tpos : Pos} {elts : List Expr} {kk : Nat} (hg : Gl X "enumerate") (hm : X.mg "enumerate" = none) (ha : PA X [e] ta) (hs : starEach [e] X.env = [(false, eval e X.env)] := by rfl) :
    PI X (.Tuple elts kk tpos) (.Call (.Name "enumerate" p) [e] [] pos) (iEnumG X.K ta) := by
  refine ⟨fun pins s σ H R I h => ?_⟩
  refine Call_ (ld_blt I hg hm boot_enumerate (PyProof.Rows.callWith_type1 (thn (ha.run pos pins s σ H _ I h) fun us s1 ⟨vs, H1, I1, r1, q1⟩ => ?_) hs rfl))
  obtain ⟨a, k, xs, ex, hq, q⟩ := q1
  subst ex
  cases r1 with
  | cons r rr =>
    cases rr
    cases r
    obtain ⟨its, rv, p'⟩ := inv_seq I1 hq
    have hal := p'.lt
    refine enum_begins1 (begins_k k a its.toArray) p' fun h' he hit hsz hk => wpAny_pyIter_enum he ?_
    have I2 : Inv X pins σ H1 { s1 with heap := h' } := I1.kept (t' := s1.toks) hk
    refine ⟨s1.heap.objs.size + 1, [s1.heap.objs.size + 1, s1.heap.objs.size], _, _, H1, rfl, I2, turn_enumG (e := s1.heap.objs.size + 1) (it := s1.heap.objs.size) (Nat.succ_ne_self _) (Nat.ne_of_lt (Nat.lt_succ_of_lt hal)) (Nat.ne_of_lt hal), ⟨⟨.none, he⟩, itAt_new hit⟩, fun b hb => ?_, q⟩
    have e' : b = s1.heap.objs.size + 1 ∨ b = s1.heap.objs.size := by simpa using hb
    have hle : s1.heap.objs.size ≤ b := by
      rcases e' with z | z
      · rw [z]; exact Nat.le_add_right _ _
      · rw [z]; exact Nat.le_refl _
    exact I1.fpOk hle (I1.hok.fresh hle)
end RW

set_option Elab.async false
set_option linter.all false
set_option maxRecDepth 100000
set_option maxHeartbeats 4000000
namespace RW
open PySem PySem.Spec PyProof.Rows L2
open Evl (Ex)

/-! ### data: what a value is, whatever its address -/
inductive Dat where
  | non | bl (b : Bool) | int (i : Int) | str (s : Str) | ty (n : String)
  | tup (xs : List Dat) | lst (xs : List Dat) | scr (ns : List Int)
  | ins (C : Addr) (fs : List (Str × Dat))
  | adr (a : Addr)
mutual
inductive Rep (K : PySem.W.Frag) (B : Hp) : V → Dat → Prop
  | non : Rep K B .non .non
  | bl (b : Bool) : Rep K B (.bl b) (.bl b)
  | int (i : Int) : Rep K B (.int i) (.int i)
  | str (s : Str) : Rep K B (.str s) (.str s)
  | ty (n : String) : Rep K B (.ty n) (.ty n)
  | tup {a : Addr} {xs : List V} {ds : List Dat} : SqT K B a xs → Reps K B xs ds → Rep K B (.ref a) (.tup ds)
  | lst {a : Addr} {xs : List V} {ds : List Dat} : B a = some (.lst xs) → Reps K B xs ds → Rep K B (.ref a) (.lst ds)
  | scr {a : Addr} {ns : List Int} : SqL K B a (ns.map V.int) → Rep K B (.ref a) (.scr ns)
  | ins {a C dx : Addr} {vs : List (Str × V)} {fs : List (Str × Dat)} : B a = some (.ins C dx vs) → RepF K B vs fs → Rep K B (.ref a) (.ins C fs)
  | adr (a : Addr) : Rep K B (.ref a) (.adr a)
inductive Reps (K : PySem.W.Frag) (B : Hp) : List V → List Dat → Prop
  | nil : Reps K B [] []
  | cons {v : V} {d : Dat} {vs : List V} {ds : List Dat} : Rep K B v d → Reps K B vs ds → Reps K B (v :: vs) (d :: ds)
inductive RepF (K : PySem.W.Frag) (B : Hp) : List (Str × V) → List (Str × Dat) → Prop
  | nil : RepF K B [] []
  | cons {f : Str} {v : V} {d : Dat} {vs : List (Str × V)} {ds : List (Str × Dat)} : Rep K B v d → RepF K B vs ds → RepF K B ((f, v) :: vs) ((f, d) :: ds)
end
section
variable {K : PySem.W.Frag} {B B' : Hp}
mutual
theorem Rep.mono (e : Ex B B') : ∀ {v : V} {d : Dat}, Rep K B v d → Rep K B' v d
  | _, _, .non => .non
  | _, _, .bl b => .bl b
  | _, _, .int i => .int i
  | _, _, .str s => .str s
  | _, _, .ty n => .ty n
  | _, _, .tup h r => .tup (Evl.ex_t e h) (Reps.mono e r)
  | _, _, .lst h r => .lst (e _ _ h) (Reps.mono e r)
  | _, _, .scr h => .scr (Evl.ex_l e h)
  | _, _, .ins h r => .ins (e _ _ h) (RepF.mono e r)
  | _, _, .adr a => .adr a
theorem Reps.mono (e : Ex B B') : ∀ {v : List V} {d : List Dat}, Reps K B v d → Reps K B' v d
  | _, _, .nil => .nil
  | _, _, .cons h r => .cons (Rep.mono e h) (Reps.mono e r)
theorem RepF.mono (e : Ex B B') : ∀ {v : List (Str × V)} {d : List (Str × Dat)}, RepF K B v d → RepF K B' v d
  | _, _, .nil => .nil
  | _, _, .cons h r => .cons (Rep.mono e h) (RepF.mono e r)
end
theorem Reps.length : ∀ {vs : List V} {ds : List Dat}, Reps K B vs ds → vs.length = ds.length
  | _, _, .nil => rfl
  | _, _, .cons _ r => by rw [List.length_cons, List.length_cons, Reps.length r]
theorem Reps.get : ∀ {vs : List V} {ds : List Dat} {i : Nat} {d : Dat}, Reps K B vs ds → ds[i]? = some d → ∃ v, vs[i]? = some v ∧ Rep K B v d
  | _, _, _, _, .nil, e => by simp at e
  | _, _, 0, _, .cons h _, e => by simp at e; subst e; exact ⟨_, rfl, h⟩
  | _, _, i + 1, d, .cons _ r, e => by
    obtain ⟨v, h1, h2⟩ := Reps.get (i := i) (d := d) r (by simpa using e)
    exact ⟨v, by simpa using h1, h2⟩
theorem Reps.get' : ∀ {vs : List V} {ds : List Dat} {i : Nat} {v : V}, Reps K B vs ds → vs[i]? = some v → ∃ d, ds[i]? = some d ∧ Rep K B v d
  | _, _, _, _, .nil, e => by simp at e
  | _, _, 0, _, .cons h _, e => by simp at e; subst e; exact ⟨_, rfl, h⟩
  | _, _, i + 1, v, .cons _ r, e => by
    obtain ⟨d, h1, h2⟩ := Reps.get' (i := i) (v := v) r (by simpa using e)
    exact ⟨d, by simpa using h1, h2⟩
theorem Reps.append : ∀ {vs ws : List V} {ds es : List Dat}, Reps K B vs ds → Reps K B ws es → Reps K B (vs ++ ws) (ds ++ es)
  | _, _, _, _, .nil, h => h
  | _, _, _, _, .cons h r, q => .cons h (Reps.append r q)
theorem Reps.take : ∀ {vs : List V} {ds : List Dat} (n : Nat), Reps K B vs ds → Reps K B (vs.take n) (ds.take n)
  | _, _, 0, _ => .nil
  | _, _, _ + 1, .nil => .nil
  | _, _, n + 1, .cons h r => .cons h (Reps.take n r)
theorem Reps.drop : ∀ {vs : List V} {ds : List Dat} (n : Nat), Reps K B vs ds → Reps K B (vs.drop n) (ds.drop n)
  | _, _, 0, r => r
  | _, _, _ + 1, .nil => .nil
  | _, _, n + 1, .cons _ r => Reps.drop n r
theorem Reps.set : ∀ {vs : List V} {ds : List Dat} {v : V} {d : Dat} (n : Nat), Rep K B v d → Reps K B vs ds → Reps K B (vs.set n v) (ds.set n d)
  | _, _, _, _, _, _, .nil => .nil
  | _, _, _, _, 0, h, .cons _ r => .cons h r
  | _, _, _, _, n + 1, h, .cons q r => .cons q (Reps.set n h r)
theorem Reps.ints : ∀ {vs : List V} {ns : List Int}, Reps K B vs (ns.map Dat.int) → vs = ns.map V.int
  | _, [], .nil => rfl
  | _, n :: ns, .cons h r => by
    cases h
    rw [List.map_cons, Reps.ints r]
theorem Reps.bls : ∀ {vs : List V} {ns : List Bool}, Reps K B vs (ns.map Dat.bl) → vs = ns.map V.bl
  | _, [], .nil => rfl
  | _, n :: ns, .cons h r => by
    cases h
    rw [List.map_cons, Reps.bls r]
theorem RepF.get : ∀ {vs : List (Str × V)} {fs : List (Str × Dat)} {f : Str} {d : Dat}, RepF K B vs fs → fs.lookup f = some d → ∃ v, vs.lookup f = some v ∧ Rep K B v d
  | _, _, _, _, .nil, e => by cases e
  | _, _, f, d, .cons (f := g) (vs := vs) (ds := ds) h r, e => by
    by_cases q : (f == g) = true
    · simp only [List.lookup, q] at e ⊢
      cases e
      exact ⟨_, rfl, h⟩
    · have q' : (f == g) = false := by simpa using q
      simp only [List.lookup, q'] at e ⊢
      exact RepF.get r e
end

/-! ### what a slot or an argument is: data, or a list that is changed (by its number) -/
inductive Sl where
  | d (x : Dat)
  | c (k : Nat)
def RepS (K : PySem.W.Frag) (B : Hp) (as : List Addr) (v : V) : Sl → Prop
  | .d x => Rep K B v x
  | .c k => ∃ a, as[k]? = some a ∧ v = .ref a
inductive RepSs (K : PySem.W.Frag) (B : Hp) (as : List Addr) : List V → List Sl → Prop
  | nil : RepSs K B as [] []
  | cons {v : V} {s : Sl} {vs : List V} {ss : List Sl} : RepS K B as v s → RepSs K B as vs ss → RepSs K B as (v :: vs) (s :: ss)
abbrev Env1 := List (Option Sl)
def EnvR (K : PySem.W.Frag) (B : Hp) (as : List Addr) (σ : L2.St) (env : Env1) : Prop :=
  σ.length = env.length ∧ ∀ (i : Nat) (s : Sl), env[i]? = some (some s) → ∃ v, σ[i]? = some (some v) ∧ RepS K B as v s
/-- what stands at a changed thing -/
def CellO (K : PySem.W.Frag) (B : Hp) : HO → Dat → Prop
  | .lst vs, .lst ds => Reps K B vs ds
  | .ins C _ vs, .ins C' fs => C = C' ∧ RepF K B vs fs
  | _, _ => False
def CellAt (K : PySem.W.Frag) (B H : Hp) (a : Addr) (s : Dat) : Prop := ∃ o, H a = some o ∧ CellO K B o s
theorem CellO.mono {K : PySem.W.Frag} {B B' : Hp} {o : HO} {s : Dat} (e : Ex B B') (h : CellO K B o s) : CellO K B' o s := by
  unfold CellO at h ⊢
  split at h <;> first
    | exact h.elim
    | exact Reps.mono e h
    | exact ⟨h.1, RepF.mono e h.2⟩
theorem CellAt.lst {K : PySem.W.Frag} {B H : Hp} {a : Addr} {ds : List Dat} (h : CellAt K B H a (.lst ds)) : ∃ vs, H a = some (.lst vs) ∧ Reps K B vs ds := by
  obtain ⟨o, h1, h2⟩ := h
  cases o <;> first
    | exact h2.elim
    | exact ⟨_, h1, h2⟩
theorem CellAt.ins {K : PySem.W.Frag} {B H : Hp} {a C : Addr} {fs : List (Str × Dat)} (h : CellAt K B H a (.ins C fs)) : ∃ dx vs, H a = some (.ins C dx vs) ∧ RepF K B vs fs := by
  obtain ⟨o, h1, h2⟩ := h
  cases o <;> first
    | exact h2.elim
    | (obtain ⟨rfl, h2⟩ := h2; exact ⟨_, _, h1, h2⟩)
theorem CellAt.ofL {K : PySem.W.Frag} {B H : Hp} {a : Addr} {vs : List V} {ds : List Dat} (h : H a = some (.lst vs)) (r : Reps K B vs ds) : CellAt K B H a (.lst ds) := ⟨_, h, r⟩
theorem CellAt.ofI {K : PySem.W.Frag} {B H : Hp} {a C dx : Addr} {vs : List (Str × V)} {fs : List (Str × Dat)} (h : H a = some (.ins C dx vs)) (r : RepF K B vs fs) : CellAt K B H a (.ins C fs) := ⟨_, h, rfl, r⟩
structure Ok (K : PySem.W.Frag) (B H : Hp) (as : List Addr) (S : List Dat) : Prop where
  ex : Ex B H
  len : as.length = S.length
  cells : ∀ (k : Nat) (a : Addr) (s : Dat), as[k]? = some a → S[k]? = some s → B a = none ∧ CellAt K B H a s
  nd : as.Nodup
structure Evo (B H : Hp) (as : List Addr) (B' H' : Hp) : Prop where
  ex : Ex B B'
  fr : ∀ a o, a ∉ as → H a = some o → H' a = some o
  gr : ∀ a, H a ≠ none → B' a = B a
  pr : ∀ a, H a ≠ none → H' a ≠ none
section
variable {K : PySem.W.Frag} {B B' B1 B2 H H' H1 H2 : Hp} {as as' : List Addr} {S S' : List Dat} {σ : L2.St} {env : Env1} {v : V} {s : Sl}
theorem RepS.mono (e : Ex B B') (h : RepS K B as v s) : RepS K B' as v s := by
  cases s with
  | d x => exact Rep.mono e h
  | c k => exact h
theorem RepS.grow {as1 : List Addr} (h : RepS K B as v s) : RepS K B (as ++ as1) v s := by
  cases s with
  | d x => exact h
  | c k =>
    obtain ⟨a, q, e⟩ := h
    exact ⟨a, by rw [List.getElem?_append_left (List.getElem?_eq_some_iff.mp q).1]; exact q, e⟩
theorem RepSs.mono (e : Ex B B') : ∀ {vs : List V} {ss : List Sl}, RepSs K B as vs ss → RepSs K B' as vs ss
  | _, _, .nil => .nil
  | _, _, .cons h r => .cons (h.mono e) (RepSs.mono e r)
theorem RepSs.append : ∀ {vs ws : List V} {ss ts : List Sl}, RepSs K B as vs ss → RepSs K B as ws ts → RepSs K B as (vs ++ ws) (ss ++ ts)
  | _, _, _, _, .nil, h => h
  | _, _, _, _, .cons h r, q => .cons h (RepSs.append r q)
theorem RepSs.length : ∀ {vs : List V} {ss : List Sl}, RepSs K B as vs ss → vs.length = ss.length
  | _, _, .nil => rfl
  | _, _, .cons _ r => by rw [List.length_cons, List.length_cons, RepSs.length r]
theorem RepSs.get : ∀ {vs : List V} {ss : List Sl} {i : Nat} {s : Sl}, RepSs K B as vs ss → ss[i]? = some s → ∃ v, vs[i]? = some v ∧ RepS K B as v s
  | _, _, _, _, .nil, e => by simp at e
  | _, _, 0, _, .cons h _, e => by simp at e; subst e; exact ⟨_, rfl, h⟩
  | _, _, i + 1, s, .cons _ r, e => by
    obtain ⟨v, h1, h2⟩ := RepSs.get (i := i) (s := s) r (by simpa using e)
    exact ⟨v, by simpa using h1, h2⟩
theorem RepSs.ds : ∀ {vs : List V} {ds : List Dat}, RepSs K B as vs (ds.map Sl.d) → Reps K B vs ds
  | _, [], .nil => .nil
  | _, d :: ds, .cons h r => .cons h (RepSs.ds r)
theorem EnvR.mono (e : Ex B B') (h : EnvR K B as σ env) : EnvR K B' as σ env :=
  ⟨h.1, fun i s q => by obtain ⟨v, q1, q2⟩ := h.2 i s q; exact ⟨v, q1, q2.mono e⟩⟩
theorem EnvR.grow {as1 : List Addr} (h : EnvR K B as σ env) : EnvR K B (as ++ as1) σ env :=
  ⟨h.1, fun i s q => by obtain ⟨v, q1, q2⟩ := h.2 i s q; exact ⟨v, q1, q2.grow⟩⟩
theorem EnvR.set (i : Nat) (h : EnvR K B as σ env) (hv : RepS K B as v s) : EnvR K B as (σ.set i (some v)) (env.set i (some s)) := by
  refine ⟨by rw [List.length_set, List.length_set, h.1], fun j t q => ?_⟩
  by_cases e : i = j
  · subst e
    have hi : i < env.length := by
      have := (List.getElem?_eq_some_iff.mp q).1
      rw [List.length_set] at this
      exact this
    rw [List.getElem?_set_self hi] at q
    cases q
    exact ⟨v, by rw [List.getElem?_set_self (by rw [h.1]; exact hi)], hv⟩
  · rw [List.getElem?_set_ne e] at q
    obtain ⟨w, q1, q2⟩ := h.2 j t q
    exact ⟨w, by rw [List.getElem?_set_ne e]; exact q1, q2⟩
theorem EnvR.unset (i : Nat) (h : EnvR K B as σ env) : EnvR K B as (σ.set i none) (env.set i none) := by
  refine ⟨by rw [List.length_set, List.length_set, h.1], fun j t q => ?_⟩
  by_cases e : i = j
  · subst e
    have hi : i < env.length := by
      have := (List.getElem?_eq_some_iff.mp q).1
      rw [List.length_set] at this
      exact this
    rw [List.getElem?_set_self hi] at q
    cases q
  · rw [List.getElem?_set_ne e] at q
    obtain ⟨w, q1, q2⟩ := h.2 j t q
    exact ⟨w, by rw [List.getElem?_set_ne e]; exact q1, q2⟩
theorem EnvR.forget (i : Nat) (x : Option V) (h : EnvR K B as σ env) : EnvR K B as (σ.set i x) (env.set i none) := by
  refine ⟨by rw [List.length_set, List.length_set, h.1], fun j t q => ?_⟩
  by_cases e : i = j
  · subst e
    have hi : i < env.length := by
      have := (List.getElem?_eq_some_iff.mp q).1
      rw [List.length_set] at this
      exact this
    rw [List.getElem?_set_self hi] at q
    cases q
  · rw [List.getElem?_set_ne e] at q
    obtain ⟨w, q1, q2⟩ := h.2 j t q
    exact ⟨w, by rw [List.getElem?_set_ne e]; exact q1, q2⟩
theorem EnvR.start {N : List Str} {vs : List V} {ss : List Sl} (h : RepSs K B as vs ss) : EnvR K B as (start N vs) (ss.map some ++ List.replicate (N.length - ss.length) none) := by
  unfold L2.start
  refine ⟨by rw [List.length_append, List.length_append, List.length_map, List.length_map, List.length_replicate, List.length_replicate, h.length], fun i s q => ?_⟩
  by_cases hi : i < ss.length
  · rw [List.getElem?_append_left (by simpa using hi), List.getElem?_map] at q
    cases e : ss[i]? with
    | none => rw [e] at q; cases q
    | some t =>
      rw [e] at q
      cases q
      obtain ⟨v, q1, q2⟩ := h.get e
      refine ⟨v, ?_, q2⟩
      rw [List.getElem?_append_left (by rw [List.length_map, h.length]; exact hi), List.getElem?_map, q1]
      rfl
  · rw [List.getElem?_append_right (by simpa using hi), List.getElem?_replicate] at q
    split at q <;> cases q
def wipeE (env : Env1) : List Nat → Env1
  | [] => env
  | v :: vs => (wipeE env vs).set v none
theorem EnvR.wipe (h : EnvR K B as σ env) : ∀ vs : List Nat, EnvR K B as (L2.wipe σ vs) (wipeE env vs)
  | [] => h
  | v :: vs => (EnvR.wipe h vs).unset v
theorem Evo.refl : Evo B H as B H := ⟨Evl.Ex.refl B, fun _ _ _ h => h, fun _ _ => rfl, fun _ h => h⟩
theorem Evo.trans (a : Evo B H as B1 H1) (b : Evo B1 H1 as B2 H2) : Evo B H as B2 H2 :=
  ⟨a.ex.trans b.ex, fun x o n h => b.fr x o n (a.fr x o n h), fun x n => (b.gr x (a.pr x n)).trans (a.gr x n), fun x n => b.pr x (a.pr x n)⟩
/-- a new object, known from then on -/
theorem Ok.new {p : Addr} {o : HO} (c : Ok K B H as S) (hp : H p = none) : Ok K (upd B p o) (upd H p o) as S where
  ex := fun a u e => by
    by_cases q : a = p
    · subst q; rw [upd_same] at e ⊢; exact e
    · rw [upd_ne q] at e ⊢; exact c.ex a u e
  len := c.len
  cells := fun k a s h1 h2 => by
    obtain ⟨q1, q2⟩ := c.cells k a s h1 h2
    have hB : Ex B (upd B p o) := Evl.Ex.new (by
      cases e : B p with
      | none => rfl
      | some u => rw [c.ex p u e] at hp; cases hp)
    have ne : a ≠ p := by
      intro z
      subst z
      obtain ⟨o, q3, _⟩ := q2; rw [hp] at q3; cases q3
    rw [upd_ne ne]
    refine ⟨q1, ?_⟩
    obtain ⟨o, q3, q4⟩ := q2
    exact ⟨o, by rw [upd_ne ne]; exact q3, q4.mono hB⟩
  nd := c.nd
theorem Ok.Bnone {p : Addr} (c : Ok K B H as S) (hp : H p = none) : B p = none := by
  cases e : B p with
  | none => rfl
  | some u => rw [c.ex p u e] at hp; cases hp
theorem Evo.new {p : Addr} {o : HO} (c : Ok K B H as S) (hp : H p = none) : Evo B H as (upd B p o) (upd H p o) :=
  ⟨Evl.Ex.new (c.Bnone hp), fun a u _ h => by rw [upd_ne (ne_of_none h hp)]; exact h, fun a h => upd_ne (by rintro rfl; exact h hp), fun a h => by
    by_cases q : a = p
    · subst q; rw [upd_same]; simp
    · rw [upd_ne q]; exact h⟩
end
end RW

set_option Elab.async false
set_option linter.all false
set_option maxRecDepth 100000
set_option maxHeartbeats 4000000
namespace RW
open PySem PySem.Spec PyProof.Rows L2
open Evl (Ex)

/-! ### what an expression gives -/
def Ev (K : PySem.W.Frag) (te : TE) (env : Env1) (S : List Dat) (r : Sl) (S' : List Dat) : Prop :=
  ∀ B H as σ, Ok K B H as S → EnvR K B as σ env → ∀ Q : VK, (∀ v B' H', Ok K B' H' as S' → Evo B H as B' H' → RepS K B' as v r → Q v H') → te σ H Q
/-- a new list that nothing else knows -/
def EvN (K : PySem.W.Frag) (te : TE) (env : Env1) (S : List Dat) (ds : List Dat) (S' : List Dat) : Prop :=
  ∀ B H as σ, Ok K B H as S → EnvR K B as σ env → ∀ Q : VK, (∀ p B' H' vs, Ok K B' H' as S' → Evo B H as B' H' → H p = none → B' p = none → H' p = some (.lst vs) → Reps K B' vs ds → Q (.ref p) H') → te σ H Q
def EvT (K : PySem.W.Frag) (tt : TT) (env : Env1) (S : List Dat) (b : Bool) (S' : List Dat) : Prop :=
  ∀ B H as σ, Ok K B H as S → EnvR K B as σ env → ∀ Q : Bool → Hp → Prop, (∀ B' H', Ok K B' H' as S' → Evo B H as B' H' → Q b H') → tt σ H Q
def EvA (K : PySem.W.Frag) (ta : TA) (env : Env1) (S : List Dat) (rs : List Sl) (S' : List Dat) : Prop :=
  ∀ B H as σ, Ok K B H as S → EnvR K B as σ env → ∀ Q : List V → Hp → Prop, (∀ vs B' H', Ok K B' H' as S' → Evo B H as B' H' → RepSs K B' as vs rs → Q vs H') → ta σ H Q
/-- a two-place operation by values -/
def Op2 (K : PySem.W.Frag) (r : R2) (x y : Sl) (S : List Dat) (z : Dat) : Prop :=
  ∀ B H as v w, Ok K B H as S → RepS K B as v x → RepS K B as w y → ∀ Q : VK, (∀ u B' H', Ok K B' H' as S → Evo B H as B' H' → Rep K B' u z → Q u H') → r v w H Q
def Op1 (K : PySem.W.Frag) (r : V → Hp → VK → Prop) (x : Sl) (S : List Dat) (z : Dat) : Prop :=
  ∀ B H as v, Ok K B H as S → RepS K B as v x → ∀ Q : VK, (∀ u B' H', Ok K B' H' as S → Evo B H as B' H' → Rep K B' u z → Q u H') → r v H Q
/-- a call by values; it may change what is changed -/
def CallD (K : PySem.W.Frag) (r : List V → Hp → VK → Prop) (xs : List Sl) (S : List Dat) (z : Dat) (S' : List Dat) : Prop :=
  ∀ B H as vs, Ok K B H as S → RepSs K B as vs xs → ∀ Q : VK, (∀ u B' H', Ok K B' H' as S' → Evo B H as B' H' → Rep K B' u z → Q u H') → r vs H Q
section
variable {K : PySem.W.Frag} {te ta tb tc : TE} {tt tu : TT} {tA tR : TA} {env : Env1} {S S1 S2 S3 : List Dat} {x y z : Sl} {d e : Dat} {r : R2}
theorem ev_var {i : Nat} (h : env[i]? = some (some x)) : Ev K (tVar i) env S x S := fun B H as σ c g Q q => by
  obtain ⟨v, h1, h2⟩ := g.2 i x h
  exact ⟨v, h1, q v B H c Evo.refl h2⟩
theorem ev_int {i : Int} : Ev K (tC (.int i)) env S (.d (.int i)) S := fun B H as σ c g Q q => q _ B H c Evo.refl (.int i)
theorem ev_bl {b : Bool} : Ev K (tC (.bl b)) env S (.d (.bl b)) S := fun B H as σ c g Q q => q _ B H c Evo.refl (.bl b)
theorem ev_str {b : Str} : Ev K (tC (.str b)) env S (.d (.str b)) S := fun B H as σ c g Q q => q _ B H c Evo.refl (.str b)
theorem ev_non : Ev K (tC .non) env S (.d .non) S := fun B H as σ c g Q q => q _ B H c Evo.refl .non
theorem ev_ty {n : String} : Ev K (tC (.ty n)) env S (.d (.ty n)) S := fun B H as σ c g Q q => q _ B H c Evo.refl (.ty n)
theorem ev_adr {a : Addr} : Ev K (tC (.ref a)) env S (.d (.adr a)) S := fun B H as σ c g Q q => q _ B H c Evo.refl (.adr a)
theorem Ev.to {r r' : Sl} (h : Ev K te env S r S1) (e : r = r') : Ev K te env S r' S1 := e ▸ h
theorem EvT.to {b b' : Bool} (h : EvT K tt env S b S1) (e : b = b') : EvT K tt env S b' S1 := e ▸ h
theorem ev_op (ha : Ev K ta env S x S1) (hb : Ev K tb env S1 y S2) (hr : Op2 K r x y S2 d) : Ev K (tOp r ta tb) env S (.d d) S2 := fun B H as σ c g Q q =>
  ha B H as σ c g _ fun v B1 H1 c1 e1 r1 => hb B1 H1 as σ c1 (g.mono e1.ex) _ fun w B2 H2 c2 e2 r2 =>
    hr B2 H2 as v w c2 (r1.mono e2.ex) r2 _ fun u B3 H3 c3 e3 r3 => q u B3 H3 c3 ((e1.trans e2).trans e3) r3
theorem ev_un {r : V → Hp → VK → Prop} (ha : Ev K ta env S x S1) (hr : Op1 K r x S1 d) : Ev K (tUn r ta) env S (.d d) S1 := fun B H as σ c g Q q =>
  ha B H as σ c g _ fun v B1 H1 c1 e1 r1 => hr B1 H1 as v c1 r1 _ fun u B3 H3 c3 e3 r3 => q u B3 H3 c3 (e1.trans e3) r3
theorem op2_int0 {g : Int → Int → V} {i j : Int} (h : ∀ B : Hp, Rep K B (g i j) d) : Op2 K (rI0 g) (.d (.int i)) (.d (.int j)) S d := fun B H as v w c h1 h2 Q q => by
  cases h1; cases h2
  exact ⟨i, j, rfl, rfl, q _ B H c Evo.refl (h B)⟩
theorem op2_int {C : Int → Int → Prop} {g : Int → Int → V} {i j : Int} (hc : C i j) (h : ∀ B : Hp, Rep K B (g i j) d) : Op2 K (rI C g) (.d (.int i)) (.d (.int j)) S d := fun B H as v w c h1 h2 Q q => by
  cases h1; cases h2
  exact ⟨i, j, rfl, rfl, hc, q _ B H c Evo.refl (h B)⟩
theorem op1_int {g : Int → V} {i : Int} (h : ∀ B : Hp, Rep K B (g i) d) : Op1 K (rU g) (.d (.int i)) S d := fun B H as v c h1 Q q => by
  cases h1
  exact ⟨i, rfl, q _ B H c Evo.refl (h B)⟩
theorem ea_nil : EvA K tNil env S [] S := fun B H as σ c g Q q => q [] B H c Evo.refl .nil
theorem ea_cons {xs : List Sl} (h : Ev K ta env S x S1) (hr : EvA K tA env S1 xs S2) : EvA K (tCons ta tA) env S (x :: xs) S2 := fun B H as σ c g Q q =>
  h B H as σ c g _ fun v B1 H1 c1 e1 r1 => hr B1 H1 as σ c1 (g.mono e1.ex) _ fun vs B2 H2 c2 e2 r2 => q _ B2 H2 c2 (e1.trans e2) (.cons (r1.mono e2.ex) r2)
theorem ev_tup {ds : List Dat} (h : EvA K tA env S (ds.map Sl.d) S1) (hl : ds.length ≤ sizeLine) : Ev K (tTup tA) env S (.d (.tup ds)) S1 := fun B H as σ c g Q q =>
  h B H as σ c g _ fun vs B1 H1 c1 e1 r1 => ⟨by rw [r1.ds.length]; exact hl, fun p hp =>
    q _ (upd B1 p (.tup vs)) _ (c1.new hp) (e1.trans (Evo.new c1 hp)) (.tup (.inl (.inl upd_same)) (r1.ds.mono (Evl.Ex.new (c1.Bnone hp))))⟩
/-- a list that nothing knows becomes known -/
theorem Ok.know {B H : Hp} {as : List Addr} {p : Addr} {ob : HO} (c : Ok K B H as S) (hp : H p = some ob) (hb : B p = none) (ha : p ∉ as) : Ok K (upd B p ob) H as S where
  ex := fun a u e => by
    by_cases q : a = p
    · subst q; rw [upd_same] at e; cases e; exact hp
    · rw [upd_ne q] at e; exact c.ex a u e
  len := c.len
  cells := fun k a s h1 h2 => by
    obtain ⟨q1, q2⟩ := c.cells k a s h1 h2
    have ne : a ≠ p := by
      intro z
      subst z
      exact ha (List.mem_of_getElem? h1)
    rw [upd_ne ne]
    refine ⟨q1, ?_⟩
    obtain ⟨o, q3, q4⟩ := q2
    exact ⟨o, q3, q4.mono (Evl.Ex.new hb)⟩
  nd := c.nd
theorem Ok.there {B H : Hp} {as : List Addr} {p : Addr} (c : Ok K B H as S) (hp : p ∈ as) : ∃ o, H p = some o := by
  obtain ⟨k, hk⟩ := List.mem_iff_getElem?.mp hp
  have hl : k < S.length := by rw [← c.len]; exact (List.getElem?_eq_some_iff.mp hk).1
  obtain ⟨_, o, q3, _⟩ := c.cells k p S[k] hk (List.getElem?_eq_getElem hl)
  exact ⟨o, q3⟩
theorem Ok.fresh {B H : Hp} {as : List Addr} {p : Addr} (c : Ok K B H as S) (hp : H p = none) : p ∉ as := fun h => by
  obtain ⟨o, q⟩ := c.there h
  rw [hp] at q; cases q
theorem EvN.ev {ds : List Dat} (h : EvN K te env S ds S1) : Ev K te env S (.d (.lst ds)) S1 := fun B H as σ c g Q q =>
  h B H as σ c g _ fun p B1 H1 vs c1 e1 hp hb hl r1 =>
    q _ (upd B1 p (.lst vs)) H1 (c1.know hl hb (c.fresh hp)) ⟨e1.ex.trans (Evl.Ex.new hb), e1.fr, fun a h => by rw [upd_ne (by rintro rfl; exact h hp)]; exact e1.gr a h, e1.pr⟩ (.lst upd_same (r1.mono (Evl.Ex.new hb)))
/-- made at p just now -/
theorem evn_new {B H B1 H1 : Hp} {as : List Addr} {p : Addr} {vs : List V} {ds : List Dat} {Q : VK} (c : Ok K B H as S) (c1 : Ok K B1 H1 as S1) (e1 : Evo B H as B1 H1) (hp : H1 p = none) (r1 : Reps K B1 vs ds)
    (q : ∀ p B' H' vs, Ok K B' H' as S1 → Evo B H as B' H' → H p = none → B' p = none → H' p = some (.lst vs) → Reps K B' vs ds → Q (.ref p) H') : Q (.ref p) (upd H1 p (.lst vs)) := by
  have hp0 : H p = none := by
    cases e : H p with
    | none => rfl
    | some u => exact absurd hp (e1.pr p (by rw [e]; simp))
  have hpa : p ∉ as := c1.fresh hp
  refine q p B1 _ vs ⟨fun a u e => ?_, c1.len, fun k a s h1 h2 => ?_, c1.nd⟩ ⟨e1.ex, fun a u n h => ?_, e1.gr, fun a h => ?_⟩ hp0 (c1.Bnone hp) upd_same r1
  · rw [upd_ne (by rintro rfl; rw [c1.Bnone hp] at e; cases e)]
    exact c1.ex a u e
  · obtain ⟨q1, q2⟩ := c1.cells k a s h1 h2
    have ne : a ≠ p := by rintro rfl; exact hpa (List.mem_of_getElem? h1)
    refine ⟨q1, ?_⟩
    obtain ⟨o, q3, q4⟩ := q2
    exact ⟨o, by rw [upd_ne ne]; exact q3, q4⟩
  · rw [upd_ne (by rintro rfl; rw [hp0] at h; cases h)]
    exact e1.fr a u n h
  · rw [upd_ne (by rintro rfl; exact h hp0)]
    exact e1.pr a h
theorem en_lst {ds : List Dat} (h : EvA K tA env S (ds.map Sl.d) S1) (hl : ds.length ≤ sizeLine) : EvN K (tLst tA) env S ds S1 := fun B H as σ c g Q q =>
  h B H as σ c g _ fun vs B1 H1 c1 e1 r1 => ⟨by rw [r1.ds.length]; exact hl, fun p hp => evn_new c c1 e1 hp r1.ds q⟩

/-! ### sequences as they are read -/
/-- a list or a tuple (known, or changed now) of ds -/
def Seq (S : List Dat) (x : Sl) (ds : List Dat) : Prop := x = .d (.lst ds) ∨ x = .d (.tup ds) ∨ ∃ k, x = .c k ∧ S[k]? = some (.lst ds)
theorem Seq.lst {ds : List Dat} : Seq S (.d (.lst ds)) ds := .inl rfl
theorem Seq.tup {ds : List Dat} : Seq S (.d (.tup ds)) ds := .inr (.inl rfl)
theorem Seq.cell {ds : List Dat} {k : Nat} (h : S[k]? = some (.lst ds)) : Seq S (.c k) ds := .inr (.inr ⟨k, rfl, h⟩)
theorem Seq.read {B H : Hp} {as : List Addr} {v : V} {ds : List Dat} (c : Ok K B H as S) (h : Seq S x ds) (r : RepS K B as v x) : ∃ a k vs, v = .ref a ∧ Sq K k H a vs ∧ Reps K B vs ds := by
  rcases h with rfl | rfl | ⟨k, rfl, hk⟩
  · cases r with
    | lst h r => exact ⟨_, true, _, rfl, Or.inl (Or.inl (c.ex _ _ h)), r⟩
  · cases r with
    | tup h r => exact ⟨_, false, _, rfl, Evl.ex_t c.ex h, r⟩
  · obtain ⟨a, ha, rfl⟩ := r
    obtain ⟨_, q⟩ := c.cells k a _ ha hk
    obtain ⟨vs, q1, q2⟩ := q.lst
    exact ⟨a, true, vs, rfl, Or.inl (Or.inl q1), q2⟩
/-- .. that is a list -/
def SeqL (S : List Dat) (x : Sl) (ds : List Dat) : Prop := x = .d (.lst ds) ∨ ∃ k, x = .c k ∧ S[k]? = some (.lst ds)
theorem SeqL.read {B H : Hp} {as : List Addr} {v : V} {ds : List Dat} (c : Ok K B H as S) (h : SeqL S x ds) (r : RepS K B as v x) : ∃ a vs, v = .ref a ∧ H a = some (.lst vs) ∧ Reps K B vs ds := by
  rcases h with rfl | ⟨k, rfl, hk⟩
  · cases r with
    | lst h r => exact ⟨_, _, rfl, c.ex _ _ h, r⟩
  · obtain ⟨a, ha, rfl⟩ := r
    obtain ⟨_, q⟩ := c.cells k a _ ha hk
    obtain ⟨vs, q1, q2⟩ := q.lst
    exact ⟨a, vs, rfl, q1, q2⟩
theorem SeqL.lst {ds : List Dat} : SeqL S (.d (.lst ds)) ds := .inl rfl
theorem SeqL.cell {ds : List Dat} {k : Nat} (h : S[k]? = some (.lst ds)) : SeqL S (.c k) ds := .inr ⟨k, rfl, h⟩
theorem sq_or {H : Hp} {a : Addr} {vs : List V} {k : Bool} (h : Sq K k H a vs) : SqL K H a vs ∨ SqT K H a vs := by
  cases k with
  | true => exact .inl h
  | false => exact .inr h
theorem atI_reps {B : Hp} {vs : List V} {ds : List Dat} {i : Int} {d : Dat} (r : Reps K B vs ds) (h : atI ds i = some d) : ∃ v, atI vs i = some v ∧ Rep K B v d := by
  unfold atI at h ⊢
  rw [r.length]
  cases e : ixN ds.length i with
  | none => rw [e] at h; cases h
  | some j =>
    rw [e] at h
    exact r.get h
/-- xs[i] -/
theorem op2_ix {ds : List Dat} {i : Int} (h : Seq S x ds) (hi : atI ds i = some d) : Op2 K (rIx K) x (.d (.int i)) S d := fun B H as v w c h1 h2 Q q => by
  obtain ⟨a, k, vs, rfl, hq, hr⟩ := h.read c h1
  obtain ⟨u, hu, ru⟩ := atI_reps hr hi
  cases h2
  cases k with
  | true => exact .inl ⟨a, vs, i, u, rfl, rfl, hq, hu, q u B H c Evo.refl ru⟩
  | false => exact .inr (.inl ⟨a, vs, i, u, rfl, rfl, hq, hu, q u B H c Evo.refl ru⟩)
end
end RW

set_option Elab.async false
set_option linter.all false
set_option maxRecDepth 100000
set_option maxHeartbeats 4000000
namespace RW
open PySem PySem.Spec PyProof.Rows L2
open Evl (Ex)

/-! ### statements -/
structure Post where
  nx : Env1 → List Dat → Prop := fun _ _ => False
  rt : Dat → List Dat → Prop := fun _ _ => False
  bk : Env1 → List Dat → Prop := fun _ _ => False
  ct : Env1 → List Dat → Prop := fun _ _ => False
/-- where a def's body stands: it was entered at B0, H0 with the changed things as0 -/
structure Fr (B0 H0 : Hp) (as0 : List Addr) (Bk : Hp) (B H : Hp) (as : List Addr) : Prop where
  kn : Ex Bk B
  base : as.take as0.length = as0
  evo : Evo B0 H0 as0 B H
  loc : ∀ a ∈ as.drop as0.length, H0 a = none
def MeetE (K : PySem.W.Frag) (B0 H0 : Hp) (as0 : List Addr) (Bk : Hp) (p : Env1 → List Dat → Prop) (D : L2.St → Hp → Prop) : Prop :=
  ∀ env' S' B' H' as' σ', Fr B0 H0 as0 Bk B' H' as' → Ok K B' H' as' S' → EnvR K B' as' σ' env' → p env' S' → D σ' H'
structure Meets (K : PySem.W.Frag) (B0 H0 : Hp) (as0 : List Addr) (Bk : Hp) (D : Ends) (P : Post) : Prop where
  nx : MeetE K B0 H0 as0 Bk P.nx D.nx
  rt : ∀ v r S' B' H', Ok K B' H' as0 S' → Evo B0 H0 as0 B' H' → Rep K B' v r → P.rt r S' → D.rt v H'
  bk : MeetE K B0 H0 as0 Bk P.bk D.bk
  ct : MeetE K B0 H0 as0 Bk P.ct D.ct
/-- run from env, S, where n of the changed things came with the call, it ends in P -/
def SP (K : PySem.W.Frag) (n : Nat) (ts : TS) (env : Env1) (S : List Dat) (P : Post) : Prop :=
  ∀ B0 H0 as0 Bk B H as σ, as0.length = n → Fr B0 H0 as0 Bk B H as → Ok K B H as S → EnvR K B as σ env → ∀ D : Ends, Meets K B0 H0 as0 Bk D P → ts D σ H
section
variable {K : PySem.W.Frag} {n : Nat} {te ta tb tc to ti : TE} {tt : TT} {tA tR : TA} {env env' : Env1} {S S1 S2 S3 : List Dat} {x y z : Sl} {d e : Dat} {ds : List Dat} {r : R2} {P P' : Post} {t u : TS}
  {B B0 B1 B' Bk H H0 H1 H' : Hp} {as as0 as1 : List Addr} {D : Ends} {σ : L2.St} {i : Nat}
theorem Evo.old (e : Evo B H as B1 H1) {a : Addr} (h : H1 a = none) : H a = none := by
  cases q : H a with
  | none => rfl
  | some u => exact absurd h (e.pr a (by rw [q]; simp))
theorem Ok.upto (c : Ok K B H as S) (k : Nat) : Ok K B H (as.take k) (S.take k) where
  ex := c.ex
  len := by rw [List.length_take, List.length_take, c.len]
  cells := fun j a s h1 h2 => by
    have hk : j < (as.take k).length := (List.getElem?_eq_some_iff.mp h1).1
    rw [List.length_take] at hk
    have hk' : j < k := by omega
    rw [List.getElem?_take_of_lt hk'] at h1 h2
    exact c.cells j a s h1 h2
  nd := c.nd.sublist (List.take_sublist _ _)
theorem Fr.step (f : Fr B0 H0 as0 Bk B H as) (e : Evo B H as B1 H1) : Fr B0 H0 as0 Bk B1 H1 as where
  kn := f.kn.trans e.ex
  base := f.base
  evo := ⟨f.evo.ex.trans e.ex, fun a o hn q => e.fr a o (fun hm => by
      rw [← List.take_append_drop as0.length as, f.base] at hm
      rcases List.mem_append.mp hm with z | z
      · exact hn z
      · rw [f.loc a z] at q; cases q) (f.evo.fr a o hn q), fun a q => (e.gr a (f.evo.pr a q)).trans (f.evo.gr a q), fun a q => e.pr a (f.evo.pr a q)⟩
  loc := f.loc
theorem Fr.len (f : Fr B0 H0 as0 Bk B H as) : as0.length ≤ as.length := by
  have := congrArg List.length f.base
  rw [List.length_take] at this
  omega
/-- one more changed thing -/
theorem Fr.push {p : Addr} (f : Fr B0 H0 as0 Bk B H as) (h : H0 p = none) : Fr B0 H0 as0 Bk B H (as ++ [p]) where
  kn := f.kn
  base := by rw [List.take_append_of_le_length f.len]; exact f.base
  evo := f.evo
  loc := fun a ha => by
    rw [List.drop_append_of_le_length f.len] at ha
    rcases List.mem_append.mp ha with z | z
    · exact f.loc a z
    · rw [List.mem_singleton.mp z]; exact h
theorem Ok.push {p : Addr} {s0 : Dat} (c : Ok K B H as S) (hb : B p = none) (ha : p ∉ as) (r : CellAt K B H p s0) : Ok K B H (as ++ [p]) (S ++ [s0]) where
  ex := c.ex
  len := by rw [List.length_append, List.length_append, c.len]; rfl
  cells := fun k a s h1 h2 => by
    by_cases hk : k < as.length
    · rw [List.getElem?_append_left hk] at h1
      rw [List.getElem?_append_left (by rw [← c.len]; exact hk)] at h2
      exact c.cells k a s h1 h2
    · have hk2 : ¬ k < S.length := by rw [← c.len]; exact hk
      rw [List.getElem?_append_right (by omega)] at h1 h2
      have e0 : k - as.length = 0 := by
        have := (List.getElem?_eq_some_iff.mp h1).1
        simp at this
        omega
      have e1 : k - S.length = 0 := by rw [← c.len]; exact e0
      rw [e0] at h1
      rw [e1] at h2
      simp at h1 h2
      subst h1 h2
      exact ⟨hb, r⟩
  nd := List.nodup_append.mpr ⟨c.nd, by simp, fun a h1 b h2 => by rw [List.mem_singleton.mp h2]; rintro rfl; exact ha h1⟩
theorem SP.imp (h : SP K n t env S P) (hn : ∀ env' S', P.nx env' S' → P'.nx env' S') (hr : ∀ r S', P.rt r S' → P'.rt r S') (hb : ∀ env' S', P.bk env' S' → P'.bk env' S') (hc : ∀ env' S', P.ct env' S' → P'.ct env' S') : SP K n t env S P' :=
  fun B0 H0 as0 Bk B H as σ hl f c g D m => h B0 H0 as0 Bk B H as σ hl f c g D ⟨fun a b c d e f g h i p => m.nx a b c d e f g h i (hn _ _ p), fun a b c d e f g h p => m.rt a b c d e f g h (hr _ _ p),
    fun a b c d e f g h i p => m.bk a b c d e f g h i (hb _ _ p), fun a b c d e f g h i p => m.ct a b c d e f g h i (hc _ _ p)⟩
theorem sp_seq (h : SP K n t env S { P with nx := P'.nx }) (k : ∀ env' S', P'.nx env' S' → SP K n u env' S' P) : SP K n (tSeq t u) env S P := fun B0 H0 as0 Bk B H as σ hl f c g D m =>
  h B0 H0 as0 Bk B H as σ hl f c g { D with nx := u D } ⟨fun env' S' B' H' as' σ' f' c' g' p => k env' S' p B0 H0 as0 Bk B' H' as' σ' hl f' c' g' D m, m.rt, m.bk, m.ct⟩
/-- the first one goes on at one place alone -/
theorem sp_then (h : SP K n t env S { P with nx := fun env' S' => env' = env1 ∧ S' = S1 }) (k : SP K n u env1 S1 P) : SP K n (tSeq t u) env S P :=
  sp_seq (P' := { nx := fun env' S' => env' = env1 ∧ S' = S1 }) h fun env' S' ⟨e1, e2⟩ => by subst e1 e2; exact k
theorem sp_next (h : P.nx env S) : SP K n tNext env S P := fun B0 H0 as0 Bk B H as σ hl f c g D m => m.nx env S B H as σ f c g h
theorem sp_break (h : P.bk env S) : SP K n tBreak env S P := fun B0 H0 as0 Bk B H as σ hl f c g D m => m.bk env S B H as σ f c g h
theorem sp_cont (h : P.ct env S) : SP K n tCont env S P := fun B0 H0 as0 Bk B H as σ hl f c g D m => m.ct env S B H as σ f c g h
/-- x = e, and what follows -/
theorem sp_set (h : Ev K te env S x S1) (k : SP K n u (env.set i (some x)) S1 P) : SP K n (tSeq (tAsg te (gName i)) u) env S P := fun B0 H0 as0 Bk B H as σ hl f c g D m =>
  h B H as σ c g _ fun v B1 H1 c1 e1 r1 => k B0 H0 as0 Bk B1 H1 as _ hl (f.step e1) c1 ((g.mono e1.ex).set i r1) D m
theorem sp_set1 (h : Ev K te env S x S1) (k : P.nx (env.set i (some x)) S1) : SP K n (tAsg te (gName i)) env S P := fun B0 H0 as0 Bk B H as σ hl f c g D m =>
  h B H as σ c g _ fun v B1 H1 c1 e1 r1 => m.nx _ S1 B1 H1 as _ (f.step e1) c1 ((g.mono e1.ex).set i r1) k
/-- x = a new list, which will be changed -/
theorem sp_setC (h : EvN K te env S ds S1) (k : SP K n u (env.set i (some (.c S1.length))) (S1 ++ [.lst ds]) P) : SP K n (tSeq (tAsg te (gName i)) u) env S P := fun B0 H0 as0 Bk B H as σ hl f c g D m =>
  h B H as σ c g _ fun p B1 H1 vs c1 e1 hp hb h1 r1 => by
    have hpa := c.fresh hp
    refine k B0 H0 as0 Bk B1 H1 (as ++ [p]) _ hl ((f.step e1).push (f.evo.old hp)) (c1.push hb hpa (.ofL h1 r1)) (((g.mono e1.ex).grow).set i ?_) D m
    exact ⟨p, by rw [← c1.len]; simp, rfl⟩
/-- return e -/
theorem sp_ret (h : Ev K te env S (.d d) S1) (k : P.rt d (S1.take n)) : SP K n (tRet te) env S P := fun B0 H0 as0 Bk B H as σ hl f c g D m =>
  h B H as σ c g _ fun v B1 H1 c1 e1 r1 => by
    have f1 := f.step e1
    have c2 := c1.upto as0.length
    rw [f1.base] at c2
    subst hl
    exact m.rt v d _ B1 H1 c2 f1.evo r1 k
/-- return xs, a list that was made here and changed -/
theorem sp_retC {j k : Nat} (h : env[j]? = some (some (.c k))) (hs : S[k]? = some (.lst ds)) (hk : n ≤ k) (q : P.rt (.lst ds) (S.take n)) : SP K n (tRet (tVar j)) env S P := fun B0 H0 as0 Bk B H as σ hl f c g D m => by
  obtain ⟨v, h1, a, ha, rfl⟩ := g.2 j _ h
  obtain ⟨hb, q0⟩ := c.cells k a _ ha hs
  obtain ⟨vs, hv, rv⟩ := q0.lst
  refine ⟨.ref a, h1, ?_⟩
  have c2 := c.upto as0.length
  rw [f.base] at c2
  subst hl
  have hd : a ∈ as.drop as0.length := by
    have hkl := (List.getElem?_eq_some_iff.mp ha).1
    refine List.mem_of_getElem? (i := k - as0.length) ?_
    rw [List.getElem?_drop]
    rw [show as0.length + (k - as0.length) = k by omega]
    exact ha
  have hn : a ∉ as0 := by
    intro hm
    have nd := c.nd
    rw [← List.take_append_drop as0.length as, f.base] at nd
    exact (List.nodup_append.mp nd).2.2 a hm a hd rfl
  have h0 := f.loc a hd
  exact m.rt (.ref a) (.lst ds) _ (upd B a (.lst vs)) H (c2.know hv hb hn) ⟨f.evo.ex.trans (Evl.Ex.new hb), f.evo.fr, fun b hb' => by rw [upd_ne (by rintro rfl; exact hb' h0)]; exact f.evo.gr b hb', f.evo.pr⟩ (.lst upd_same (rv.mono (Evl.Ex.new hb))) q
theorem sp_retN (k : P.rt .non (S.take n)) : SP K n tRetN env S P := fun B0 H0 as0 Bk B H as σ hl f c g D m => by
  have c2 := c.upto as0.length
  rw [f.base] at c2
  subst hl
  exact m.rt .non .non _ B H c2 f.evo .non k
/-- e, and what follows -/
theorem sp_drop (h : Ev K te env S x S1) (k : SP K n u env S1 P) : SP K n (tSeq (tDrop te) u) env S P := fun B0 H0 as0 Bk B H as σ hl f c g D m =>
  h B H as σ c g _ fun v B1 H1 c1 e1 r1 => k B0 H0 as0 Bk B1 H1 as _ hl (f.step e1) c1 (g.mono e1.ex) D m
theorem sp_drop1 (h : Ev K te env S x S1) (k : P.nx env S1) : SP K n (tDrop te) env S P := fun B0 H0 as0 Bk B H as σ hl f c g D m =>
  h B H as σ c g _ fun v B1 H1 c1 e1 r1 => m.nx _ S1 B1 H1 as _ (f.step e1) c1 (g.mono e1.ex) k
theorem sp_if {b : Bool} (h : EvT K tt env S b S1) (h1 : b = true → SP K n t env S1 P) (h2 : b = false → SP K n u env S1 P) : SP K n (tIfS tt t u) env S P := fun B0 H0 as0 Bk B H as σ hl f c g D m =>
  h B H as σ c g _ fun B1 H1 c1 e1 => by
    cases b with
    | true => exact h1 rfl B0 H0 as0 Bk B1 H1 as _ hl (f.step e1) c1 (g.mono e1.ex) D m
    | false => exact h2 rfl B0 H0 as0 Bk B1 H1 as _ hl (f.step e1) c1 (g.mono e1.ex) D m
/-- an if, and what follows -/
theorem sp_ifq {v : TS} {b : Bool} (h : EvT K tt env S b S1) (h1 : b = true → SP K n (tSeq t v) env S1 P) (h2 : b = false → SP K n (tSeq u v) env S1 P) : SP K n (tSeq (tIfS tt t u) v) env S P := fun B0 H0 as0 Bk B H as σ hl f c g D m =>
  h B H as σ c g _ fun B1 H1 c1 e1 => by
    cases b with
    | true => exact h1 rfl B0 H0 as0 Bk B1 H1 as _ hl (f.step e1) c1 (g.mono e1.ex) D m
    | false => exact h2 rfl B0 H0 as0 Bk B1 H1 as _ hl (f.step e1) c1 (g.mono e1.ex) D m
theorem sp_nextq {v : TS} (h : SP K n v env S P) : SP K n (tSeq tNext v) env S P := fun B0 H0 as0 Bk B H as σ hl f c g D m => h B0 H0 as0 Bk B H as σ hl f c g D m
theorem sp_retq {v : TS} (h : SP K n (tRet te) env S P) : SP K n (tSeq (tRet te) v) env S P := fun B0 H0 as0 Bk B H as σ hl f c g D m =>
  h B0 H0 as0 Bk B H as σ hl f c g { D with nx := fun _ _ => True } ⟨fun _ _ _ _ _ _ _ _ _ _ => trivial, m.rt, m.bk, m.ct⟩
theorem sp_assoc {v : TS} (h : SP K n (tSeq t (tSeq u v)) env S P) : SP K n (tSeq (tSeq t u) v) env S P := h

/-! ### a def's promise: G args S result S' -/
def SpD (K : PySem.W.Frag) (G : List Sl → List Dat → Dat → List Dat → Prop) : Sp := fun vs H Q _ => ∃ B as S ss r S', Ok K B H as S ∧ RepSs K B as vs ss ∧ G ss S r S' ∧
  ∀ v B' H', Ok K B' H' as S' → Evo B H as B' H' → Rep K B' v r → Q v H'
theorem sp_body {G : List Sl → List Dat → Dat → List Dat → Prop} {N : List Str} {vs : List V} {Q : VK} {E : XK} (h : SpD K G vs H Q E)
    (k : ∀ ss S r S', G ss S r S' → SP K S.length t (ss.map some ++ List.replicate (N.length - ss.length) none) S { rt := fun r' T => r' = r ∧ T = S', nx := fun _ T => r = .non ∧ T.take S.length = S' }) :
    t { nx := fun _ H' => Q .non H', rt := Q } (start N vs) H := by
  obtain ⟨B, as, S, ss, r, S', c, rs, g, q⟩ := h
  refine k ss S r S' g B H as B B H as _ c.len ⟨Evl.Ex.refl B, List.take_length, Evo.refl, fun a ha => ?_⟩ c (EnvR.start rs) _ ⟨fun env' T B' H' as' σ' f c' g' ⟨p1, p2⟩ => ?_, fun v r' T B' H' c' e' r1 ⟨p1, p2⟩ => ?_, fun _ _ _ _ _ _ _ _ _ p => p.elim, fun _ _ _ _ _ _ _ _ _ p => p.elim⟩
  · rw [List.drop_length] at ha; cases ha
  · subst p1
    have c2 := c'.upto as.length
    rw [f.base, c.len, p2] at c2
    exact q .non B' H' c2 f.evo .non
  · subst p1 p2
    exact q v B' H' c' e' r1
theorem spd_len {G : List Sl → List Dat → Dat → List Dat → Prop} {k : Nat} (h : ∀ ss S r S', G ss S r S' → ss.length = k) : ∀ vs H Q E, SpD K G vs H Q E → vs.length = k := fun vs H Q E q => by
  obtain ⟨B, as, S, ss, r, S', c, rs, g, _⟩ := q
  rw [rs.length]
  exact h ss S r S' g
theorem ev_call {G : List Sl → List Dat → Dat → List Dat → Prop} {ss : List Sl} {E : XK} (h : EvA K tA env S ss S1) (hg : G ss S1 d S2) : Ev K (tCall (SpD K G) [] E tA) env S (.d d) S2 := fun B H as σ c g Q q =>
  h B H as σ c g _ fun vs B1 H1 c1 e1 r1 => ⟨B1, as, S1, ss, d, S2, c1, by rw [List.append_nil]; exact r1, hg, fun v B2 H2 c2 e2 r2 => q v B2 H2 c2 (e1.trans e2) r2⟩
end
end RW

set_option Elab.async false
set_option linter.all false
set_option maxRecDepth 100000
set_option maxHeartbeats 4000000
namespace RW
open PySem PySem.Spec PyProof.Rows L2
open Evl (Ex)
section
variable {K : PySem.W.Frag} {n : Nat} {te ta tb tc to ti : TE} {tt tu : TT} {tA tR : TA} {env env' : Env1} {S S1 S2 S3 : List Dat} {x y z : Sl} {d e : Dat} {ds es : List Dat} {r r' : R2} {P P' : Post} {t u : TS}
  {B B0 B1 B' H H0 H1 H' : Hp} {as as0 as1 : List Addr} {D : Ends} {σ : L2.St} {i : Nat} {a b c : Bool}
/-! ### truth -/
theorem et_test (h : Ev K te env S (.d (.bl b)) S1) : EvT K (tTest te) env S b S1 := fun B H as σ c g Q q => h B H as σ c g _ fun v B1 H1 c1 e1 r1 => by
  cases r1; exact ⟨b, rfl, q B1 H1 c1 e1⟩
theorem et_B (h : Ev K te env S (.d (.bl b)) S1) : EvT K (tB te) env S b S1 := fun B H as σ c g Q q => h B H as σ c g _ fun v B1 H1 c1 e1 r1 => by
  cases r1; exact ⟨b, rfl, q B1 H1 c1 e1⟩
theorem et_yes : EvT K tYes env S true S := fun B H as σ c g Q q => q B H c Evo.refl
theorem et_and (h1 : EvT K tt env S a S1) (h2 : a = true → EvT K tu env S1 b S2) (h3 : a = false → S2 = S1 ∧ b = false) : EvT K (tAnd tt tu) env S b S2 := fun B H as σ c g Q q =>
  h1 B H as σ c g _ fun B1 H1 c1 e1 => by
    cases a with
    | true => exact h2 rfl B1 H1 as σ c1 (g.mono e1.ex) Q fun B2 H2 c2 e2 => q B2 H2 c2 (e1.trans e2)
    | false =>
      obtain ⟨e2, e3⟩ := h3 rfl
      subst e2 e3
      exact q B1 H1 c1 e1
theorem et_or (h1 : EvT K tt env S a S1) (h2 : a = false → EvT K tu env S1 b S2) (h3 : a = true → S2 = S1 ∧ b = true) : EvT K (tOr tt tu) env S b S2 := fun B H as σ c g Q q =>
  h1 B H as σ c g _ fun B1 H1 c1 e1 => by
    cases a with
    | false => exact h2 rfl B1 H1 as σ c1 (g.mono e1.ex) Q fun B2 H2 c2 e2 => q B2 H2 c2 (e1.trans e2)
    | true =>
      obtain ⟨e2, e3⟩ := h3 rfl
      subst e2 e3
      exact q B1 H1 c1 e1
/-- both without change -/
theorem et_andP (h1 : EvT K tt env S a S) (h2 : a = true → EvT K tu env S b S) : EvT K (tAnd tt tu) env S (a && b) S := by
  cases a with
  | true => exact et_and h1 (fun _ => by simpa using h2 rfl) (fun h => by cases h)
  | false => exact et_and h1 (fun h => by cases h) (fun _ => ⟨rfl, rfl⟩)
theorem et_orP (h1 : EvT K tt env S a S) (h2 : a = false → EvT K tu env S b S) : EvT K (tOr tt tu) env S (a || b) S := by
  cases a with
  | false => exact et_or h1 (fun _ => by simpa using h2 rfl) (fun h => by cases h)
  | true => exact et_or h1 (fun h => by cases h) (fun _ => ⟨rfl, rfl⟩)
theorem et_not (h1 : EvT K tt env S a S1) : EvT K (tNot tt) env S (!a) S1 := fun B H as σ c g Q q => h1 B H as σ c g _ fun B1 H1 c1 e1 => q B1 H1 c1 e1
theorem ev_andV (h1 : Ev K ta env S (.d (.bl a)) S) (h2 : a = true → Ev K tb env S (.d (.bl b)) S) : Ev K (tAndV ta tb) env S (.d (.bl (a && b))) S := fun B H as σ c g Q q =>
  h1 B H as σ c g _ fun v B1 H1 c1 e1 r1 => by
    cases r1
    refine ⟨a, rfl, ?_⟩
    cases a with
    | true => exact h2 rfl B1 H1 as σ c1 (g.mono e1.ex) Q fun v B2 H2 c2 e2 r2 => q v B2 H2 c2 (e1.trans e2) r2
    | false => exact q _ B1 H1 c1 e1 (.bl false)
theorem ev_orV (h1 : Ev K ta env S (.d (.bl a)) S) (h2 : a = false → Ev K tb env S (.d (.bl b)) S) : Ev K (tOrV ta tb) env S (.d (.bl (a || b))) S := fun B H as σ c g Q q =>
  h1 B H as σ c g _ fun v B1 H1 c1 e1 r1 => by
    cases r1
    refine ⟨a, rfl, ?_⟩
    cases a with
    | false => exact h2 rfl B1 H1 as σ c1 (g.mono e1.ex) Q fun v B2 H2 c2 e2 r2 => q v B2 H2 c2 (e1.trans e2) r2
    | true => exact q _ B1 H1 c1 e1 (.bl true)
theorem ev_notV (h1 : Ev K ta env S (.d (.bl a)) S1) : Ev K (tNotV ta) env S (.d (.bl (!a))) S1 := fun B H as σ c g Q q =>
  h1 B H as σ c g _ fun v B1 H1 c1 e1 r1 => by
    cases r1
    exact ⟨a, rfl, q _ B1 H1 c1 e1 (.bl _)⟩
theorem ev_if (h : EvT K tt env S b S1) (h1 : b = true → Ev K ta env S1 x S2) (h2 : b = false → Ev K tb env S1 x S2) : Ev K (tIf tt ta tb) env S x S2 := fun B H as σ c g Q q =>
  h B H as σ c g _ fun B1 H1 c1 e1 => by
    cases b with
    | true => exact h1 rfl B1 H1 as σ c1 (g.mono e1.ex) Q fun v B2 H2 c2 e2 r2 => q v B2 H2 c2 (e1.trans e2) r2
    | false => exact h2 rfl B1 H1 as σ c1 (g.mono e1.ex) Q fun v B2 H2 c2 e2 r2 => q v B2 H2 c2 (e1.trans e2) r2
/-- a op b op' c -/
theorem ev_chain (h1 : Ev K ta env S x S1) (h2 : Ev K tb env S1 y S2) (hr : Op2 K r x y S2 (.bl a)) (h3 : a = true → Ev K tc env S2 z S2) (hr' : a = true → Op2 K r' y z S2 (.bl b)) : Ev K (tChain r r' ta tb tc) env S (.d (.bl (a && b))) S2 := fun B H as σ c g Q q =>
  h1 B H as σ c g _ fun v B1 H1 c1 e1 r1 => h2 B1 H1 as σ c1 (g.mono e1.ex) _ fun w B2 H2 c2 e2 r2 => hr B2 H2 as v w c2 (r1.mono e2.ex) r2 _ fun u B3 H3 c3 e3 r3 => by
    cases r3
    refine ⟨a, rfl, ?_⟩
    have e03 := (e1.trans e2).trans e3
    cases a with
    | true => exact h3 rfl B3 H3 as σ c3 (g.mono e03.ex) _ fun w' B4 H4 c4 e4 r4 => hr' rfl B4 H4 as w w' c4 ((r2.mono e3.ex).mono e4.ex) r4 Q fun u B5 H5 c5 e5 r5 => q u B5 H5 c5 ((e03.trans e4).trans e5) r5
    | false => exact q _ B3 H3 c3 e03 (.bl false)
/-- truth of a list, a tuple (if xs:) -/
def tTru (K : PySem.W.Frag) (ta : TE) : TT := fun σ H Q => ta σ H fun x H' => ∃ k, TruV K x H' k ∧ Q k H'
theorem pt_tru {X : Cx} {e : Expr} {ta : TE} (ha : PE X e ta) (he : ∀ whole, isTrue e X.env whole = (do let v ← whole; standAt e.pos; holding [v] (truthy v)) := by intro _; rfl) : PT X e (tTru X.K ta) := pt_truth ha he
theorem isEmpty_reps {vs : List V} {ds : List Dat} (r : Reps K B vs ds) : vs.isEmpty = ds.isEmpty := by cases r <;> rfl
theorem et_seq (h : Ev K ta env S x S1) (hs : Seq S1 x ds) : EvT K (tTru K ta) env S (!ds.isEmpty) S1 := fun B H as σ c g Q q => h B H as σ c g _ fun v B1 H1 c1 e1 r1 => by
  obtain ⟨a, k, vs, rfl, hq, hr⟩ := hs.read c1 r1
  refine ⟨!ds.isEmpty, ?_, q B1 H1 c1 e1⟩
  rw [← isEmpty_reps hr]
  cases k with
  | true => exact .inl ⟨vs, hq, rfl⟩
  | false => exact .inr (.inl ⟨vs, hq, rfl⟩)
theorem et_bl (h : Ev K ta env S (.d (.bl b)) S1) : EvT K (tTru K ta) env S b S1 := fun B H as σ c g Q q => h B H as σ c g _ fun v B1 H1 c1 e1 r1 => by
  cases r1; exact ⟨b, rfl, q B1 H1 c1 e1⟩

/-! ### calls of built-ins by values -/
theorem ev_cb {r : List V → Hp → VK → Prop} {xs : List Sl} (h : EvA K tA env S xs S1) (hc : CallD K r xs S1 d S2) : Ev K (tCB r tA) env S (.d d) S2 := fun B H as σ c g Q q =>
  h B H as σ c g _ fun vs B1 H1 c1 e1 r1 => hc B1 H1 as vs c1 r1 Q fun u B2 H2 c2 e2 r2 => q u B2 H2 c2 (e1.trans e2) r2
def rLenD (K : PySem.W.Frag) : List V → Hp → VK → Prop := fun xs H Q => ∃ p ys, xs = [.ref p] ∧ (SqL K H p ys ∨ SqT K H p ys) ∧ Q (.int ys.length) H
theorem call_lenD {X : Cx} : CallR X (.builtin "len") (rLenD X.K) := call_len_seq
theorem cd_len (h : Seq S x ds) : CallD K (rLenD K) [x] S (.int ds.length) S := fun B H as vs c r Q q => by
  cases r with
  | cons r1 rr =>
    cases rr
    obtain ⟨a, k, ws, rfl, hq, hr⟩ := h.read c r1
    exact ⟨a, ws, rfl, sq_or hq, by rw [hr.length]; exact q _ B H c Evo.refl (.int _)⟩
theorem cd_lenS {ns : List Int} : CallD K (rLenD K) [.d (.scr ns)] S (.int ns.length) S := fun B H as vs c r Q q => by
  cases r with
  | cons r1 rr =>
    cases rr
    cases r1 with
    | scr h =>
      refine ⟨_, _, rfl, .inl (Evl.ex_l c.ex h), ?_⟩
      rw [List.length_map]
      exact q _ B H c Evo.refl (.int _)
theorem cd_sum {ns : List Int} (h : SeqL S x (ns.map Dat.int)) : CallD K (rSum K) [x] S (.int ns.sum) S := fun B H as vs c r Q q => by
  cases r with
  | cons r1 rr =>
    cases rr
    obtain ⟨a, ws, rfl, hq, hr⟩ := h.read c r1
    rw [hr.ints] at hq
    exact ⟨a, ns, rfl, Evl.sq_of hq, q _ B H c Evo.refl (.int _)⟩
theorem cd_all {bs : List Bool} (h : SeqL S x (bs.map Dat.bl)) : CallD K (rAll K) [x] S (.bl (bs.all id)) S := fun B H as vs c r Q q => by
  cases r with
  | cons r1 rr =>
    cases rr
    obtain ⟨a, ws, rfl, hq, hr⟩ := h.read c r1
    rw [hr.bls] at hq
    exact ⟨a, bs, rfl, Evl.sq_of hq, q _ B H c Evo.refl (.bl _)⟩
theorem cd_any {bs : List Bool} (h : SeqL S x (bs.map Dat.bl)) : CallD K (rAny K) [x] S (.bl (bs.any id)) S := fun B H as vs c r Q q => by
  cases r with
  | cons r1 rr =>
    cases rr
    obtain ⟨a, ws, rfl, hq, hr⟩ := h.read c r1
    rw [hr.bls] at hq
    exact ⟨a, bs, rfl, Evl.sq_of hq, q _ B H c Evo.refl (.bl _)⟩
def rTupD (K : PySem.W.Frag) : List V → Hp → VK → Prop := fun xs H Q => ∃ p ys, xs = [.ref p] ∧ ((SqL K H p ys ∧ ∀ l, H l = none → Q (.ref l) (upd H l (.tup ys))) ∨ (SqT K H p ys ∧ Q (.ref p) H))
theorem call_tupD {X : Cx} (hc : X.calm = true) : CallR X (.type "tuple") (rTupD X.K) := by first | exact call_tuple_of | exact call_tuple_of hc
theorem cd_tup (h : SeqL S x ds) : CallD K (rTupD K) [x] S (.tup ds) S := fun B H as vs c r Q q => by
  cases r with
  | cons r1 rr =>
    cases rr
    obtain ⟨a, ws, rfl, hq, hr⟩ := h.read c r1
    exact ⟨a, ws, rfl, .inl ⟨Evl.sq_of hq, fun l hl => q _ (upd B l (.tup ws)) _ (c.new hl) (Evo.new c hl) (.tup (Evl.st_of upd_same) (hr.mono (Evl.Ex.new (c.Bnone hl))))⟩⟩
def rLstD (K : PySem.W.Frag) : List V → Hp → VK → Prop := fun xs H Q => ∃ p ys, xs = [.ref p] ∧ (SqL K H p ys ∨ SqT K H p ys) ∧ ∀ l, H l = none → Q (.ref l) (upd H l (.lst ys))
theorem call_lstD {X : Cx} (hc : X.calm = true) : CallR X (.type "list") (rLstD X.K) := by first | exact call_list_of | exact call_list_of hc
theorem en_list (h : EvA K tA env S [x] S1) (hs : Seq S1 x ds) : EvN K (tCB (rLstD K) tA) env S ds S1 := fun B H as σ c g Q q =>
  h B H as σ c g _ fun vs B1 H1 c1 e1 r1 => by
    cases r1 with
    | cons r1 rr =>
      cases rr
      obtain ⟨a, k, ws, rfl, hq, hr⟩ := hs.read c1 r1
      exact ⟨a, ws, rfl, sq_or hq, fun l hl => evn_new c c1 e1 hl hr q⟩
def rMax2D : List V → Hp → VK → Prop := fun xs H Q => ∃ i j, xs = [.int i, .int j] ∧ Q (.int (if j > i then j else i)) H
theorem call_max2D {X : Cx} (hc : X.calm = true) : CallR X (.builtin "max") rMax2D := call_max2 hc
theorem cd_max2 {i j : Int} : CallD K rMax2D [.d (.int i), .d (.int j)] S (.int (max i j)) S := fun B H as vs c r Q q => by
  cases r with
  | cons r1 rr =>
    cases rr with
    | cons r2 rr =>
      cases rr; cases r1; cases r2
      refine ⟨i, j, rfl, ?_⟩
      have e : (if j > i then j else i) = max i j := by rw [Int.max_def]; split <;> split <;> omega
      rw [e]
      exact q _ B H c Evo.refl (.int _)
def rMin2D : List V → Hp → VK → Prop := fun xs H Q => ∃ i j, xs = [.int i, .int j] ∧ Q (.int (if j < i then j else i)) H
theorem call_min2D {X : Cx} (hc : X.calm = true) : CallR X (.builtin "min") rMin2D := call_min2 hc
theorem cd_min2 {i j : Int} : CallD K rMin2D [.d (.int i), .d (.int j)] S (.int (min i j)) S := fun B H as vs c r Q q => by
  cases r with
  | cons r1 rr =>
    cases rr with
    | cons r2 rr =>
      cases rr; cases r1; cases r2
      refine ⟨i, j, rfl, ?_⟩
      have e : (if j < i then j else i) = min i j := by rw [Int.min_def]; split <;> split <;> omega
      rw [e]
      exact q _ B H c Evo.refl (.int _)
def rAbsD : List V → Hp → VK → Prop := fun xs H Q => ∃ i, xs = [.int i] ∧ Q (.int (if i < 0 then -i else i)) H
theorem call_absD {X : Cx} : CallR X (.builtin "abs") rAbsD := call_abs
theorem cd_abs {i : Int} : CallD K rAbsD [.d (.int i)] S (.int (i.natAbs : Int)) S := fun B H as vs c r Q q => by
  cases r with
  | cons r1 rr =>
    cases rr; cases r1
    refine ⟨i, rfl, ?_⟩
    have e : (if i < 0 then -i else i) = (i.natAbs : Int) := by split <;> omega
    rw [e]
    exact q _ B H c Evo.refl (.int _)
def rIntD : List V → Hp → VK → Prop := fun xs H Q => (∃ i, xs = [.int i] ∧ Q (.int i) H) ∨ ∃ b, xs = [.bl b] ∧ Q (.int (b2i b)) H
theorem call_intD {X : Cx} : CallR X (.type "int") rIntD := call_int1
theorem cd_int {i : Int} : CallD K rIntD [.d (.int i)] S (.int i) S := fun B H as vs c r Q q => by
  cases r with
  | cons r1 rr =>
    cases rr; cases r1
    exact .inl ⟨i, rfl, q _ B H c Evo.refl (.int _)⟩
theorem cd_intB : CallD K rIntD [.d (.bl b)] S (.int (b2i b)) S := fun B H as vs c r Q q => by
  cases r with
  | cons r1 rr =>
    cases rr; cases r1
    exact .inr ⟨b, rfl, q _ B H c Evo.refl (.int _)⟩
end
end RW

set_option Elab.async false
set_option linter.all false
set_option maxRecDepth 100000
set_option maxHeartbeats 4000000
namespace RW
open PySem PySem.Spec PyProof.Rows L2
open Evl (Ex)
section
variable {K : PySem.W.Frag} {n : Nat} {te ta tb tc to ti : TE} {tt tu : TT} {tA tR : TA} {env env' : Env1} {S S1 S2 S3 : List Dat} {x y z : Sl} {d e : Dat} {ds es : List Dat} {r r' : R2} {P P' : Post} {t u : TS}
  {B B0 B1 B' H H0 H1 H' : Hp} {as as0 as1 : List Addr} {D : Ends} {σ : L2.St} {i : Nat} {a b c : Bool}
/-! ### + and slices -/
theorem reps_nil {vs : List V} : Reps K B vs [] → vs = [] := fun h => by cases h; rfl
theorem reps_ne {vs : List V} (r : Reps K B vs ds) : vs = [] ↔ ds = [] := by cases r <;> simp
theorem op2_catT (hl : ds.length + es.length ≤ sizeLine) : Op2 K (rCatA K) (.d (.tup ds)) (.d (.tup es)) S (.tup (ds ++ es)) := fun B H as v w c h1 h2 Q q => by
  cases h1 with
  | tup h1 r1 =>
    cases h2 with
    | tup h2 r2 =>
      rename_i a1 xs a2 ys
      refine ⟨a1, a2, xs, ys, rfl, rfl, Evl.ex_t c.ex h1, Evl.ex_t c.ex h2, by rw [r1.length, r2.length]; exact hl, fun e => ?_, fun _ e => ?_, fun _ _ p hp => ?_⟩
      · have : ds = [] := (reps_ne r1).mp e
        subst this
        exact q _ B H c Evo.refl (.tup h2 r2)
      · have : es = [] := (reps_ne r2).mp e
        subst this
        rw [List.append_nil] at q
        exact q _ B H c Evo.refl (.tup h1 r1)
      · exact q _ (upd B p _) _ (c.new hp) (Evo.new c hp) (.tup (Evl.st_of upd_same) ((r1.append r2).mono (Evl.Ex.new (c.Bnone hp))))
/-- a binary operation that makes a new list -/
theorem en_cat {ds es : List Dat} (ha : Ev K ta env S x S1) (hb : Ev K tb env S1 y S2) (hx : SeqL S2 x ds) (hy : SeqL S2 y es) (hl : ds.length + es.length ≤ sizeLine) : EvN K (tOp rCat ta tb) env S (ds ++ es) S2 := fun B H as σ c g Q q =>
  ha B H as σ c g _ fun v B1 H1 c1 e1 r1 => hb B1 H1 as σ c1 (g.mono e1.ex) _ fun w B2 H2 c2 e2 r2 => by
    obtain ⟨a1, xs, rfl, h1, q1⟩ := hx.read c2 (r1.mono e2.ex)
    obtain ⟨a2, ys, rfl, h2, q2⟩ := hy.read c2 r2
    exact ⟨a1, a2, xs, ys, rfl, rfl, h1, h2, by rw [q1.length, q2.length]; exact hl, fun p hp => evn_new c c2 (e1.trans e2) hp (q1.append q2) q⟩
theorem reps_rep {vs : List V} (r : Reps K B vs ds) : ∀ k : Nat, Reps K B (List.replicate k vs).flatten (List.replicate k ds).flatten
  | 0 => .nil
  | k + 1 => by
    rw [List.replicate_succ, List.replicate_succ, List.flatten_cons, List.flatten_cons]
    exact r.append (reps_rep r k)
theorem en_rep {ds : List Dat} {k : Int} (ha : Ev K ta env S x S1) (hb : Ev K tb env S1 (.d (.int k)) S2) (hx : SeqL S2 x ds) (hk : -(2 ^ 63) ≤ k ∧ k < 2 ^ 63) (hl : ds.length * k.toNat ≤ sizeLine) : EvN K (tOp rRep ta tb) env S (List.replicate k.toNat ds).flatten S2 := fun B H as σ c g Q q =>
  ha B H as σ c g _ fun v B1 H1 c1 e1 r1 => hb B1 H1 as σ c1 (g.mono e1.ex) _ fun w B2 H2 c2 e2 r2 => by
    obtain ⟨a1, xs, rfl, h1, q1⟩ := hx.read c2 (r1.mono e2.ex)
    cases r2
    exact ⟨a1, k, xs, rfl, rfl, h1, hk.1, hk.2, by rw [q1.length]; exact hl, fun p hp => evn_new c c2 (e1.trans e2) hp (reps_rep q1 _) q⟩
def cutD (xs : List Dat) (lo hi : Option Int) : List Dat := (xs.drop (HT.sIx xs.length 0 lo)).take (HT.sIx xs.length xs.length hi - HT.sIx xs.length 0 lo)
theorem reps_cut {vs : List V} (r : Reps K B vs ds) (lo hi : Option Int) : Reps K B (cutV vs lo hi) (cutD ds lo hi) := by
  unfold cutV cutD
  rw [r.length]
  exact (r.drop _).take _
def EvO (K : PySem.W.Frag) (to : TO) (env : Env1) (S : List Dat) (o : Option Int) (S' : List Dat) : Prop :=
  ∀ B H as σ, Ok K B H as S → EnvR K B as σ env → ∀ Q : Option Int → Hp → Prop, (∀ B' H', Ok K B' H' as S' → Evo B H as B' H' → Q o H') → to σ H Q
theorem eo_none : EvO K tNoPart env S none S := fun B H as σ c g Q q => q B H c Evo.refl
theorem eo_some {k : Int} (h : Ev K te env S (.d (.int k)) S1) : EvO K (tPart te) env S (some k) S1 := fun B H as σ c g Q q => h B H as σ c g _ fun v B1 H1 c1 e1 r1 => by
  cases r1; exact ⟨k, rfl, q B1 H1 c1 e1⟩
theorem cutD_whole {lo hi : Option Int} (h : HT.sIx ds.length 0 lo = 0 ∧ HT.sIx ds.length ds.length hi = ds.length) : cutD ds lo hi = ds := by
  unfold cutD
  rw [h.1, h.2, List.drop_zero, Nat.sub_zero, List.take_length]
/-- t[lo:hi], a tuple -/
theorem ev_slT {tl th : TO} {lo hi : Option Int} (h : Ev K te env S (.d (.tup ds)) S1) (hl : EvO K tl env S1 lo S2) (hh : EvO K th env S2 hi S3) : Ev K (tSl (rSlA K) te tl th) env S (.d (.tup (cutD ds lo hi))) S3 := fun B H as σ c g Q q =>
  h B H as σ c g _ fun v B1 H1 c1 e1 r1 => hl B1 H1 as σ c1 (g.mono e1.ex) _ fun B2 H2 c2 e2 => hh B2 H2 as σ c2 (g.mono (e1.trans e2).ex) _ fun B3 H3 c3 e3 => by
    have r3 : Rep K B3 v (.tup ds) := Rep.mono (e2.trans e3).ex r1
    have e03 := (e1.trans e2).trans e3
    cases r3 with
    | tup h1 r1 =>
      refine ⟨_, _, rfl, Evl.ex_t c3.ex h1, fun hw => ?_, fun hw p hp => ?_⟩
      · rw [r1.length] at hw
        rw [cutD_whole hw] at q
        exact q _ B3 H3 c3 e03 (.tup h1 r1)
      · exact q _ (upd B3 p _) _ (c3.new hp) (e03.trans (Evo.new c3 hp)) (.tup (Evl.st_of upd_same) ((reps_cut r1 lo hi).mono (Evl.Ex.new (c3.Bnone hp))))
/-- xs[lo:hi], a list -/
theorem en_slL {tl th : TO} {lo hi : Option Int} (h : Ev K te env S x S1) (hl : EvO K tl env S1 lo S2) (hh : EvO K th env S2 hi S3) (hx : SeqL S3 x ds) : EvN K (tSl (rSlL K) te tl th) env S (cutD ds lo hi) S3 := fun B H as σ c g Q q =>
  h B H as σ c g _ fun v B1 H1 c1 e1 r1 => hl B1 H1 as σ c1 (g.mono e1.ex) _ fun B2 H2 c2 e2 => hh B2 H2 as σ c2 (g.mono (e1.trans e2).ex) _ fun B3 H3 c3 e3 => by
    obtain ⟨a1, xs, rfl, h1, q1⟩ := hx.read c3 (r1.mono (e2.trans e3).ex)
    exact ⟨a1, xs, rfl, Evl.sq_of h1, fun p hp => evn_new c c3 ((e1.trans e2).trans e3) hp (reps_cut q1 lo hi) q⟩

/-! ### what is walked -/
structure WalkD (K : PySem.W.Frag) (B : Hp) (J : It) (G : List Addr → List Dat → Prop) (ds : List Dat) : Prop where
  go : ∀ B2 H2 as2 S2 i, Ex B B2 → Ok K B2 H2 as2 S2 → G as2 S2 → i < ds.length → J.go i H2
  yld : ∀ B2 H2 as2 S2 i x H3, Ex B B2 → Ok K B2 H2 as2 S2 → G as2 S2 → i < ds.length → J.yld i H2 x H3 → ∃ B3 d, Ok K B3 H3 as2 S2 ∧ Evo B2 H2 as2 B3 H3 ∧ ds[i]? = some d ∧ Rep K B3 x d
  stop : ∀ B2 H2 as2 S2, Ex B B2 → Ok K B2 H2 as2 S2 → G as2 S2 → J.stop ds.length H2
def IterD (K : PySem.W.Frag) (wi : TI) (env : Env1) (S : List Dat) (G : List Addr → List Addr → List Dat → Prop) (ds : List Dat) (S1 : List Dat) : Prop :=
  ∀ B H as σ, Ok K B H as S → EnvR K B as σ env → ∀ R : It → Hp → Prop, (∀ J B1 H1, Ok K B1 H1 as S1 → Evo B H as B1 H1 → WalkD K B1 J (G as) ds → R J H1) → wi σ H R
/-- nothing is asked: what is walked is known -/
def G0 : List Addr → List Addr → List Dat → Prop := fun _ _ _ => True
/-- the k-th changed thing, left as it is while it is walked -/
def Gc (k : Nat) (ds : List Dat) : List Addr → List Addr → List Dat → Prop := fun as as2 S2 => as2[k]? = as[k]? ∧ S2[k]? = some (.lst ds)
theorem walk_known {a : Addr} {vs : List V} {k : Bool} (hq : Sq K k B a vs) (r : Reps K B vs ds) (G : List Addr → List Dat → Prop) : WalkD K B (ItS K k a) G ds where
  go := fun B2 H2 as2 S2 i e c _ hi => by
    obtain ⟨v, hv, _⟩ := r.get (List.getElem?_eq_getElem hi)
    cases k with
    | true => exact ⟨vs, v, Evl.ex_l c.ex (Evl.ex_l e hq), hv⟩
    | false => exact ⟨vs, v, Evl.ex_t c.ex (Evl.ex_t e hq), hv⟩
  yld := fun B2 H2 as2 S2 i x H3 e c _ hi y => by
    obtain ⟨v, hv, rv⟩ := r.get (List.getElem?_eq_getElem hi)
    cases k with
    | true =>
      obtain ⟨rfl, y⟩ := y
      have := y vs (Evl.ex_l c.ex (Evl.ex_l e hq))
      rw [hv] at this
      cases this
      exact ⟨B2, _, c, Evo.refl, List.getElem?_eq_getElem hi, rv.mono e⟩
    | false =>
      obtain ⟨rfl, y⟩ := y
      have := y vs (Evl.ex_t c.ex (Evl.ex_t e hq))
      rw [hv] at this
      cases this
      exact ⟨B2, _, c, Evo.refl, List.getElem?_eq_getElem hi, rv.mono e⟩
  stop := fun B2 H2 as2 S2 e c _ => by
    cases k with
    | true => exact ⟨vs, Evl.ex_l c.ex (Evl.ex_l e hq), by rw [r.length]; exact Nat.le_refl _⟩
    | false => exact ⟨vs, Evl.ex_t c.ex (Evl.ex_t e hq), by rw [r.length]; exact Nat.le_refl _⟩
theorem it_lst (h : Ev K te env S (.d (.lst ds)) S1) : IterD K (iSeq K te) env S G0 ds S1 := fun B H as σ c g R q => h B H as σ c g _ fun v B1 H1 c1 e1 r1 => by
  cases r1 with
  | lst h r => exact ⟨_, true, rfl, ⟨_, Evl.sq_of (c1.ex _ _ h)⟩, q _ B1 H1 c1 e1 (walk_known (k := true) (Evl.sq_of h) r _)⟩
theorem it_tup (h : Ev K te env S (.d (.tup ds)) S1) : IterD K (iSeq K te) env S G0 ds S1 := fun B H as σ c g R q => h B H as σ c g _ fun v B1 H1 c1 e1 r1 => by
  cases r1 with
  | tup h r => exact ⟨_, false, rfl, ⟨_, Evl.ex_t c1.ex h⟩, q _ B1 H1 c1 e1 (walk_known (k := false) h r _)⟩
theorem it_cell {k : Nat} (h : Ev K te env S (.c k) S1) (hk : S1[k]? = some (.lst ds)) : IterD K (iSeq K te) env S (Gc k ds) ds S1 := fun B H as σ c g R q => h B H as σ c g _ fun v B1 H1 c1 e1 r1 => by
  obtain ⟨a, ha, rfl⟩ := r1
  obtain ⟨_, q0⟩ := c1.cells k a _ ha hk
  obtain ⟨vs, hv, rv⟩ := q0.lst
  have rd : ∀ {B2 H2 as2 S2}, Ok K B2 H2 as2 S2 → Gc k ds as as2 S2 → ∃ ws, H2 a = some (.lst ws) ∧ Reps K B2 ws ds := fun {B2 H2 as2 S2} c2 g2 => by
    obtain ⟨g1, g2⟩ := g2
    obtain ⟨_, q0⟩ := c2.cells k a _ (g1.trans ha) g2
    obtain ⟨ws, hw, rw'⟩ := q0.lst
    exact ⟨ws, hw, rw'⟩
  refine ⟨a, true, rfl, ⟨vs, Evl.sq_of hv⟩, q _ B1 H1 c1 e1 ⟨fun B2 H2 as2 S2 i e c2 g2 hi => ?_, fun B2 H2 as2 S2 i x H3 e c2 g2 hi y => ?_, fun B2 H2 as2 S2 e c2 g2 => ?_⟩⟩
  · obtain ⟨ws, hw, rw'⟩ := rd c2 g2
    obtain ⟨v, hv, _⟩ := rw'.get (List.getElem?_eq_getElem hi)
    exact ⟨ws, v, Evl.sq_of hw, hv⟩
  · obtain ⟨ws, hw, rw'⟩ := rd c2 g2
    obtain ⟨v, hv, rv⟩ := rw'.get (List.getElem?_eq_getElem hi)
    obtain ⟨rfl, y⟩ := y
    have := y ws (Evl.sq_of hw)
    rw [hv] at this
    cases this
    exact ⟨B2, _, c2, Evo.refl, List.getElem?_eq_getElem hi, rv⟩
  · obtain ⟨ws, hw, rw'⟩ := rd c2 g2
    exact ⟨ws, Evl.sq_of hw, by rw [rw'.length]; exact Nat.le_refl _⟩
theorem it_script {ns : List Int} (h : Ev K te env S (.d (.scr ns)) S1) : IterD K (iSeq K te) env S G0 (ns.map Dat.int) S1 := fun B H as σ c g R q => h B H as σ c g _ fun v B1 H1 c1 e1 r1 => by
  cases r1 with
  | scr h =>
    have rr : ∀ ns : List Int, Reps K B1 (ns.map V.int) (ns.map Dat.int) := fun ns => by
      induction ns with
      | nil => exact .nil
      | cons n ns ih => exact .cons (.int n) ih
    exact ⟨_, true, rfl, ⟨_, Evl.ex_l c1.ex h⟩, q _ B1 H1 c1 e1 (walk_known (k := true) h (rr ns) _)⟩
/-- range(n), range(lo, hi) -/
def rng (lo : Int) (n : Nat) : List Dat := (List.range n).map fun i => Dat.int (lo + (i : Nat))
theorem rng_get {lo : Int} {n i : Nat} (h : i < n) : (rng lo n)[i]? = some (.int (lo + (i : Nat))) := by
  unfold rng
  rw [List.getElem?_map, List.getElem?_range h]
  rfl
theorem rng_len {lo : Int} {n : Nat} : (rng lo n).length = n := by unfold rng; rw [List.length_map, List.length_range]
theorem walk_rng {lo : Int} {n : Nat} {G : List Addr → List Dat → Prop} : WalkD K B (Itr lo n) G (rng lo n) where
  go := fun B2 H2 as2 S2 i _ _ _ hi => by rw [rng_len] at hi; exact hi
  yld := fun B2 H2 as2 S2 i x H3 _ c _ hi y => by
    rw [rng_len] at hi
    obtain ⟨rfl, rfl⟩ := y
    exact ⟨B2, _, c, Evo.refl, rng_get hi, .int _⟩
  stop := fun B2 H2 as2 S2 _ _ _ => by rw [rng_len]; exact Nat.le_refl _
theorem it_range1 {j : Int} (h : EvA K tA env S [.d (.int j)] S1) (hj : -(2 ^ 62) ≤ j ∧ j < 2 ^ 62) : IterD K (iRng1 tA) env S G0 (rng 0 j.toNat) S1 := fun B H as σ c g R q => h B H as σ c g _ fun vs B1 H1 c1 e1 r1 => by
  cases r1 with
  | cons r1 rr =>
    cases rr; cases r1
    exact ⟨j, rfl, hj.1, hj.2, q _ B1 H1 c1 e1 walk_rng⟩
theorem it_range2 {i j : Int} (h : EvA K tA env S [.d (.int i), .d (.int j)] S1) (hi : -(2 ^ 62) ≤ i ∧ i < 2 ^ 62) (hj : -(2 ^ 62) ≤ j ∧ j < 2 ^ 62) : IterD K (iRng2 tA) env S G0 (rng i (j - i).toNat) S1 := fun B H as σ c g R q => h B H as σ c g _ fun vs B1 H1 c1 e1 r1 => by
  cases r1 with
  | cons r1 rr =>
    cases rr with
    | cons r2 rr =>
      cases rr; cases r1; cases r2
      exact ⟨i, j, rfl, ⟨hi.1, hi.2, hj.1, hj.2⟩, q _ B1 H1 c1 e1 walk_rng⟩
/-- zip -/
def zipD (ds es : List Dat) : List Dat := List.zipWith (fun x y => Dat.tup [x, y]) ds es
theorem zipD_len : (zipD ds es).length = min ds.length es.length := by unfold zipD; rw [List.length_zipWith]
theorem zipD_get {i : Nat} {d e : Dat} (h1 : ds[i]? = some d) (h2 : es[i]? = some e) : (zipD ds es)[i]? = some (.tup [d, e]) := by
  unfold zipD
  rw [List.getElem?_zipWith, h1, h2]
/-- a sequence that stays: known data, or a changed thing that no one changes now -/
def GS (x : Sl) (ds : List Dat) : List Addr → List Addr → List Dat → Prop := match x with
  | .d _ => fun _ _ _ => True
  | .c k => fun as as2 S2 => as2[k]? = as[k]? ∧ S2[k]? = some (.lst ds)
theorem seq_stays {v : V} (c : Ok K B H as S) (hx : Seq S x ds) (r : RepS K B as v x) : ∃ a k, v = .ref a ∧ (∃ vs, Sq K k H a vs) ∧ ∀ B2 H2 as2 S2, Ex B B2 → Ok K B2 H2 as2 S2 → GS x ds as as2 S2 → ∃ ws, Sq K k H2 a ws ∧ Reps K B2 ws ds := by
  rcases hx with rfl | rfl | ⟨k, rfl, hk⟩
  · cases r with
    | lst h r => exact ⟨_, true, rfl, ⟨_, Evl.sq_of (c.ex _ _ h)⟩, fun B2 H2 as2 S2 e c2 _ => ⟨_, Evl.sq_of (c2.ex _ _ (e _ _ h)), r.mono e⟩⟩
  · cases r with
    | tup h r => exact ⟨_, false, rfl, ⟨_, Evl.ex_t c.ex h⟩, fun B2 H2 as2 S2 e c2 _ => ⟨_, Evl.ex_t c2.ex (Evl.ex_t e h), r.mono e⟩⟩
  · obtain ⟨a, ha, rfl⟩ := r
    obtain ⟨_, q0⟩ := c.cells k a _ ha hk
    obtain ⟨vs, hv, _⟩ := q0.lst
    refine ⟨a, true, rfl, ⟨vs, Evl.sq_of hv⟩, fun B2 H2 as2 S2 e c2 g2 => ?_⟩
    obtain ⟨g1, g2⟩ := g2
    obtain ⟨_, q0⟩ := c2.cells k a _ (g1.trans ha) g2
    obtain ⟨ws, hw, rw'⟩ := q0.lst
    exact ⟨ws, Evl.sq_of hw, rw'⟩
theorem sq_inj {k : Bool} {a : Addr} {xs ys : List V} (c : Ok K B H as S) (h1 : Sq K k H a xs) (h2 : Sq K k H a ys) (hk : ∀ o : Obj, K.lookup a = some o → False ∨ True) : True := trivial
theorem it_zip (h : EvA K tA env S [x, y] S1) (hx : Seq S1 x ds) (hy : Seq S1 y es) : IterD K (iZipG K tA) env S (fun as as2 S2 => GS x ds as as2 S2 ∧ GS y es as as2 S2) (zipD ds es) S1 := fun B H as σ c g R q => h B H as σ c g _ fun vs B1 H1 c1 e1 r1 => by
  cases r1 with
  | cons r1 rr =>
    cases rr with
    | cons r2 rr =>
      cases rr
      obtain ⟨a1, k1, rfl, ⟨w1, q1⟩, st1⟩ := seq_stays c1 hx r1
      obtain ⟨a2, k2, rfl, ⟨w2, q2⟩, st2⟩ := seq_stays c1 hy r2
      refine ⟨a1, a2, k1, k2, w1, w2, rfl, q1, q2, q _ B1 H1 c1 e1 ⟨fun B2 H2 as2 S2 i e c2 g2 hi => ?_, fun B2 H2 as2 S2 i x H3 e c2 g2 hi y => ?_, fun B2 H2 as2 S2 e c2 g2 => ?_⟩⟩
      · obtain ⟨u1, p1, rp1⟩ := st1 B2 H2 as2 S2 e c2 g2.1
        obtain ⟨u2, p2, rp2⟩ := st2 B2 H2 as2 S2 e c2 g2.2
        rw [zipD_len] at hi
        obtain ⟨v1, hv1, _⟩ := rp1.get (List.getElem?_eq_getElem (show i < ds.length by omega))
        obtain ⟨v2, hv2, _⟩ := rp2.get (List.getElem?_eq_getElem (show i < es.length by omega))
        exact ⟨u1, u2, v1, v2, p1, p2, hv1, hv2⟩
      · obtain ⟨u1, p1, rp1⟩ := st1 B2 H2 as2 S2 e c2 g2.1
        obtain ⟨u2, p2, rp2⟩ := st2 B2 H2 as2 S2 e c2 g2.2
        obtain ⟨T, v1, v2, rfl, hT, rfl, y1, y2⟩ := y
        obtain ⟨d1, hd1, r1⟩ := rp1.get' (y1 u1 p1)
        obtain ⟨d2, hd2, r2⟩ := rp2.get' (y2 u2 p2)
        have hB : Ex B2 (upd B2 T (.tup [v1, v2])) := Evl.Ex.new (c2.Bnone hT)
        exact ⟨upd B2 T (.tup [v1, v2]), .tup [d1, d2], c2.new hT, Evo.new c2 hT, zipD_get hd1 hd2, .tup (Evl.st_of upd_same) (.cons (r1.mono hB) (.cons (r2.mono hB) .nil))⟩
      · obtain ⟨u1, p1, rp1⟩ := st1 B2 H2 as2 S2 e c2 g2.1
        obtain ⟨u2, p2, rp2⟩ := st2 B2 H2 as2 S2 e c2 g2.2
        refine ⟨u1, u2, p1, p2, ?_, ?_, ?_⟩ <;> rw [zipD_len] <;> have := rp1.length <;> have := rp2.length <;> omega

/-! ### targets -/
def TgD (K : PySem.W.Frag) (g : TG) (d : Dat) (is : List Nat) (f : Env1 → Env1) : Prop :=
  ∀ B H as S σ env v, Ok K B H as S → EnvR K B as σ env → Rep K B v d → ∀ Q : L2.St → Hp → Prop, (∀ σ', EnvR K B as σ' (f env) → (∀ vs : List Nat, (∀ i ∈ is, i ∈ vs) → L2.wipe σ' vs = L2.wipe σ vs) → Q σ' H) → g v σ H Q
theorem set_comm_none {σ : L2.St} {i j : Nat} {x : Option V} (h : i ≠ j) : (σ.set i x).set j none = (σ.set j none).set i x := (List.set_comm _ _ h)
theorem wipe_set {σ : L2.St} {i : Nat} {x : Option V} : ∀ {vs : List Nat}, i ∈ vs → L2.wipe (σ.set i x) vs = L2.wipe σ vs
  | [], h => by cases h
  | v :: vs, h => by
    unfold L2.wipe
    by_cases hi : i ∈ vs
    · rw [wipe_set hi]
    · have hv : i = v := by
        rcases List.mem_cons.mp h with h | h
        · exact h
        · exact absurd h hi
      subst hv
      have key : ∀ ws : List Nat, i ∉ ws → L2.wipe (σ.set i x) ws = (L2.wipe σ ws).set i x := by
        intro ws
        induction ws with
        | nil => intro _; rfl
        | cons w ws ih =>
          intro hn
          unfold L2.wipe
          rw [ih (fun z => hn (List.mem_cons_of_mem _ z))]
          exact List.set_comm _ _ (fun z => hn (by rw [z]; exact List.mem_cons_self))
      rw [key vs hi, List.set_set]
theorem tg_name {j : Nat} : TgD K (gName j) d [j] (fun env => env.set j (some (.d d))) := fun B H as S σ env v c g r Q q =>
  q _ (EnvR.set (s := .d d) j g r) fun vs h => wipe_set (h j (by simp))
theorem tg_pair {j k : Nat} : TgD K (gTup K 2 (gCons (gName j) (gCons (gName k) gNil))) (.tup [d, e]) [j, k] (fun env => (env.set j (some (.d d))).set k (some (.d e))) := fun B H as S σ env v c g r Q q => by
  cases r with
  | tup h r =>
    cases r with
    | cons r1 r =>
      cases r with
      | cons r2 r =>
        cases r
        refine ⟨_, _, rfl, Evl.ex_t c.ex h, rfl, _, _, rfl, _, _, rfl, rfl, q _ (EnvR.set (s := .d e) k (EnvR.set (s := .d d) j g r1) r2) fun vs hv => ?_⟩
        rw [wipe_set (hv k (by simp)), wipe_set (hv j (by simp))]
theorem tg_three {j k l : Nat} {f : Dat} : TgD K (gTup K 3 (gCons (gName j) (gCons (gName k) (gCons (gName l) gNil)))) (.tup [d, e, f]) [j, k, l] (fun env => ((env.set j (some (.d d))).set k (some (.d e))).set l (some (.d f))) := fun B H as S σ env v c g r Q q => by
  cases r with
  | tup h r =>
    cases r with
    | cons r1 r =>
      cases r with
      | cons r2 r =>
        cases r with
        | cons r3 r =>
          cases r
          refine ⟨_, _, rfl, Evl.ex_t c.ex h, rfl, _, _, rfl, _, _, rfl, _, _, rfl, rfl, q _ (EnvR.set (s := .d f) l (EnvR.set (s := .d e) k (EnvR.set (s := .d d) j g r1) r2) r3) fun vs hv => ?_⟩
          rw [wipe_set (hv l (by simp)), wipe_set (hv k (by simp)), wipe_set (hv j (by simp))]
/-- (a, b) = e -/
theorem sp_asg {g : TG} {is : List Nat} {f : Env1 → Env1} (h : Ev K te env S (.d d) S1) (hg : TgD K g d is f) (k : SP K n u (f env) S1 P) : SP K n (tSeq (tAsg te g) u) env S P := fun B0 H0 as0 Bk B H as σ hl f0 c g0 D m =>
  h B H as σ c g0 _ fun v B1 H1 c1 e1 r1 => hg B1 H1 as S1 σ env v c1 (g0.mono e1.ex) r1 _ fun σ' g' _ => k B0 H0 as0 Bk B1 H1 as σ' hl (f0.step e1) c1 g' D m

/-! ### for -/
/-- env may know less -/
theorem sp_for {wi : TI} {g : TG} {tb : TS} {G : List Addr → List Addr → List Dat → Prop} (hw : IterD K wi env S G ds S1) (Inv : Nat → Env1 → List Dat → Prop) (h0 : Inv 0 env S1)
    (hG : ∀ i env' S' as as2, Inv i env' S' → as.length = S1.length → as2.length = S'.length → as2.take n = as.take n → G as as2 S')
    (hs : ∀ i d env' S', ds[i]? = some d → Inv i env' S' → ∃ is f, TgD K g d is f ∧ SP K n tb (f env') S' { P with nx := Inv (i + 1), ct := Inv (i + 1), bk := P.nx })
    (hd : ∀ env' S', Inv ds.length env' S' → P.nx env' S') : SP K n (tFor wi g tb) env S P := fun B0 H0 as0 Bk B H as σ hl f0 c g0 D m =>
  hw B H as σ c g0 _ fun J B1 H1 c1 e1 w => by
    subst hl
    have f1 := f0.step e1
    refine ⟨fun i mm σ' H' => mm = ds.length - i ∧ i ≤ ds.length ∧ ∃ env' S' B' as', Fr B0 H0 as0 B1 B' H' as' ∧ Ok K B' H' as' S' ∧ EnvR K B' as' σ' env' ∧ Inv i env' S', ⟨_, rfl, Nat.zero_le _, env, S1, B1, as, ⟨Evl.Ex.refl _, f1.base, f1.evo, f1.loc⟩, c1, g0.mono e1.ex, h0⟩, ?_⟩
    rintro i mm σ' H' ⟨rfl, hi, env', S', B', as', f', c', g', hinv⟩
    have ex' := f'.kn
    have hg := hG i env' S' as as' hinv c1.len c'.len (by rw [f'.base, f1.base])
    by_cases hlt : i < ds.length
    · refine .inr ⟨w.go B' H' as' S' i ex' c' hg hlt, fun σ2 H2 => ∃ env2 S2 B2 as2, Fr B0 H0 as0 B1 B2 H2 as2 ∧ Ok K B2 H2 as2 S2 ∧ EnvR K B2 as2 σ2 env2 ∧ Inv (i + 1) env2 S2, fun σ2 H2 hN => ⟨ds.length - (i + 1), by omega, rfl, hlt, hN⟩, fun x H2 hy => ?_⟩
      obtain ⟨B2, d, c2, e2, hd2, r2⟩ := w.yld B' H' as' S' i x H2 ex' c' hg hlt hy
      obtain ⟨is, f, tg, hbody⟩ := hs i d env' S' hd2 hinv
      refine tg B2 H2 as' S' σ' env' x c2 (g'.mono e2.ex) r2 _ fun σ3 g3 _ => ?_
      have f2 := f'.step e2
      refine hbody B0 H0 as0 B1 B2 H2 as' σ3 rfl f2 c2 g3 _ ⟨?_, m.rt, ?_, ?_⟩
      · exact fun env4 S4 B4 H4 as4 σ4 f4 c4 g4 p4 => ⟨env4, S4, B4, as4, f4, c4, g4, p4⟩
      · exact fun env4 S4 B4 H4 as4 σ4 f4 c4 g4 p4 => m.nx env4 S4 B4 H4 as4 σ4 ⟨f1.kn.trans f4.kn, f4.base, f4.evo, f4.loc⟩ c4 g4 p4
      · exact fun env4 S4 B4 H4 as4 σ4 f4 c4 g4 p4 => ⟨env4, S4, B4, as4, f4, c4, g4, p4⟩
    · have e : i = ds.length := by omega
      subst e
      exact .inl ⟨w.stop B' H' as' S' ex' c' hg, m.nx env' S' B' H' as' σ' ⟨f1.kn.trans f'.kn, f'.base, f'.evo, f'.loc⟩ c' g' (hd env' S' hinv)⟩
end
end RW

set_option Elab.async false
set_option linter.all false
set_option maxRecDepth 100000
set_option maxHeartbeats 4000000
namespace RW
open PySem PySem.Spec PyProof.Rows L2
open Evl (Ex)
section
variable {K : PySem.W.Frag} {n : Nat} {te ta tb tc to ti : TE} {tt tu : TT} {tA tR : TA} {env env' : Env1} {S S1 S2 S3 : List Dat} {x y z : Sl} {d e : Dat} {ds es : List Dat} {r r' : R2} {P P' : Post} {t u : TS}
  {B B0 B1 B' H H0 H1 H' : Hp} {as as0 as1 : List Addr} {D : Ends} {σ : L2.St} {i : Nat} {a b c : Bool}
/-- a list that nothing knows, and what it holds -/
structure Acc (K : PySem.W.Frag) (p : Addr) (B H : Hp) (as : List Addr) (acc : List Dat) : Prop where
  nb : B p = none
  na : p ∉ as
  at_ : ∃ vs, H p = some (.lst vs) ∧ Reps K B vs acc
theorem Acc.step {p : Addr} {acc : List Dat} (h : Acc K p B H as acc) (e : Evo B H as B1 H1) : Acc K p B1 H1 as acc := by
  obtain ⟨vs, h1, h2⟩ := h.at_
  exact ⟨(e.gr p (by rw [h1]; simp)).trans h.nb, h.na, vs, e.fr p _ h.na h1, h2.mono e.ex⟩
/-- a list that nothing knows may change -/
theorem Ok.other {p : Addr} {o : HO} (c : Ok K B H as S) (hb : B p = none) (ha : p ∉ as) : Ok K B (upd H p o) as S where
  ex := fun a u q => by
    rw [upd_ne (by rintro rfl; rw [hb] at q; cases q)]
    exact c.ex a u q
  len := c.len
  cells := fun k a s h1 h2 => by
    obtain ⟨q1, q2⟩ := c.cells k a s h1 h2
    have ne : a ≠ p := by rintro rfl; exact ha (List.mem_of_getElem? h1)
    refine ⟨q1, ?_⟩
    obtain ⟨o, q3, q4⟩ := q2
    exact ⟨o, by rw [upd_ne ne]; exact q3, q4⟩
  nd := c.nd
theorem Evo.other {p : Addr} {o : HO} (e : Evo B H as B1 H1) (hp : H p = none) : Evo B H as B1 (upd H1 p o) :=
  ⟨e.ex, fun a u n q => by rw [upd_ne (by rintro rfl; rw [hp] at q; cases q)]; exact e.fr a u n q, e.gr, fun a q => by rw [upd_ne (by rintro rfl; exact q hp)]; exact e.pr a q⟩
theorem Acc.snoc {p : Addr} {acc : List Dat} {v : V} (h : Acc K p B H as acc) (r : Rep K B v d) : ∃ vs, H p = some (.lst vs) ∧ vs.length = acc.length ∧ Acc K p B (upd H p (.lst (vs ++ [v]))) as (acc ++ [d]) := by
  obtain ⟨vs, h1, h2⟩ := h.at_
  exact ⟨vs, h1, h2.length, h.nb, h.na, _, upd_same, h2.append (.cons r .nil)⟩
/-- [e for target in iter if test] -/
theorem en_lc {wi : TI} {g : TG} {vs : List Nat} {G : List Addr → List Addr → List Dat → Prop} (hw : IterD K wi env S G ds S1) (hz : ds.length ≤ sizeLine) (Inv : Nat → List Dat → List Dat → Prop) (h0 : Inv 0 [] S1)
    (hG : ∀ i acc S', Inv i acc S' → ∀ as : List Addr, as.length = S1.length → as.length = S'.length → G as as S')
    (hs : ∀ i d acc S', ds[i]? = some d → Inv i acc S' → ∃ is f b S2, TgD K g d is f ∧ (∀ i ∈ is, i ∈ vs) ∧ EvT K tt (f (wipeE env vs)) S' b S2 ∧
      (b = true → ∃ r S3, Ev K te (f (wipeE env vs)) S2 (.d r) S3 ∧ Inv (i + 1) (acc ++ [r]) S3) ∧ (b = false → Inv (i + 1) acc S2))
    {S' : List Dat} (hd : ∀ acc S2, Inv ds.length acc S2 → acc = es ∧ S2 = S') : EvN K (tLc wi g tt te vs) env S es S' := fun B H as σ c g0 Q q =>
  hw B H as σ c g0 _ fun J B1 H1 c1 e1 w Dl hDl => by
    have hD0 : H Dl = none := e1.old hDl
    have c1' : Ok K B1 (upd H1 Dl (.lst [])) as S1 := c1.other (c1.Bnone hDl) (c1.fresh hDl)
    have e1' : Evo B H as B1 (upd H1 Dl (.lst [])) := e1.other hD0
    refine ⟨fun i mm H' => mm = ds.length - i ∧ i ≤ ds.length ∧ ∃ S' B' acc, Ok K B' H' as S' ∧ Evo B H as B' H' ∧ Ex B1 B' ∧ Acc K Dl B' H' as acc ∧ acc.length ≤ i ∧ Inv i acc S', ⟨_, rfl, Nat.zero_le _, S1, B1, [], c1', e1', Evl.Ex.refl _, ⟨c1.Bnone hDl, c1.fresh hDl, [], upd_same, .nil⟩, Nat.zero_le _, h0⟩, ?_⟩
    rintro i mm H' ⟨rfl, hi, S', B', acc, c', e', ex', hacc, hal, hinv⟩
    have hg := hG i acc S' hinv as c1.len c'.len
    by_cases hlt : i < ds.length
    · refine .inr ⟨w.go B' H' as S' i ex' c' hg hlt, fun H2 => ∃ S2 B2 acc2, Ok K B2 H2 as S2 ∧ Evo B H as B2 H2 ∧ Ex B1 B2 ∧ Acc K Dl B2 H2 as acc2 ∧ acc2.length ≤ i + 1 ∧ Inv (i + 1) acc2 S2, fun H2 hN => ⟨ds.length - (i + 1), by omega, rfl, hlt, hN⟩, fun x H2 hy => ?_⟩
      obtain ⟨B2, d, c2, e2, hd2, r2⟩ := w.yld B' H' as S' i x H2 ex' c' hg hlt hy
      obtain ⟨is, f, b, S2, tg, his, htt, ht, hf⟩ := hs i d acc S' hd2 hinv
      have gw : EnvR K B2 as (L2.wipe σ vs) (wipeE env vs) := ((g0.mono e1.ex).wipe vs).mono (ex'.trans e2.ex)
      refine tg B2 H2 as S' _ _ x c2 gw r2 _ fun σ3 g3 hw3 => ⟨?_, ?_⟩
      · rw [hw3 vs his]
        have : ∀ ws : List Nat, (∀ j ∈ ws, j ∈ vs) → L2.wipe (L2.wipe σ vs) ws = L2.wipe σ vs := by
          intro ws
          induction ws with
          | nil => intro _; rfl
          | cons j ws ih =>
            intro h
            show (L2.wipe (L2.wipe σ vs) ws).set j none = L2.wipe σ vs
            have e0 : L2.wipe (L2.wipe σ vs) ws = L2.wipe σ vs := ih fun k hk => h k (List.mem_cons_of_mem _ hk)
            rw [e0]
            have hj := h j List.mem_cons_self
            have key : ∀ (us : List Nat), j ∈ us → (L2.wipe σ us).set j none = L2.wipe σ us := by
              intro us
              induction us with
              | nil => intro h; cases h
              | cons k us ih =>
                intro hk
                unfold L2.wipe
                by_cases hj : j = k
                · subst hj; rw [List.set_set]
                · rw [List.set_comm _ _ (fun z => hj z.symm)]
                  rw [ih ((List.mem_cons.mp hk).resolve_left hj)]
            exact key vs hj
        exact this vs fun _ h => h
      · refine htt B2 H2 as σ3 c2 g3 _ fun B3 H3 c3 e3 => ?_
        have ac3 := (hacc.step e2).step e3
        have e03 := (e'.trans e2).trans e3
        have ex3 := (ex'.trans e2.ex).trans e3.ex
        cases b with
        | false => exact ⟨S2, B3, acc, c3, e03, ex3, ac3, by omega, hf rfl⟩
        | true =>
          obtain ⟨r, S3, hev, hinv'⟩ := ht rfl
          show te σ3 H3 _
          refine hev B3 H3 as σ3 c3 (g3.mono e3.ex) _ fun v B4 H4 c4 e4 r4 => ?_
          have ac4 := ac3.step e4
          obtain ⟨ws, hw4, hl4, ac5⟩ := ac4.snoc r4
          refine ⟨ws, hw4, by rw [hl4]; omega, S3, B4, acc ++ [r], c4.other ac4.nb ac4.na, (e03.trans e4).other hD0, ex3.trans e4.ex, ac5, by rw [List.length_append]; simp; omega, hinv'⟩
    · have e : i = ds.length := by omega
      subst e
      obtain ⟨e1, e2⟩ := hd acc S' hinv
      subst e1 e2
      obtain ⟨ws, hw4, hr4⟩ := hacc.at_
      exact .inl ⟨w.stop B' H' as S' ex' c' hg, q Dl B' H' ws c' e' hD0 hacc.nb hw4 hr4⟩
/-- without a test, each element by itself -/
theorem en_map {wi : TI} {g : TG} {vs : List Nat} {G : List Addr → List Addr → List Dat → Prop} {is : List Nat} (hw : IterD K wi env S G ds S1) (hz : ds.length ≤ sizeLine)
    (hG : ∀ as : List Addr, as.length = S1.length → G as as S1) (his : ∀ i ∈ is, i ∈ vs) (f : Dat → Env1 → Env1) (F : Dat → Dat)
    (hs : ∀ (i : Nat) (d : Dat), ds[i]? = some d → TgD K g d is (f d) ∧ Ev K te (f d (wipeE env vs)) S1 (.d (F d)) S1) : EvN K (tLc wi g tYes te vs) env S (ds.map F) S1 := by
  refine en_lc (es := ds.map F) (S' := S1) hw hz (fun i acc S' => acc = (ds.take i).map F ∧ S' = S1) ⟨by simp, rfl⟩ (fun i acc S' h as l1 l2 => by rw [h.2]; exact hG as l1) (fun i d acc S' hd h => ?_) (fun acc S2 h => ?_)
  · obtain ⟨rfl, rfl⟩ := h
    obtain ⟨tg, hev⟩ := hs i d hd
    refine ⟨is, f d, true, S', tg, his, et_yes, fun _ => ⟨_, _, hev, ?_, rfl⟩, fun h => by cases h⟩
    have hl := (List.getElem?_eq_some_iff.mp hd).1
    have e : ds[i] = d := (List.getElem?_eq_some_iff.mp hd).2
    rw [List.take_succ_eq_append_getElem hl, e, List.map_append]
    rfl
  · obtain ⟨rfl, rfl⟩ := h
    exact ⟨by rw [List.take_length], rfl⟩
/-- with a test -/
theorem en_filter {wi : TI} {g : TG} {vs : List Nat} {G : List Addr → List Addr → List Dat → Prop} {is : List Nat} (hw : IterD K wi env S G ds S1) (hz : ds.length ≤ sizeLine)
    (hG : ∀ as : List Addr, as.length = S1.length → G as as S1) (his : ∀ i ∈ is, i ∈ vs) (f : Dat → Env1 → Env1) (F : Dat → Dat) (T : Dat → Bool)
    (hs : ∀ (i : Nat) (d : Dat), ds[i]? = some d → TgD K g d is (f d) ∧ EvT K tt (f d (wipeE env vs)) S1 (T d) S1 ∧ (T d = true → Ev K te (f d (wipeE env vs)) S1 (.d (F d)) S1)) : EvN K (tLc wi g tt te vs) env S ((ds.filter T).map F) S1 := by
  refine en_lc (es := (ds.filter T).map F) (S' := S1) hw hz (fun i acc S' => acc = ((ds.take i).filter T).map F ∧ S' = S1) ⟨by simp, rfl⟩ (fun i acc S' h as l1 l2 => by rw [h.2]; exact hG as l1) (fun i d acc S' hd h => ?_) (fun acc S2 h => ?_)
  · obtain ⟨rfl, rfl⟩ := h
    obtain ⟨tg, htt, hev⟩ := hs i d hd
    have hl := (List.getElem?_eq_some_iff.mp hd).1
    have e : ds[i] = d := (List.getElem?_eq_some_iff.mp hd).2
    refine ⟨is, f d, T d, S', tg, his, htt, fun h => ⟨_, _, hev h, ?_, rfl⟩, fun h => ⟨?_, rfl⟩⟩
    · rw [List.take_succ_eq_append_getElem hl, e, List.filter_append, List.map_append]
      simp [h]
    · rw [List.take_succ_eq_append_getElem hl, e, List.filter_append, List.map_append]
      simp [h]
  · obtain ⟨rfl, rfl⟩ := h
    exact ⟨by rw [List.take_length], rfl⟩
end
end RW

set_option Elab.async false
set_option linter.all false
set_option maxRecDepth 100000
set_option maxHeartbeats 4000000
namespace RW
open PySem PySem.Spec PyProof.Rows L2
open Evl (Ex)
section
variable {K : PySem.W.Frag} {n : Nat} {te ta tb tc to ti : TE} {tt tu : TT} {tA tR : TA} {env env' : Env1} {S S1 S2 S3 : List Dat} {x y z : Sl} {d e : Dat} {ds es : List Dat} {r r' : R2} {P P' : Post} {t u : TS}
  {B B0 B1 B' H H0 H1 H' : Hp} {as as0 as1 : List Addr} {D : Ends} {σ : L2.St} {i : Nat} {a b c : Bool}
theorem wipe_none {j : Nat} : ∀ {us : List Nat}, j ∈ us → (L2.wipe σ us).set j none = L2.wipe σ us
  | [], h => by cases h
  | k :: us, hk => by
    show ((L2.wipe σ us).set k none).set j none = (L2.wipe σ us).set k none
    by_cases hj : j = k
    · subst hj; rw [List.set_set]
    · rw [List.set_comm _ _ (fun z => hj z.symm), wipe_none ((List.mem_cons.mp hk).resolve_left hj)]
theorem wipe_wipe {vs : List Nat} : ∀ {ws : List Nat}, (∀ j ∈ ws, j ∈ vs) → L2.wipe (L2.wipe σ vs) ws = L2.wipe σ vs
  | [], _ => rfl
  | j :: ws, h => by
    show (L2.wipe (L2.wipe σ vs) ws).set j none = L2.wipe σ vs
    rw [wipe_wipe fun k hk => h k (List.mem_cons_of_mem _ hk), wipe_none (h j List.mem_cons_self)]
theorem flat_take {α β : Type} (f : α → List β) {l : List α} {i : Nat} {x : α} (h : l[i]? = some x) : (l.take (i + 1)).flatMap f = (l.take i).flatMap f ++ f x := by
  obtain ⟨hl, e⟩ := List.getElem?_eq_some_iff.mp h
  rw [List.take_succ_eq_append_getElem hl, e, List.flatMap_append]
  simp
theorem flat_le {α β : Type} (f : α → List β) {l : List α} {i : Nat} {x : α} (h : l[i]? = some x) : ((l.take i).flatMap f).length + (f x).length ≤ (l.flatMap f).length := by
  have h1 : (l.take (i + 1)).flatMap f ++ (l.drop (i + 1)).flatMap f = l.flatMap f := by
    rw [← List.flatMap_append, List.take_append_drop]
  rw [← h1, flat_take f h, List.length_append, List.length_append]
  omega
theorem map_take {α β : Type} (f : α → β) {l : List α} {i : Nat} {x : α} (h : l[i]? = some x) : (l.take (i + 1)).map f = (l.take i).map f ++ [f x] := by
  obtain ⟨hl, e⟩ := List.getElem?_eq_some_iff.mp h
  rw [List.take_succ_eq_append_getElem hl, e, List.map_append]
  rfl
/-- [e for x in xs for y in ..] -/
theorem en_flat {wi wi1 : TI} {g g1 : TG} {vs vs1 : List Nat} {G G1 : List Addr → List Addr → List Dat → Prop} {is is1 : List Nat} (hw : IterD K wi env S G ds S1) (inn : Dat → List Dat) (F : Dat → Dat → Dat)
    (hz : (ds.flatMap fun d => (inn d).map (F d)).length ≤ sizeLine) (hG : ∀ as : List Addr, as.length = S1.length → G as as S1) (hG1 : ∀ as : List Addr, as.length = S1.length → G1 as as S1)
    (his : ∀ i ∈ is, i ∈ vs) (his1 : ∀ i ∈ is1, i ∈ vs1) (hv1 : ∀ i ∈ vs1, i ∈ vs) (f : Dat → Env1 → Env1) (f1 : Dat → Dat → Env1 → Env1)
    (hs : ∀ (i : Nat) (d : Dat), ds[i]? = some d → TgD K g d is (f d) ∧ IterD K wi1 (f d (wipeE env vs)) S1 G1 (inn d) S1 ∧ ∀ (j : Nat) (e : Dat), (inn d)[j]? = some e →
      TgD K g1 e is1 (f1 d e) ∧ Ev K te (f1 d e (wipeE (f d (wipeE env vs)) vs1)) S1 (.d (F d e)) S1) :
    EvN K (tLc2 wi g tYes wi1 g1 tYes te vs vs1) env S (ds.flatMap fun d => (inn d).map (F d)) S1 := fun B H as σ c g0 Q q =>
  hw B H as σ c g0 _ fun J B1 H1 c1 e1 w Dl hDl => by
    have hD0 : H Dl = none := e1.old hDl
    have c1' : Ok K B1 (upd H1 Dl (.lst [])) as S1 := c1.other (c1.Bnone hDl) (c1.fresh hDl)
    have e1' : Evo B H as B1 (upd H1 Dl (.lst [])) := e1.other hD0
    have hg := hG as c1.len
    have hg1 := hG1 as c1.len
    refine ⟨fun i mm H' => mm = ds.length - i ∧ i ≤ ds.length ∧ ∃ B', Ok K B' H' as S1 ∧ Evo B H as B' H' ∧ Ex B1 B' ∧ Acc K Dl B' H' as ((ds.take i).flatMap fun d => (inn d).map (F d)), ⟨_, rfl, Nat.zero_le _, B1, c1', e1', Evl.Ex.refl _, ⟨c1.Bnone hDl, c1.fresh hDl, [], upd_same, .nil⟩⟩, ?_⟩
    rintro i mm H' ⟨rfl, hi, B', c', e', ex', hacc⟩
    by_cases hlt : i < ds.length
    · refine .inr ⟨w.go B' H' as S1 i ex' c' hg hlt, fun H2 => ∃ B2, Ok K B2 H2 as S1 ∧ Evo B H as B2 H2 ∧ Ex B1 B2 ∧ Acc K Dl B2 H2 as ((ds.take (i + 1)).flatMap fun d => (inn d).map (F d)), fun H2 hN => ⟨ds.length - (i + 1), by omega, rfl, hlt, hN⟩, fun x H2 hy => ?_⟩
      obtain ⟨B2, d, c2, e2, hd2, r2⟩ := w.yld B' H' as S1 i x H2 ex' c' hg hlt hy
      obtain ⟨tg, hw1, hin⟩ := hs i d hd2
      have gw : EnvR K B2 as (L2.wipe σ vs) (wipeE env vs) := ((g0.mono e1.ex).wipe vs).mono (ex'.trans e2.ex)
      refine tg B2 H2 as S1 _ _ x c2 gw r2 _ fun σ3 g3 hw3 => ⟨?_, ?_⟩
      · rw [hw3 vs his, wipe_wipe fun _ h => h]
      · show wi1 σ3 H2 _
        refine hw1 B2 H2 as σ3 c2 g3 _ fun J1 B3 H3 c3 e3 w1 => ?_
        have ac3 := (hacc.step e2).step e3
        have e03 := (e'.trans e2).trans e3
        have ex3 := (ex'.trans e2.ex).trans e3.ex
        refine ⟨fun j kk H5 => kk = (inn d).length - j ∧ j ≤ (inn d).length ∧ ∃ B5, Ok K B5 H5 as S1 ∧ Evo B H as B5 H5 ∧ Ex B3 B5 ∧ Acc K Dl B5 H5 as (((ds.take i).flatMap fun d => (inn d).map (F d)) ++ ((inn d).take j).map (F d)),
          ⟨_, rfl, Nat.zero_le _, B3, c3, e03, Evl.Ex.refl _, by simpa using ac3⟩, ?_⟩
        rintro j kk H5 ⟨rfl, hj, B5, c5, e5, ex5, ac5⟩
        by_cases hlj : j < (inn d).length
        · refine .inr ⟨w1.go B5 H5 as S1 j ex5 c5 hg1 hlj, fun H6 => ∃ B6, Ok K B6 H6 as S1 ∧ Evo B H as B6 H6 ∧ Ex B3 B6 ∧ Acc K Dl B6 H6 as (((ds.take i).flatMap fun d => (inn d).map (F d)) ++ ((inn d).take (j + 1)).map (F d)), fun H6 hN => ⟨(inn d).length - (j + 1), by omega, rfl, hlj, hN⟩, fun x6 H6 hy6 => ?_⟩
          obtain ⟨B6, e6, c6, ev6, he6, r6⟩ := w1.yld B5 H5 as S1 j x6 H6 ex5 c5 hg1 hlj hy6
          obtain ⟨tg1, hev⟩ := hin j e6 he6
          have gw1 : EnvR K B6 as (L2.wipe σ3 vs1) (wipeE (f d (wipeE env vs)) vs1) := (((g3.mono e3.ex).mono ex5).wipe vs1).mono ev6.ex
          refine tg1 B6 H6 as S1 _ _ x6 c6 gw1 r6 _ fun σ7 g7 hw7 => ⟨?_, ?_⟩
          · rw [hw7 vs1 his1, wipe_wipe fun _ h => h]
          · show te σ7 H6 _
            refine hev B6 H6 as σ7 c6 g7 _ fun v B7 H7 c7 e7 r7 => ?_
            have ac7 := (ac5.step ev6).step e7
            obtain ⟨ws, hw8, hl8, ac8⟩ := ac7.snoc r7
            refine ⟨ws, hw8, ?_, B7, c7.other ac7.nb ac7.na, ((e5.trans ev6).trans e7).other hD0, (ex5.trans ev6.ex).trans e7.ex, ?_⟩
            · have hb := flat_le (fun d => (inn d).map (F d)) hd2
              rw [hl8, List.length_append, List.length_map, List.length_take]
              rw [List.length_map] at hb
              omega
            · rw [map_take (F d) he6, ← List.append_assoc]
              exact ac8
        · have ej : j = (inn d).length := by omega
          subst ej
          refine .inl ⟨w1.stop B5 H5 as S1 ex5 c5 hg1, B5, c5, e5, ex3.trans ex5, ?_⟩
          rw [flat_take (fun d => (inn d).map (F d)) hd2]
          rw [List.take_length] at ac5
          exact ac5
    · have e : i = ds.length := by omega
      subst e
      rw [List.take_length] at hacc
      obtain ⟨ws, hw4, hr4⟩ := hacc.at_
      exact .inl ⟨w.stop B' H' as S1 ex' c' hg, q Dl B' H' ws c' e' hD0 hacc.nb hw4 hr4⟩
end
end RW

set_option Elab.async false
set_option linter.all false
set_option maxRecDepth 100000
set_option maxHeartbeats 4000000
namespace RW
open PySem PySem.Spec PyProof.Rows L2
open Evl (Ex)
section
variable {K : PySem.W.Frag} {n : Nat} {te ta tb tc to ti tv : TE} {tt tu : TT} {tA tR : TA} {env env' : Env1} {S S1 S2 S3 : List Dat} {x y z : Sl} {d e : Dat} {ds es : List Dat} {r r' : R2} {P P' : Post} {t u : TS}
  {B B0 B1 B' H H0 H1 H' : Hp} {as as0 as1 : List Addr} {D : Ends} {σ : L2.St} {i k : Nat} {a b c : Bool}
/-! ### what is changed -/
theorem Ok.setc {p : Addr} {o : HO} {s : Dat} (c : Ok K B H as S) (hk : as[k]? = some p) (r : CellO K B o s) : Ok K B (upd H p o) as (S.set k s) where
  ex := fun a u q => by
    have hl : k < S.length := by rw [← c.len]; exact (List.getElem?_eq_some_iff.mp hk).1
    obtain ⟨hb, _⟩ := c.cells k p S[k] hk (List.getElem?_eq_getElem hl)
    rw [upd_ne (by rintro rfl; rw [hb] at q; cases q)]
    exact c.ex a u q
  len := by rw [List.length_set]; exact c.len
  cells := fun j a s' h1 h2 => by
    by_cases hj : k = j
    · subst hj
      have hl : k < S.length := by rw [← c.len]; exact (List.getElem?_eq_some_iff.mp hk).1
      rw [List.getElem?_set_self hl] at h2
      cases h2
      rw [hk] at h1
      cases h1
      exact ⟨(c.cells k p S[k] hk (List.getElem?_eq_getElem hl)).1, o, upd_same, r⟩
    · rw [List.getElem?_set_ne hj] at h2
      obtain ⟨q1, o', q3, q4⟩ := c.cells j a s' h1 h2
      have ne : a ≠ p := by
        rintro rfl
        have hkl := (List.getElem?_eq_some_iff.mp hk).1
        exact hj ((List.getElem_inj (h₀ := hkl) (h₁ := (List.getElem?_eq_some_iff.mp h1).1) c.nd).mp (by rw [(List.getElem?_eq_some_iff.mp hk).2, (List.getElem?_eq_some_iff.mp h1).2]))
      exact ⟨q1, o', by rw [upd_ne ne]; exact q3, q4⟩
  nd := c.nd
theorem Evo.setc {p : Addr} {o : HO} (hk : p ∈ as) : Evo B H as B (upd H p o) :=
  ⟨Evl.Ex.refl B, fun a u n q => by rw [upd_ne (by rintro rfl; exact n hk)]; exact q, fun _ _ => rfl, fun a q => by
    by_cases h : a = p
    · subst h; rw [upd_same]; simp
    · rw [upd_ne h]; exact q⟩
/-- xs.append(e) -/
theorem ev_append (ho : Ev K to env S (.c k) S1) (h : Ev K te env S1 (.d d) S2) (h1 : ∃ es, S1[k]? = some (.lst es)) (hs : S2[k]? = some (.lst ds)) (hl : ds.length < sizeLine) : Ev K (tBM K "list" rAppend to (tCons te tNil)) env S (.d .non) (S2.set k (.lst (ds ++ [d]))) := fun B H as σ c g Q q =>
  ho B H as σ c g _ fun v B1 H1 c1 e1 r1 => by
    obtain ⟨p, hp, rfl⟩ := r1
    obtain ⟨es, hes⟩ := h1
    obtain ⟨ws, hw, rw'⟩ := (c1.cells k p _ hp hes).2.lst
    refine ⟨.inl ⟨rfl, ws, Evl.sq_of hw⟩, h B1 H1 as σ c1 (g.mono e1.ex) _ fun v B2 H2 c2 e2 r2 => ?_⟩
    obtain ⟨vs, hv, rv⟩ := (c2.cells k p _ hp hs).2.lst
    refine ⟨p, vs, v, rfl, rfl, hv, by rw [rv.length]; exact hl, q .non B2 _ (c2.setc hp (show CellO K B2 (.lst _) (.lst _) from rv.append (.cons r2 .nil))) ((e1.trans e2).trans (Evo.setc (List.mem_of_getElem? hp))) .non⟩
/-- xs.extend(ys) -/
theorem ev_extend (ho : Ev K to env S (.c k) S1) (h : Ev K te env S1 (.d (.lst es)) S2) (h1 : ∃ es, S1[k]? = some (.lst es)) (hs : S2[k]? = some (.lst ds)) (hl : ds.length + es.length ≤ sizeLine) : Ev K (tBM K "list" rExtend to (tCons te tNil)) env S (.d .non) (S2.set k (.lst (ds ++ es))) := fun B H as σ c g Q q =>
  ho B H as σ c g _ fun v B1 H1 c1 e1 r1 => by
    obtain ⟨p, hp, rfl⟩ := r1
    obtain ⟨es', hes⟩ := h1
    obtain ⟨ws, hw, rw'⟩ := (c1.cells k p _ hp hes).2.lst
    refine ⟨.inl ⟨rfl, ws, Evl.sq_of hw⟩, h B1 H1 as σ c1 (g.mono e1.ex) _ fun v B2 H2 c2 e2 r2 => ?_⟩
    obtain ⟨vs, hv, rv⟩ := (c2.cells k p _ hp hs).2.lst
    cases r2 with
    | lst h3 r3 =>
      refine ⟨p, _, vs, _, rfl, rfl, hv, c2.ex _ _ h3, by rw [rv.length, r3.length]; exact hl, q .non B2 _ (c2.setc hp (show CellO K B2 (.lst _) (.lst _) from rv.append r3)) ((e1.trans e2).trans (Evo.setc (List.mem_of_getElem? hp))) .non⟩
/-- xs[i] = e -/
theorem sp_setitem {j : Nat} {iv : Int} (h : Ev K te env S (.d d) S1) (ho : Ev K to env S1 (.c k) S2) (hi : Ev K ti env S2 (.d (.int iv)) S3) (hs : S3[k]? = some (.lst ds)) (hj : ixN ds.length iv = some j) (q : SP K n u env (S3.set k (.lst (ds.set j d))) P) :
    SP K n (tSeq (tAsg te (gSub to ti rSetL)) u) env S P := fun B0 H0 as0 Bk B H as σ hl f c g D m =>
  h B H as σ c g _ fun v B1 H1 c1 e1 r1 => ho B1 H1 as σ c1 (g.mono e1.ex) _ fun w B2 H2 c2 e2 r2 => hi B2 H2 as σ c2 (g.mono (e1.trans e2).ex) _ fun w3 B3 H3 c3 e3 r3 => by
    obtain ⟨p, hp, rfl⟩ := r2
    cases r3
    obtain ⟨vs, hv, rv⟩ := (c3.cells k p _ hp hs).2.lst
    have e03 := ((e1.trans e2).trans e3).trans (Evo.setc (o := .lst (vs.set j v)) (List.mem_of_getElem? hp))
    exact ⟨p, vs, iv, j, rfl, rfl, hv, by rw [rv.length]; exact hj, q B0 H0 as0 Bk B3 _ as σ hl (f.step e03) (c3.setc hp (show CellO K B3 (.lst _) (.lst _) from Reps.set j (Rep.mono (e2.trans e3).ex r1) rv)) (g.mono e03.ex) D m⟩
/-- x op= e -/
theorem sp_aug {fn : Int → Int → Int} {p q : Int} (hx : env[i]? = some (some (.d (.int p)))) (h : Ev K te env S (.d (.int q)) S1) (k : SP K n u (env.set i (some (.d (.int (fn p q))))) S1 P) : SP K n (tSeq (tAug i te (ipI fn)) u) env S P := fun B0 H0 as0 Bk B H as σ hl f c g D m => by
  obtain ⟨v, h1, h2⟩ := g.2 i _ hx
  cases h2
  exact ⟨_, h1, h B H as σ c g _ fun w B1 H1 c1 e1 r1 => by
    cases r1
    exact ⟨p, q, rfl, rfl, k B0 H0 as0 Bk B1 H1 as _ hl (f.step e1) c1 (EnvR.set (s := .d (.int (fn p q))) i (g.mono e1.ex) (.int _)) D m⟩⟩
theorem sp_aug1 {fn : Int → Int → Int} {p q : Int} (hx : env[i]? = some (some (.d (.int p)))) (h : Ev K te env S (.d (.int q)) S1) (k : P.nx (env.set i (some (.d (.int (fn p q))))) S1) : SP K n (tAug i te (ipI fn)) env S P := fun B0 H0 as0 Bk B H as σ hl f c g D m => by
  obtain ⟨v, h1, h2⟩ := g.2 i _ hx
  cases h2
  exact ⟨_, h1, h B H as σ c g _ fun w B1 H1 c1 e1 r1 => by
    cases r1
    exact ⟨p, q, rfl, rfl, m.nx _ S1 B1 H1 as _ (f.step e1) c1 (EnvR.set (s := .d (.int (fn p q))) i (g.mono e1.ex) (.int _)) k⟩⟩
/-- a, b = e1, e2 -/
theorem sp_par {i j : Nat} (h : EvA K tA env S [x, y] S1) (k : SP K n u ((env.set i (some x)).set j (some y)) S1 P) : SP K n (tSeq (tPar i j tA) u) env S P := fun B0 H0 as0 Bk B H as σ hl f c g D m =>
  h B H as σ c g _ fun vs B1 H1 c1 e1 r1 => by
    cases r1 with
    | cons r1 rr =>
      cases rr with
      | cons r2 rr =>
        cases rr
        exact ⟨_, _, rfl, k B0 H0 as0 Bk B1 H1 as _ hl (f.step e1) c1 (((g.mono e1.ex).set i r1).set j r2) D m⟩
/-! ### instances -/
def putFD (f : Str) (v : Dat) : List (Str × Dat) → List (Str × Dat)
  | [] => [(f, v)]
  | (g, x) :: r => if g = f then (g, v) :: r else (g, x) :: putFD f v r
theorem RepF.put {f : Str} {v : V} : ∀ {vs : List (Str × V)} {fs : List (Str × Dat)}, Rep K B v d → RepF K B vs fs → RepF K B (putF f v vs) (putFD f d fs)
  | _, _, h, .nil => .cons h .nil
  | _, _, h, .cons (f := g) h1 r => by
    unfold putF putFD
    split
    · exact .cons h r
    · exact .cons h1 (RepF.put h r)
theorem RepF.length : ∀ {vs : List (Str × V)} {fs : List (Str × Dat)}, RepF K B vs fs → vs.length = fs.length
  | _, _, .nil => rfl
  | _, _, .cons _ r => by rw [List.length_cons, List.length_cons, RepF.length r]
theorem ev_fld {C : Addr} {fs : List (Str × Dat)} {f : Str} (h : Ev K ta env S (.d (.ins C fs)) S1) (cl : Cls K C) (na : NoAttr K C f) (hf : fs.lookup f = some d) : Ev K (tFld K ta f) env S (.d d) S1 := fun B H as σ c g Q q =>
  h B H as σ c g _ fun v B1 H1 c1 e1 r1 => by
    cases r1 with
    | ins h1 r1 =>
      obtain ⟨v, hv, rv⟩ := r1.get hf
      exact ⟨_, C, _, _, v, rfl, c1.ex _ _ h1, cl, na, hv, q v B1 H1 c1 e1 rv⟩
theorem ev_fldC {C : Addr} {fs : List (Str × Dat)} {f : Str} (h : Ev K ta env S (.c k) S1) (hs : S1[k]? = some (.ins C fs)) (cl : Cls K C) (na : NoAttr K C f) (hf : fs.lookup f = some d) : Ev K (tFld K ta f) env S (.d d) S1 := fun B H as σ c g Q q =>
  h B H as σ c g _ fun v B1 H1 c1 e1 r1 => by
    obtain ⟨p, hp, rfl⟩ := r1
    obtain ⟨dx, vs, hv, rv⟩ := (c1.cells k p _ hp hs).2.ins
    obtain ⟨v, hv', rv'⟩ := rv.get hf
    exact ⟨p, C, dx, vs, v, rfl, hv, cl, na, hv', q v B1 H1 c1 e1 rv'⟩
/-- self.f = e -/
theorem sp_fld {C : Addr} {fs : List (Str × Dat)} {f : Str} (h : Ev K tv env S (.d d) S1) (ho : Ev K ta env S1 (.c k) S2) (hs : S2[k]? = some (.ins C fs)) (cl : Cls K C) (na : NoAttr K C f) (hl : fs.length < 1000) (q : SP K n u env (S2.set k (.ins C (putFD f d fs))) P) :
    SP K n (tSeq (sFld K ta tv f) u) env S P := fun B0 H0 as0 Bk B H as σ hl0 f0 c g D m =>
  h B H as σ c g _ fun v B1 H1 c1 e1 r1 => ho B1 H1 as σ c1 (g.mono e1.ex) _ fun w B2 H2 c2 e2 r2 => by
    obtain ⟨p, hp, rfl⟩ := r2
    obtain ⟨dx, vs, hv, rv⟩ := (c2.cells k p _ hp hs).2.ins
    have e03 := (e1.trans e2).trans (Evo.setc (o := .ins C dx (putF f v vs)) (List.mem_of_getElem? hp))
    exact ⟨p, C, dx, vs, rfl, hv, cl, na, by rw [rv.length]; exact hl, q B0 H0 as0 Bk B2 _ as σ hl0 (f0.step e03) (c2.setc hp (show CellO K B2 (.ins C dx _) (.ins C _) from ⟨rfl, RepF.put (Rep.mono e2.ex r1) rv⟩)) (g.mono e03.ex) D m⟩
theorem sp_fld1 {C : Addr} {fs : List (Str × Dat)} {f : Str} (h : Ev K tv env S (.d d) S1) (ho : Ev K ta env S1 (.c k) S2) (hs : S2[k]? = some (.ins C fs)) (cl : Cls K C) (na : NoAttr K C f) (hl : fs.length < 1000) (q : P.nx env (S2.set k (.ins C (putFD f d fs)))) :
    SP K n (sFld K ta tv f) env S P := fun B0 H0 as0 Bk B H as σ hl0 f0 c g D m =>
  h B H as σ c g _ fun v B1 H1 c1 e1 r1 => ho B1 H1 as σ c1 (g.mono e1.ex) _ fun w B2 H2 c2 e2 r2 => by
    obtain ⟨p, hp, rfl⟩ := r2
    obtain ⟨dx, vs, hv, rv⟩ := (c2.cells k p _ hp hs).2.ins
    have e03 := (e1.trans e2).trans (Evo.setc (o := .ins C dx (putF f v vs)) (List.mem_of_getElem? hp))
    exact ⟨p, C, dx, vs, rfl, hv, cl, na, by rw [rv.length]; exact hl, m.nx _ _ B2 _ as _ (f0.step e03) (c2.setc hp (show CellO K B2 (.ins C dx _) (.ins C _) from ⟨rfl, RepF.put (Rep.mono e2.ex r1) rv⟩)) (g.mono e03.ex) q⟩
/-- C(e, ..): a new instance, filled by its __init__ -/
theorem ev_make {C : Addr} {G : List Sl → List Dat → Dat → List Dat → Prop} {ss : List Sl} {E : XK} {fs : List (Str × Dat)} (h : EvA K tA env S ss S1) (hg : G (.c S1.length :: ss) (S1 ++ [.ins C []]) .non (S2 ++ [.ins C fs])) (hl : S2.length = S1.length) :
    Ev K (tMake C (SpD K G) [] E tA) env S (.d (.ins C fs)) S2 := fun B H as σ c g Q q =>
  h B H as σ c g _ fun vs B1 H1 c1 e1 r1 x dx hx hdx hne => by
    have hB := c1.Bnone hx
    have hxa := c1.fresh hx
    have hdB := c1.Bnone hdx
    have hda := c1.fresh hdx
    have c2 : Ok K B1 (upd (upd H1 dx (.own x)) x (.ins C dx [])) as S1 := (c1.other hdB hda).other hB hxa
    have e2 : Evo B1 H1 as B1 (upd (upd H1 dx (.own x)) x (.ins C dx [])) := (Evo.refl.other hdx).other hx
    have c3 : Ok K B1 (upd (upd H1 dx (.own x)) x (.ins C dx [])) (as ++ [x]) (S1 ++ [.ins C []]) := c2.push hB hxa (CellAt.ofI upd_same .nil)
    have r3 : RepSs K B1 (as ++ [x]) (.ref x :: (vs ++ [])) (.c S1.length :: ss) := by
      refine .cons ⟨x, by rw [← c1.len]; simp, rfl⟩ ?_
      rw [List.append_nil]
      have grow : ∀ {vs : List V} {ss : List Sl}, RepSs K B1 as vs ss → RepSs K B1 (as ++ [x]) vs ss := by
        intro vs ss h
        induction h with
        | nil => exact .nil
        | cons h _ ih => exact .cons h.grow ih
      exact grow r1
    refine ⟨B1, as ++ [x], _, _, _, _, c3, r3, hg, fun v B4 H4 c4 e4 r4 => ⟨by cases r4; rfl, ?_⟩⟩
    have hk : (as ++ [x])[as.length]? = some x := by simp
    have hs : (S2 ++ [Dat.ins C fs])[as.length]? = some (.ins C fs) := by
      rw [c1.len, ← hl]; simp
    obtain ⟨hb4, hc4⟩ := c4.cells as.length x _ hk hs
    obtain ⟨dx', ws, hw, rw'⟩ := hc4.ins
    have c5 : Ok K B4 H4 as S2 := by
      have := c4.upto as.length
      rw [List.take_left, show as.length = S2.length by rw [c1.len, hl], List.take_left] at this
      exact this
    have nd := c4.nd
    have hx4 : x ∉ as := fun hm => (List.nodup_append.mp nd).2.2 x hm x (by simp) rfl
    have x0 : H x = none := e1.old hx
    have e5 : Evo B H as B4 H4 := by
      have e12 := e1.trans e2
      refine ⟨e12.ex.trans e4.ex, fun a o hn q => e4.fr a o (fun hm => (List.mem_append.mp hm).elim hn fun z => ?_) (e12.fr a o hn q), fun a q => (e4.gr a (e12.pr a q)).trans (e12.gr a q), fun a q => e4.pr a (e12.pr a q)⟩
      rw [List.mem_singleton.mp z, x0] at q
      cases q
    refine q (.ref x) (upd B4 x (.ins C dx' ws)) H4 (c5.know hw hb4 hx4) ⟨e5.ex.trans (Evl.Ex.new hb4), e5.fr, fun a q => by rw [upd_ne (by rintro rfl; exact q x0)]; exact e5.gr a q, e5.pr⟩ (.ins upd_same (RepF.mono (Evl.Ex.new hb4) rw'))
end
end RW

set_option Elab.async false
set_option linter.all false
set_option maxRecDepth 100000
set_option maxHeartbeats 4000000
namespace RW
open PySem PySem.Spec PyProof.Rows L2
open Evl (Ex)
section
variable {K : PySem.W.Frag} {n : Nat} {te ta tb tc to ti tv : TE} {tt tu : TT} {tA tR : TA} {env env' : Env1} {S S1 S2 S3 : List Dat} {x y z : Sl} {d e : Dat} {ds es : List Dat} {r r' : R2} {P P' : Post} {t u : TS}
  {B B0 B1 B' H H0 H1 H' : Hp} {as as0 as1 : List Addr} {D : Ends} {σ : L2.St} {i k : Nat} {a b c : Bool}
/-! ### enumerate, reversed(range) -/
def enumD (ds : List Dat) : List Dat := ds.mapIdx fun i d => Dat.tup [.int (i : Nat), d]
theorem enumD_len : (enumD ds).length = ds.length := by unfold enumD; rw [List.length_mapIdx]
theorem enumD_get {i : Nat} {d : Dat} (h : ds[i]? = some d) : (enumD ds)[i]? = some (.tup [.int (i : Nat), d]) := by
  unfold enumD
  rw [List.getElem?_mapIdx, h]
  rfl
theorem it_enum (h : EvA K tA env S [x] S1) (hx : Seq S1 x ds) : IterD K (iEnumG K tA) env S (fun as as2 S2 => GS x ds as as2 S2) (enumD ds) S1 := fun B H as σ c g R q => h B H as σ c g _ fun vs B1 H1 c1 e1 r1 => by
  cases r1 with
  | cons r1 rr =>
    cases rr
    obtain ⟨a1, k1, rfl, ⟨w1, q1⟩, st1⟩ := seq_stays c1 hx r1
    refine ⟨a1, k1, w1, rfl, q1, q _ B1 H1 c1 e1 ⟨fun B2 H2 as2 S2 i e c2 g2 hi => ?_, fun B2 H2 as2 S2 i x H3 e c2 g2 hi y => ?_, fun B2 H2 as2 S2 e c2 g2 => ?_⟩⟩
    · obtain ⟨u1, p1, rp1⟩ := st1 B2 H2 as2 S2 e c2 g2
      rw [enumD_len] at hi
      obtain ⟨v1, hv1, _⟩ := rp1.get (List.getElem?_eq_getElem hi)
      exact ⟨u1, v1, p1, hv1⟩
    · obtain ⟨u1, p1, rp1⟩ := st1 B2 H2 as2 S2 e c2 g2
      obtain ⟨T, v1, rfl, hT, rfl, y1⟩ := y
      obtain ⟨d1, hd1, r1⟩ := rp1.get' (y1 u1 p1)
      have hB : Ex B2 (upd B2 T (.tup [.int (i : Nat), v1])) := Evl.Ex.new (c2.Bnone hT)
      exact ⟨upd B2 T (.tup [.int (i : Nat), v1]), .tup [.int (i : Nat), d1], c2.new hT, Evo.new c2 hT, enumD_get hd1, .tup (Evl.st_of upd_same) (.cons (.int _) (.cons (r1.mono hB) .nil))⟩
    · obtain ⟨u1, p1, rp1⟩ := st1 B2 H2 as2 S2 e c2 g2
      exact ⟨u1, p1, by rw [enumD_len, rp1.length]⟩
/-- hi - 1, .., lo -/
def rngR (lo : Int) (n : Nat) : List Dat := (List.range n).map fun i => Dat.int (lo + (n : Int) - 1 + (i : Nat) * (-1))
theorem rngR_len {lo : Int} {n : Nat} : (rngR lo n).length = n := by unfold rngR; rw [List.length_map, List.length_range]
theorem rngR_get {lo : Int} {n i : Nat} (h : i < n) : (rngR lo n)[i]? = some (.int (lo + (n : Int) - 1 + (i : Nat) * (-1))) := by
  unfold rngR
  rw [List.getElem?_map, List.getElem?_range h]
  rfl
theorem walk_rngR {lo : Int} {n : Nat} {G : List Addr → List Dat → Prop} : WalkD K B (Itc (lo + (n : Int) - 1) (-1) n) G (rngR lo n) where
  go := fun B2 H2 as2 S2 i _ _ _ hi => by rw [rngR_len] at hi; exact hi
  yld := fun B2 H2 as2 S2 i x H3 _ c _ hi y => by
    rw [rngR_len] at hi
    obtain ⟨rfl, rfl⟩ := y
    exact ⟨B2, _, c, Evo.refl, rngR_get hi, .int _⟩
  stop := fun B2 H2 as2 S2 _ _ _ => by rw [rngR_len]; exact Nat.le_refl _
theorem it_rev1 {j : Int} (h : Ev K ta env S (.d (.int j)) S1) (hj : -(2 ^ 62) ≤ j ∧ j < 2 ^ 62) : IterD K (iRevR (tRg1 ta)) env S G0 (rngR 0 j.toNat) S1 := fun B H as σ c g R q => h B H as σ c g _ fun v B1 H1 c1 e1 r1 => by
  cases r1
  refine ⟨j, rfl, by decide, by decide, hj.1, hj.2, ?_⟩
  have e0 : (j - 0).toNat = j.toNat := by rw [Int.sub_zero]
  rw [e0]
  exact q _ B1 H1 c1 e1 walk_rngR
/-! ### == of data -/
mutual
def py : Dat → PyData
  | .non => .none
  | .bl b => .bool b
  | .int i => .int i
  | .str s => .str s
  | .tup xs => .tuple (pyAll xs)
  | .lst xs => .list (pyAll xs)
  | .ty _ => .none
  | .scr _ => .none
  | .ins _ _ => .none
  | .adr _ => .none
def pyAll : List Dat → List PyData
  | [] => []
  | x :: xs => py x :: pyAll xs
end
inductive Pl : Nat → Dat → Prop
  | non {m : Nat} : Pl m .non
  | bl {m : Nat} (b : Bool) : Pl m (.bl b)
  | int {m : Nat} (i : Int) : Pl m (.int i)
  | str {m : Nat} {s : Str} (h : (PyData.str s).canLay0 = true) : Pl m (.str s)
  | tup {m : Nat} {ds : List Dat} (h : ∀ d ∈ ds, Pl m d) : Pl (m + 1) (.tup ds)
  | lst {m : Nat} {ds : List Dat} (h : ∀ d ∈ ds, Pl m d) : Pl (m + 1) (.lst ds)
theorem pyAll_lay {m : Nat} : ∀ {ds : List Dat}, (∀ d ∈ ds, (py d).canLay0 = true ∧ (py d).depth ≤ m) → PyData.canLayAll0 (pyAll ds) = true ∧ PyData.depthAll (pyAll ds) ≤ m
  | [], _ => ⟨rfl, Nat.zero_le _⟩
  | d :: ds, h => by
    obtain ⟨h1, h2⟩ := pyAll_lay (ds := ds) fun d hd => h d (List.mem_cons_of_mem _ hd)
    obtain ⟨h3, h4⟩ := h d List.mem_cons_self
    refine ⟨?_, ?_⟩
    · show (PyData.canLay0 (py d) && PyData.canLayAll0 (pyAll ds)) = true
      rw [h1, h3]; rfl
    · show max (PyData.depth (py d)) (PyData.depthAll (pyAll ds)) ≤ m
      omega
theorem Pl.lay {m : Nat} (h : Pl m d) : (py d).canLay0 = true ∧ (py d).depth ≤ m := by
  induction h with
  | non => exact ⟨rfl, Nat.zero_le _⟩
  | bl b => exact ⟨rfl, Nat.zero_le _⟩
  | int i => exact ⟨rfl, Nat.zero_le _⟩
  | str h => exact ⟨h, Nat.zero_le _⟩
  | tup h ih =>
    obtain ⟨h1, h2⟩ := pyAll_lay ih
    exact ⟨h1, Nat.succ_le_succ h2⟩
  | lst h ih =>
    obtain ⟨h1, h2⟩ := pyAll_lay ih
    exact ⟨h1, Nat.succ_le_succ h2⟩
theorem Pl.shaped {m : Nat} (h : Pl m d) (hm : m ≤ 64) : SeqAt.shaped (py d) = true := by
  unfold SeqAt.shaped
  rw [h.lay.1, decide_eq_true (Nat.le_trans h.lay.2 hm)]
  rfl
theorem dpAll_of {m : Nat} : ∀ {vs : List V} {ds : List Dat}, (∀ d ∈ ds, ∀ v, Rep K H v d → Dp K H v (py d)) → Reps K H vs ds → DpAll K H vs (pyAll ds)
  | _, [], _, .nil => .nil
  | _, d :: ds, h, .cons r rr => .cons (h d List.mem_cons_self _ r) (dpAll_of (m := m) (fun d hd => h d (List.mem_cons_of_mem _ hd)) rr)
theorem Pl.dp {m : Nat} (h : Pl m d) : ∀ v, Rep K H v d → Dp K H v (py d) := by
  induction h with
  | non => intro v r; cases r; exact .non
  | bl b => intro v r; cases r; exact .bl b
  | int i => intro v r; cases r; exact .int i
  | str h => intro v r; cases r; exact .str _
  | tup h ih =>
    intro v r
    cases r with
    | tup h1 r1 => exact .tup h1 (dpAll_of (m := 0) ih r1)
  | lst h ih =>
    intro v r
    cases r with
    | lst h1 r1 => exact .lst (Evl.sq_of h1) (dpAll_of (m := 0) ih r1)
/-- what an operand is, as data -/
def PlS (S : List Dat) (x : Sl) (m : Nat) (d : Dat) : Prop := Pl m d ∧ (x = .d d ∨ ∃ k ds, x = .c k ∧ d = .lst ds ∧ S[k]? = some (.lst ds))
theorem plS_d {m : Nat} (h : Pl m d) : PlS S (.d d) m d := ⟨h, .inl rfl⟩
theorem plS_c {m k : Nat} (h : Pl m (.lst ds)) (hk : S[k]? = some (.lst ds)) : PlS S (.c k) m (.lst ds) := ⟨h, .inr ⟨k, ds, rfl, rfl, hk⟩⟩
theorem PlS.dp {m : Nat} {v : V} (h : PlS S x m d) (c : Ok K B H as S) (r : RepS K B as v x) : Dp K H v (py d) := by
  obtain ⟨hp, rfl | ⟨k, ds, rfl, rfl, hk⟩⟩ := h
  · exact hp.dp v (Rep.mono c.ex r)
  · obtain ⟨a, ha, rfl⟩ := r
    obtain ⟨vs, hv, rv⟩ := (c.cells k a _ ha hk).2.lst
    have rv' : Reps K H vs ds := Reps.mono c.ex rv
    exact hp.dp (.ref a) (.lst hv rv')
def eqD (d e : Dat) : Bool := PyData.eqv (py d) (py e)
theorem op2_eqD {m1 m2 : Nat} (h1 : PlS S x m1 d) (h2 : PlS S y m2 e) (hm1 : m1 ≤ 64) (hm2 : m2 ≤ 64) : Op2 K (rEqD K) x y S (.bl (eqD d e)) := fun B H as v w c r1 r2 Q q =>
  ⟨py d, py e, h1.dp c r1, h2.dp c r2, h1.1.shaped hm1, h2.1.shaped hm2, q _ B H c Evo.refl (.bl _)⟩
theorem op2_neD {m1 m2 : Nat} (h1 : PlS S x m1 d) (h2 : PlS S y m2 e) (hm1 : m1 ≤ 64) (hm2 : m2 ≤ 64) : Op2 K (rNeD K) x y S (.bl (!eqD d e)) := fun B H as v w c r1 r2 Q q =>
  ⟨py d, py e, h1.dp c r1, h2.dp c r2, h1.1.shaped hm1, h2.1.shaped hm2, q _ B H c Evo.refl (.bl _)⟩
theorem eqD_refl {m : Nat} (h : Pl m d) : eqD d d = true := SeqAt.eqv_refl _ h.lay.1
theorem eqD_int {i j : Int} : eqD (.int i) (.int j) = decide (i = j) := by
  show (i == j) = _
  by_cases h : i = j
  · subst h; simp
  · simp [h]
theorem eqvAll_map {α : Type} [DecidableEq α] (f : α → Dat) (h : ∀ x y, eqD (f x) (f y) = decide (x = y)) : ∀ xs ys : List α, PyData.eqvAll (pyAll (xs.map f)) (pyAll (ys.map f)) = decide (xs = ys)
  | [], [] => by simp [pyAll, PyData.eqvAll]
  | [], y :: ys => by simp [pyAll, PyData.eqvAll]
  | x :: xs, [] => by simp [pyAll, PyData.eqvAll]
  | x :: xs, y :: ys => by
    show (PyData.eqv (py (f x)) (py (f y)) && PyData.eqvAll (pyAll (xs.map f)) (pyAll (ys.map f))) = _
    rw [eqvAll_map f h xs ys]
    have := h x y
    unfold eqD at this
    rw [this]
    by_cases h1 : x = y <;> by_cases h2 : xs = ys <;> simp [h1, h2]
theorem eqD_tup {α : Type} [DecidableEq α] (f : α → Dat) (h : ∀ x y, eqD (f x) (f y) = decide (x = y)) (xs ys : List α) : eqD (.tup (xs.map f)) (.tup (ys.map f)) = decide (xs = ys) := eqvAll_map f h xs ys
theorem eqD_lst {α : Type} [DecidableEq α] (f : α → Dat) (h : ∀ x y, eqD (f x) (f y) = decide (x = y)) (xs ys : List α) : eqD (.lst (xs.map f)) (.lst (ys.map f)) = decide (xs = ys) := eqvAll_map f h xs ys
theorem op2_eq_int {i j : Int} : Op2 K rEq (.d (.int i)) (.d (.int j)) S (.bl (decide (i = j))) := fun B H as v w c h1 h2 Q q => by
  cases h1; cases h2
  have e : decide (V.int i = V.int j) = decide (i = j) := by
    by_cases h : i = j
    · subst h; simp
    · simp [h]
  refine ⟨rfl, ?_⟩
  rw [e]
  exact q _ B H c Evo.refl (.bl _)
theorem op2_ne_int {i j : Int} : Op2 K rNe (.d (.int i)) (.d (.int j)) S (.bl (!decide (i = j))) := fun B H as v w c h1 h2 Q q => by
  cases h1; cases h2
  have e : decide (V.int i = V.int j) = decide (i = j) := by
    by_cases h : i = j
    · subst h; simp
    · simp [h]
  refine ⟨rfl, ?_⟩
  rw [e]
  exact q _ B H c Evo.refl (.bl _)
/-! ### isinstance -/
def tyD : Dat → Option String
  | .non => some "NoneType"
  | .bl _ => some "bool"
  | .int _ => some "int"
  | .str _ => some "str"
  | .tup _ => some "tuple"
  | .lst _ => some "list"
  | _ => none
theorem tyX_of {T : String} {v : V} (c : Ok K B H as S) (h : tyD d = some T) (r : Rep K B v d) : TyX K H v (.type T) := by
  cases r with
  | non => cases h; exact .base .non
  | bl b => cases h; exact .base (.bl b)
  | int i => cases h; exact .base (.int i)
  | str s => cases h; exact .base (.str s)
  | ty n => cases h
  | tup h1 r1 =>
    cases h
    rcases Evl.ex_t c.ex h1 with (z | ⟨o, z⟩) | ⟨o, its, n, z, zc, _⟩
    · exact .base (.tup z)
    · exact .fTuple z
    · exact .kTuple z zc
  | lst h1 r1 => cases h; exact .base (.lst (c.ex _ _ h1))
  | scr h1 => cases h
  | ins h1 r1 => cases h
  | adr a => cases h
theorem cd_isi {T N : String} (h : tyD d = some T) (hk : kitB T N = some b) : CallD K (rIsi K) [.d d, .d (.ty N)] S (.bl b) S := fun B H as vs c r Q q => by
  cases r with
  | cons r1 rr =>
    cases rr with
    | cons r2 rr =>
      cases rr; cases r2
      exact ⟨_, _, .type T, .type N, b, rfl, .ty N, tyX_of c h r1, kit_ty hk, q _ B H c Evo.refl (.bl b)⟩
/-- what an own class is for isinstance -/
structure InsC (K : PySem.W.Frag) (C : Addr) : Prop where
  cl : Cls K C
  ha : PySem.W.findIn K (.ref C) "__class__" = some (some (.builtin "object.__class__"))
  hn : PySem.W.specialIn K (.builtin "object.__class__") "__get__" = some (some (.builtin "getset_descriptor.__get__"))
  htk : PySem.W.takesIn K (.builtin "object.__class__") = some true
  hm : PySem.W.mroIn K C (.type "object") = some true
theorem cd_isiI {C : Addr} {fs : List (Str × Dat)} {cv : V} {cu : Value} {cd : Dat} (T : InsC K C) (hc : ∀ B v, Rep K B v cd → v = cv) (hcv : ClsV cv cu) (hk : PySem.W.kitOne K (.ref C) cu = some b) : CallD K (rIsi K) [.d (.ins C fs), .d cd] S (.bl b) S := fun B H as vs c r Q q => by
  cases r with
  | cons r1 rr =>
    cases rr with
    | cons r2 rr =>
      cases rr
      have e := hc _ _ r2
      subst e
      cases r1 with
      | ins h1 r1 => exact ⟨_, _, .ref C, cu, b, rfl, hcv, .base (.ins (c.ex _ _ h1) T.cl T.ha T.hn T.htk T.hm), hk, q _ B H c Evo.refl (.bl b)⟩
/-- an instance, asked for its own class -/
theorem cd_isiO {C C' : Addr} {fs : List (Str × Dat)} (T : InsC K C) (hk : PySem.W.kitOne K (.ref C) (.ref C') = some b) : CallD K (rIsi K) [.d (.ins C fs), .d (.adr C')] S (.bl b) S :=
  cd_isiI T (fun B v r => by cases r; rfl) (.own C') hk
/-- another value, asked for an own class -/
theorem cd_isiN {T : String} {C : Addr} (h : tyD d = some T) (hk : PySem.W.kitOne K (.type T) (.ref C) = some b) : CallD K (rIsi K) [.d d, .d (.adr C)] S (.bl b) S := fun B H as vs c r Q q => by
  cases r with
  | cons r1 rr =>
    cases rr with
    | cons r2 rr =>
      cases rr; cases r2
      exact ⟨_, _, .type T, .ref C, b, rfl, .own C, tyX_of c h r1, hk, q _ B H c Evo.refl (.bl b)⟩
end
end RW

set_option Elab.async false
set_option linter.all false
set_option maxRecDepth 100000
set_option maxHeartbeats 4000000
namespace RW
open PySem PySem.Spec PyProof.Rows L2
open Evl (Ex)
section
variable {K : PySem.W.Frag} {n : Nat} {te ta tb tc to ti tv : TE} {tt tu : TT} {tA tR : TA} {env env' : Env1} {S S1 S2 S3 : List Dat} {x y z : Sl} {d e : Dat} {ds es : List Dat} {r r' : R2} {P P' : Post} {t u : TS}
  {B B0 B1 B' H H0 H1 H' : Hp} {as as0 as1 : List Addr} {D : Ends} {σ : L2.St} {i j : Int} {k : Nat} {a b c : Bool}
theorem o_le : Op2 K (rI0 fun i j => V.bl (decide (i ≤ j))) (.d (.int i)) (.d (.int j)) S (.bl (decide (i ≤ j))) := op2_int0 fun B => .bl _
theorem o_lt : Op2 K (rI0 fun i j => V.bl (decide (i < j))) (.d (.int i)) (.d (.int j)) S (.bl (decide (i < j))) := op2_int0 fun B => .bl _
theorem o_gt : Op2 K (rI0 fun i j => V.bl (decide (j < i))) (.d (.int i)) (.d (.int j)) S (.bl (decide (j < i))) := op2_int0 fun B => .bl _
theorem o_ge : Op2 K (rI0 fun i j => V.bl (decide (j ≤ i))) (.d (.int i)) (.d (.int j)) S (.bl (decide (j ≤ i))) := op2_int0 fun B => .bl _
theorem o_leT (h : i ≤ j) : Op2 K (rI0 fun i j => V.bl (decide (i ≤ j))) (.d (.int i)) (.d (.int j)) S (.bl true) := by have := @o_le K S i j; rwa [decide_eq_true h] at this
theorem o_ltT (h : i < j) : Op2 K (rI0 fun i j => V.bl (decide (i < j))) (.d (.int i)) (.d (.int j)) S (.bl true) := by have := @o_lt K S i j; rwa [decide_eq_true h] at this
theorem o_add : Op2 K (rI0 fun i j => V.int (i + j)) (.d (.int i)) (.d (.int j)) S (.int (i + j)) := op2_int0 fun B => .int _
theorem o_sub : Op2 K (rI0 fun i j => V.int (i - j)) (.d (.int i)) (.d (.int j)) S (.int (i - j)) := op2_int0 fun B => .int _
theorem o_mul (h : CMul i j) : Op2 K (rI CMul fun i j => V.int (i * j)) (.d (.int i)) (.d (.int j)) S (.int (i * j)) := op2_int h fun B => .int _
theorem o_mod (h : 0 < j) : Op2 K (rI (fun x j => 0 < j) fun i j => V.int (i % j)) (.d (.int i)) (.d (.int j)) S (.int (i % j)) := op2_int h fun B => .int _
theorem o_fdivW (h : CDivW i j) : Op2 K (rI CDivW fun i j => V.int (i / j)) (.d (.int i)) (.d (.int j)) S (.int (i / j)) := op2_int h fun B => .int _
theorem o_pow (h : CPow i j) : Op2 K (rI CPow fun i j => V.int (i ^ j.toNat)) (.d (.int i)) (.d (.int j)) S (.int (i ^ j.toNat)) := op2_int h fun B => .int _
theorem o_neg : Op1 K (rU fun i => V.int (-i)) (.d (.int i)) S (.int (-i)) := op1_int fun B => .int _
theorem cm_l (h1 : -(2 ^ 64) < i) (h2 : i < 2 ^ 64) : CMul i j := .inl ⟨h1, h2⟩
theorem cm_r (h1 : -(2 ^ 64) < j) (h2 : j < 2 ^ 64) : CMul i j := .inr ⟨h1, h2⟩
/-- ** of any base -/
def CPowW (i j : Int) : Prop := 0 ≤ j ∧ (Builtin.Int.intBits i : Int) * j ≤ 2 ^ 27
theorem op_powW {X : Cx} : OpR X (binaryOp .Pow) (rI CPowW fun i j => .int (i ^ j.toNat)) := opI fun i j t u A E s hc q => pow_int hc.1 hc.2 q
theorem o_powW (h : CPowW i j) : Op2 K (rI CPowW fun i j => V.int (i ^ j.toNat)) (.d (.int i)) (.d (.int j)) S (.int (i ^ j.toNat)) := op2_int h fun B => .int _
theorem en_mapA {α : Type} {xs : List α} {g : α → Dat} (h : α → Dat) {wi : TI} {tg : TG} {vs : List Nat} {G : List Addr → List Addr → List Dat → Prop} {is : List Nat} (hw : IterD K wi env S G (xs.map g) S1) (hz : xs.length ≤ sizeLine)
    (hG : ∀ as : List Addr, as.length = S1.length → G as as S1) (his : ∀ i ∈ is, i ∈ vs) (f : α → Env1 → Env1)
    (hs : ∀ (a : α), a ∈ xs → TgD K tg (g a) is (f a) ∧ Ev K te (f a (wipeE env vs)) S1 (.d (h a)) S1) : EvN K (tLc wi tg tYes te vs) env S (xs.map h) S1 := by
  refine en_lc (es := xs.map h) (S' := S1) hw (by rw [List.length_map]; exact hz) (fun i acc S' => acc = (xs.take i).map h ∧ S' = S1) ⟨by simp, rfl⟩ (fun i acc S' h as l1 l2 => by rw [h.2]; exact hG as l1) (fun i d acc S' hd hi => ?_) (fun acc S2 h => ?_)
  · obtain ⟨rfl, rfl⟩ := hi
    rw [List.getElem?_map, Option.map_eq_some_iff] at hd
    obtain ⟨a, ha, rfl⟩ := hd
    obtain ⟨tg, hev⟩ := hs a (List.mem_of_getElem? ha)
    exact ⟨is, f a, true, S', tg, his, et_yes, fun _ => ⟨_, _, hev, (map_take h ha).symm, rfl⟩, fun h => by cases h⟩
  · obtain ⟨rfl, rfl⟩ := h
    exact ⟨by rw [List.length_map, List.take_length], rfl⟩
theorem filter_take {α : Type} (T : α → Bool) {l : List α} {i : Nat} {x : α} (h : l[i]? = some x) : (l.take (i + 1)).filter T = (l.take i).filter T ++ (if T x = true then [x] else []) := by
  have hl := (List.getElem?_eq_some_iff.mp h).1
  have e : l[i] = x := (List.getElem?_eq_some_iff.mp h).2
  rw [List.take_succ_eq_append_getElem hl, e, List.filter_append]
  congr 1
  by_cases q : T x = true <;> simp [q]
theorem en_filterA {α : Type} {xs : List α} {g : α → Dat} (T : α → Bool) (h : α → Dat) {wi : TI} {tg : TG} {vs : List Nat} {G : List Addr → List Addr → List Dat → Prop} {is : List Nat} (hw : IterD K wi env S G (xs.map g) S1) (hz : xs.length ≤ sizeLine)
    (hG : ∀ as : List Addr, as.length = S1.length → G as as S1) (his : ∀ i ∈ is, i ∈ vs) (f : α → Env1 → Env1)
    (hs : ∀ (a : α), a ∈ xs → TgD K tg (g a) is (f a) ∧ EvT K tt (f a (wipeE env vs)) S1 (T a) S1 ∧ (T a = true → Ev K te (f a (wipeE env vs)) S1 (.d (h a)) S1)) : EvN K (tLc wi tg tt te vs) env S ((xs.filter T).map h) S1 := by
  refine en_lc (es := (xs.filter T).map h) (S' := S1) hw (by rw [List.length_map]; exact hz) (fun i acc S' => acc = ((xs.take i).filter T).map h ∧ S' = S1) ⟨by simp, rfl⟩ (fun i acc S' h as l1 l2 => by rw [h.2]; exact hG as l1) (fun i d acc S' hd hi => ?_) (fun acc S2 h => ?_)
  · obtain ⟨rfl, rfl⟩ := hi
    rw [List.getElem?_map, Option.map_eq_some_iff] at hd
    obtain ⟨a, ha, rfl⟩ := hd
    obtain ⟨tg, htt, hev⟩ := hs a (List.mem_of_getElem? ha)
    refine ⟨is, f a, T a, S', tg, his, htt, fun q => ⟨_, _, hev q, ?_, rfl⟩, fun q => ⟨?_, rfl⟩⟩
    · rw [filter_take T ha, if_pos q, List.map_append]; rfl
    · rw [filter_take T ha, if_neg (by simp [q]), List.append_nil]
  · obtain ⟨rfl, rfl⟩ := h
    exact ⟨by rw [List.length_map, List.take_length], rfl⟩
/-- with a state that goes along: the vat -/
theorem en_fold {α β : Type} {xs : List α} {g : α → Dat} {es : List β} (h : β → Dat) (Sf : Nat → List Dat) {wi : TI} {tg : TG} {vs : List Nat} {G : List Addr → List Addr → List Dat → Prop} {is : List Nat} (hw : IterD K wi env S G (xs.map g) (Sf 0)) (hz : xs.length ≤ sizeLine) (hl : es.length = xs.length)
    (hG : ∀ i (as : List Addr), as.length = (Sf i).length → G as as (Sf i)) (hSl : ∀ i, (Sf i).length = (Sf 0).length) (his : ∀ i ∈ is, i ∈ vs) (f : α → Env1 → Env1)
    (hs : ∀ (i : Nat) (a : α) (b : β), xs[i]? = some a → es[i]? = some b → TgD K tg (g a) is (f a) ∧ Ev K te (f a (wipeE env vs)) (Sf i) (.d (h b)) (Sf (i + 1))) : EvN K (tLc wi tg tYes te vs) env S (es.map h) (Sf xs.length) := by
  refine en_lc (es := es.map h) (S' := Sf xs.length) hw (by rw [List.length_map]; exact hz) (fun i acc S' => acc = (es.take i).map h ∧ S' = Sf i) ⟨by simp, rfl⟩ (fun i acc S' h as l1 l2 => by rw [h.2] at l2 ⊢; exact hG i as l2) (fun i d acc S' hd hi => ?_) (fun acc S2 h => ?_)
  · obtain ⟨rfl, rfl⟩ := hi
    rw [List.getElem?_map, Option.map_eq_some_iff] at hd
    obtain ⟨a, ha, rfl⟩ := hd
    have hlt : i < es.length := by rw [hl]; exact (List.getElem?_eq_some_iff.mp ha).1
    obtain ⟨tg, hev⟩ := hs i a es[i] ha (List.getElem?_eq_getElem hlt)
    exact ⟨is, f a, true, _, tg, his, et_yes, fun _ => ⟨_, _, hev, (map_take h (List.getElem?_eq_getElem hlt)).symm, rfl⟩, fun h => by cases h⟩
  · obtain ⟨rfl, rfl⟩ := h
    refine ⟨?_, by rw [List.length_map]⟩
    rw [List.length_map, List.take_of_length_le (by omega)]
theorem sp_forA {α : Type} {xs : List α} {g : α → Dat} {wi : TI} {tg : TG} {tb : TS} {G : List Addr → List Addr → List Dat → Prop} (hw : IterD K wi env S G (xs.map g) S1) (Inv : Nat → Env1 → List Dat → Prop) (h0 : Inv 0 env S1)
    (hG : ∀ i env' S' as as2, Inv i env' S' → as.length = S1.length → as2.length = S'.length → as2.take n = as.take n → G as as2 S')
    (hs : ∀ i a env' S', xs[i]? = some a → Inv i env' S' → ∃ is f, TgD K tg (g a) is f ∧ SP K n tb (f env') S' { P with nx := Inv (i + 1), ct := Inv (i + 1), bk := P.nx })
    (hd : ∀ env' S', Inv xs.length env' S' → P.nx env' S') : SP K n (tFor wi tg tb) env S P := by
  refine sp_for hw Inv h0 hG (fun i d env' S' hd hi => ?_) (fun env' S' h => hd env' S' (by rwa [List.length_map] at h))
  rw [List.getElem?_map, Option.map_eq_some_iff] at hd
  obtain ⟨a, ha, rfl⟩ := hd
  exact hs i a env' S' ha hi
theorem rng_map {lo : Int} {n : Nat} : rng lo n = (List.range n).map fun i => Dat.int (lo + (i : Nat)) := rfl
theorem zip_map {α β : Type} (f : α → Dat) (g : β → Dat) (u : List α) (v : List β) : zipD (u.map f) (v.map g) = (u.zip v).map fun p => Dat.tup [f p.1, g p.2] := by
  unfold zipD
  rw [List.zipWith_map]
  induction u generalizing v with
  | nil => rfl
  | cons x u ih => cases v with
    | nil => rfl
    | cons y v => simp [ih]
theorem enum_map {α : Type} (f : α → Dat) (u : List α) : enumD (u.map f) = u.zipIdx.map fun p => Dat.tup [.int (p.2 : Nat), f p.1] := by
  unfold enumD
  apply List.ext_getElem
  · simp
  · intro i h1 h2; simp
theorem WalkD.weak {J : It} {G G' : List Addr → List Dat → Prop} (w : WalkD K B J G ds) (h : ∀ as2 S2, G' as2 S2 → G as2 S2) : WalkD K B J G' ds :=
  ⟨fun B2 H2 as2 S2 i e c g hi => w.go B2 H2 as2 S2 i e c (h _ _ g) hi, fun B2 H2 as2 S2 i x H3 e c g hi y => w.yld B2 H2 as2 S2 i x H3 e c (h _ _ g) hi y, fun B2 H2 as2 S2 e c g => w.stop B2 H2 as2 S2 e c (h _ _ g)⟩
theorem IterD.weak {wi : TI} {G G' : List Addr → List Addr → List Dat → Prop} (w : IterD K wi env S G ds S1) (h : ∀ as as2 S2, G' as as2 S2 → G as as2 S2) : IterD K wi env S G' ds S1 := fun B H as σ c g R q =>
  w B H as σ c g R fun J B1 H1 c1 e1 w1 => q J B1 H1 c1 e1 (w1.weak (h as))
theorem it_zipA {α β : Type} {u : List α} {v : List β} {f : α → Dat} {g : β → Dat} {x y : Dat} (h : EvA K tA env S [.d x, .d y] S1) (hx : Seq S1 (.d x) (u.map f)) (hy : Seq S1 (.d y) (v.map g)) : IterD K (iZipG K tA) env S G0 ((u.zip v).map fun p => Dat.tup [f p.1, g p.2]) S1 := by
  rw [← zip_map]; exact (it_zip h hx hy).weak fun _ _ _ _ => ⟨trivial, trivial⟩
theorem it_enumA {α : Type} {u : List α} {f : α → Dat} {x : Dat} (h : EvA K tA env S [.d x] S1) (hx : Seq S1 (.d x) (u.map f)) : IterD K (iEnumG K tA) env S G0 (u.zipIdx.map fun p => Dat.tup [.int (p.2 : Nat), f p.1]) S1 := by
  rw [← enum_map]; exact (it_enum h hx).weak fun _ _ _ _ => trivial
/-- return a new list that was just made -/
def SpN (K : PySem.W.Frag) (G : List Sl → List Dat → List Dat → List Dat → Prop) : Sp := fun vs H Q _ => ∃ B as S ss r S', Ok K B H as S ∧ RepSs K B as vs ss ∧ G ss S r S' ∧
  ∀ p B' H' ws, Ok K B' H' as S' → Evo B H as B' H' → H p = none → B' p = none → H' p = some (.lst ws) → Reps K B' ws r → Q (.ref p) H'
theorem en_call {G : List Sl → List Dat → List Dat → List Dat → Prop} {ss : List Sl} {E : XK} (h : EvA K tA env S ss S1) (hg : G ss S1 ds S2) : EvN K (tCall (SpN K G) [] E tA) env S ds S2 := fun B H as σ c g Q q =>
  h B H as σ c g _ fun vs B1 H1 c1 e1 r1 => ⟨B1, as, S1, ss, ds, S2, c1, by rw [List.append_nil]; exact r1, hg, fun p B2 H2 ws c2 e2 hp hb hl r2 => q p B2 H2 ws c2 (e1.trans e2) (e1.old hp) hb hl r2⟩
theorem spn_len {G : List Sl → List Dat → List Dat → List Dat → Prop} {k : Nat} (h : ∀ ss S r S', G ss S r S' → ss.length = k) : ∀ vs H Q E, SpN K G vs H Q E → vs.length = k := fun vs H Q E q => by
  obtain ⟨B, as, S, ss, r, S', c, rs, g, _⟩ := q
  rw [rs.length]
  exact h ss S r S' g
/-- isinstance told as a fact of the data -/
theorem cd_sortedI {ns ns' : List Int} (h : SeqL S x (ns.map Dat.int)) (hp : ns.Perm ns') (hs : ns'.Pairwise (· ≤ ·)) : CallD K (rSortedI K) [x] S (.lst (ns'.map Dat.int)) S := fun B H as vs c r Q q => by
  cases r with
  | cons r1 rr =>
    cases rr
    obtain ⟨a, ws, rfl, hq, hr⟩ := h.read c r1
    rw [hr.ints] at hq
    refine ⟨a, ns, rfl, Evl.sq_of hq, fun ms p h1 h2 hpn => ?_⟩
    have e : ms = ns' := (h1.trans hp).eq_of_pairwise (fun a b _ _ h1 h2 => Int.le_antisymm h1 h2) h2 hs
    subst e
    have rr : ∀ ms : List Int, Reps K (upd B p (.lst (ms.map V.int))) (ms.map V.int) (ms.map Dat.int) := fun ms => by
      have : ∀ (ks : List Int) (B : Hp), Reps K B (ks.map V.int) (ks.map Dat.int) := fun ks B => by
        induction ks with
        | nil => exact .nil
        | cons k ks ih => exact .cons (.int k) ih
      exact this ms _
    exact q _ (upd B p (.lst (ms.map V.int))) _ (c.new hpn) (Evo.new c hpn) (.lst upd_same (rr ms))
theorem ix_seqK {X : Cx} (K : PySem.W.Frag) (h : X.K = K := by rfl) : IxR X (rIx K) := h ▸ ix_seq
theorem pi_seqK {X : Cx} (K : PySem.W.Frag) {tg l : Expr} {tl : TE} (hl : PE X l tl) (h : X.K = K := by rfl) : PI X tg l (iSeq K tl) := h ▸ pi_seq hl
theorem pt_truK {X : Cx} (K : PySem.W.Frag) {e : Expr} {ta : TE} (ha : PE X e ta) (h : X.K = K := by rfl) (he : ∀ whole, isTrue e X.env whole = (do let v ← whole; standAt e.pos; holding [v] (truthy v)) := by intro _; rfl) : PT X e (tTru K ta) := h ▸ pt_tru ha he
theorem call_lenK {X : Cx} (K : PySem.W.Frag) (h : X.K = K := by rfl) : CallR X (.builtin "len") (rLenD K) := h ▸ call_lenD
theorem call_tupK {X : Cx} (K : PySem.W.Frag) (hc : X.calm = true) (h : X.K = K := by rfl) : CallR X (.type "tuple") (rTupD K) := h ▸ call_tupD hc
end
end RW

set_option Elab.async false
set_option linter.all false
set_option maxRecDepth 100000
set_option maxHeartbeats 4000000
namespace RW
open PySem PySem.Spec PyProof.Rows L2
open Evl (Ex)
section
variable {K : PySem.W.Frag} {n : Nat} {te ta tb tc to ti tv : TE} {tt tu : TT} {tA tR : TA} {env env' : Env1} {S S1 S2 S3 : List Dat} {x y z : Sl} {d e : Dat} {ds es : List Dat} {r r' : R2} {P P' : Post} {t u : TS}
  {B B0 B1 B2 B' H H0 H1 H2 H' : Hp} {as as0 as1 : List Addr} {D : Ends} {σ : L2.St} {j k : Nat} {a b c : Bool}
theorem Evo.kept {p : Addr} {o : HO} (e : Evo B1 H1 as B2 H2) (hp : p ∉ as) (h1 : H1 p = some o) (hb : B1 p = none) : H2 p = some o ∧ B2 p = none :=
  ⟨e.fr p o hp h1, (e.gr p (by rw [h1]; simp)).trans hb⟩
/-- (xs, y) with xs a new list that will be changed -/
theorem sp_pairC (h : EvN K ta env S ds S1) (hv : Ev K tb env S1 y S2) (q : SP K n u ((env.set j (some (.c S2.length))).set k (some y)) (S2 ++ [.lst ds]) P) :
    SP K n (tSeq (tAsg (tTup (tCons ta (tCons tb tNil))) (gTup K 2 (gCons (gName j) (gCons (gName k) gNil)))) u) env S P := fun B0 H0 as0 Bk B H as σ hl f c g D m =>
  h B H as σ c g _ fun p B1 H1 vs c1 e1 hp hb h1 r1 => hv B1 H1 as σ c1 (g.mono e1.ex) _ fun w B2 H2 c2 e2 r2 => ⟨by show 2 ≤ sizeLine; decide, fun t ht => by
    have hpa : p ∉ as := c.fresh hp
    obtain ⟨k1, k2⟩ := e2.kept hpa h1 hb
    have c3 := c2.new (o := .tup [.ref p, w]) ht
    have e3 := Evo.new (o := .tup [.ref p, w]) c2 ht
    have e03 := (e1.trans e2).trans e3
    have npt : p ≠ t := by rintro rfl; rw [ht] at k1; cases k1
    refine ⟨t, _, rfl, Evl.st_of upd_same, rfl, _, _, rfl, _, _, rfl, rfl, ?_⟩
    refine q B0 H0 as0 Bk _ _ (as ++ [p]) _ hl ((f.step e03).push (f.evo.old hp)) (c3.push (by rw [upd_ne npt]; exact k2) hpa (.ofL (by rw [upd_ne npt]; exact k1) ((r1.mono e2.ex).mono e3.ex))) ((((g.mono e03.ex).grow).set (s := .c S2.length) j ?_).set k ((r2.mono e3.ex).grow)) D m
    exact ⟨p, by rw [← c2.len]; simp, rfl⟩⟩
/-- both new lists -/
theorem sp_pairCC (h : EvN K ta env S ds S1) (hv : EvN K tb env S1 es S2) (q : SP K n u ((env.set j (some (.c S2.length))).set k (some (.c (S2.length + 1)))) (S2 ++ [.lst ds] ++ [.lst es]) P) :
    SP K n (tSeq (tAsg (tTup (tCons ta (tCons tb tNil))) (gTup K 2 (gCons (gName j) (gCons (gName k) gNil)))) u) env S P := fun B0 H0 as0 Bk B H as σ hl f c g D m =>
  h B H as σ c g _ fun p B1 H1 vs c1 e1 hp hb h1 r1 => hv B1 H1 as σ c1 (g.mono e1.ex) _ fun p2 B2 H2 ws c2 e2 hp2 hb2 h2 r2 => ⟨by show 2 ≤ sizeLine; decide, fun t ht => by
    have hpa : p ∉ as := c.fresh hp
    have hpa2 : p2 ∉ as := c1.fresh hp2
    have hpp : p ≠ p2 := by rintro rfl; rw [hp2] at h1; cases h1
    obtain ⟨k1, k2⟩ := e2.kept hpa h1 hb
    have c3 := c2.new (o := .tup [.ref p, .ref p2]) ht
    have e3 := Evo.new (o := .tup [.ref p, .ref p2]) c2 ht
    have e03 := (e1.trans e2).trans e3
    have npt : p ≠ t := by rintro rfl; rw [ht] at k1; cases k1
    have npt2 : p2 ≠ t := by rintro rfl; rw [ht] at h2; cases h2
    refine ⟨t, _, rfl, Evl.st_of upd_same, rfl, _, _, rfl, _, _, rfl, rfl, ?_⟩
    have c4 := c3.push (p := p) (by rw [upd_ne npt]; exact k2) hpa (.ofL (by rw [upd_ne npt]; exact k1) ((r1.mono e2.ex).mono e3.ex))
    have c5 := c4.push (p := p2) (by rw [upd_ne npt2]; exact hb2) (by simp [hpa2, hpp.symm]) (.ofL (by rw [upd_ne npt2]; exact h2) (r2.mono e3.ex))
    have f4 := (f.step e03).push (f.evo.old hp)
    refine q B0 H0 as0 Bk _ _ (as ++ [p] ++ [p2]) _ hl (f4.push (f.evo.old (e1.old hp2))) c5 ((((g.mono e03.ex).grow).grow.set (s := .c S2.length) j ?_).set (s := .c (S2.length + 1)) k ?_) D m
    · exact ⟨p, by rw [← c2.len]; simp, rfl⟩
    · exact ⟨p2, by rw [← c2.len]; simp, rfl⟩⟩
end
end RW
namespace RW
open PySem PySem.Spec PyProof.Rows L2
section
variable {K : PySem.W.Frag} {te : TE} {tA : TA} {env : Env1} {S S1 S1' : List Dat} {r : Sl} {rs : List Sl} {ds : List Dat}
theorem Ev.toS (h : Ev K te env S r S1) (e : S1 = S1') : Ev K te env S r S1' := e ▸ h
theorem EvN.toS (h : EvN K te env S ds S1) (e : S1 = S1') : EvN K te env S ds S1' := e ▸ h
theorem EvA.toS (h : EvA K tA env S rs S1) (e : S1 = S1') : EvA K tA env S rs S1' := e ▸ h
theorem it_rangeN {m : Nat} (h : EvA K tA env S [.d (.int m)] S1) (hm : m ≤ 1000) : IterD K (iRng1 tA) env S G0 ((List.range m).map fun i => Dat.int (0 + (i : Nat))) S1 := by
  have := it_range1 h ⟨by omega, by omega⟩
  rwa [Int.toNat_natCast, rng_map] at this
end
end RW

set_option Elab.async false
set_option linter.all false
set_option maxRecDepth 100000
set_option maxHeartbeats 4000000
namespace RwT
open PySem PySem.Spec PyProof.Rows L2
theorem tuple_mul1 (l : Addr) (items : Array Value) (n : Nat) (dd : Option Addr) (sl : Array (Option Value)) (u : Tok) :
    Meets (Builtin.«tuple.__mul__» ⟨[.ref l, .int 1 u], []⟩) (fun _ R s => s.heap.get? l = some { cls := .type "tuple", dict := dd, data := .seq items n, slots := sl } ∧
      R (.ok (.ret (Value.ref l))) s) :=
  .of_wp fun prog w A R s h => by
    obtain ⟨hp, g, d, tk, os⟩ := s
    obtain ⟨hl, h⟩ := h
    have f1 := AutoSeq1.idx_int
    wp_walk using wpAny_loadPart' hl
    repeat (first
      | (refine wpAny_ite_false (decide_eq_false (by decide)) ?_; wp_walk using wpAny_loadPart' hl)
      | (refine wpAny_ite_true (by simp) ?_; wp_walk using wpAny_loadPart' hl))
    exact ⟨_, rfl, h⟩
/-- tuple * n, n from 1 on -/
def rRepA (K : PySem.W.Frag) : R2 := fun x y H Q => ∃ l k xs, x = .ref l ∧ y = .int k ∧ SqT K H l xs ∧ xs ≠ [] ∧ 1 ≤ k ∧ k ≤ 1000 ∧ xs.length ≤ 1000 ∧ (k = 1 → Q (.ref l) H) ∧ (2 ≤ k → ∀ p, H p = none → Q (.ref p) (upd H p (.tup (List.replicate k.toNat xs).flatten)))
theorem op_repA {X : Cx} : OpR X (binaryOp .Mult) (rRepA X.K) := by
  intro pins s σ H x y v u Q I rx ry h
  obtain ⟨l, k, xs, rfl, rfl, hT, hne, h1, h2, hz, q1, q2⟩ := h
  by_cases hk : 2 ≤ k
  · exact op_repT pins s σ H _ _ v u Q I rx ry ⟨l, k, xs, rfl, rfl, hT, hne, hk, h2, hz, q2 hk⟩
  obtain rfl : k = 1 := by omega
  cases rx
  obtain ⟨t, rfl⟩ := ry
  obtain ⟨its, r, ⟨⟨cls, dd, data, sl⟩, ho, hc, n, hd⟩, hs⟩ := I.tuple hT
  simp only at hc hd
  subst hc hd
  refine wpAny_binaryOp_repeat_ref (T := "tuple") (U := "int") (by decide) ⟨_, ho, rfl⟩ (fun s' => typeIs_int s' 1 t) noFill_tuple_mul F.fills_int_mul F.slot_int_rmul repeat_tuple F.slot_int_index.lookup
    (call_meets F.slot_int_rmul (typeIs_int s 1 t) F.entry_int_rmul (F.args_int_rmul_2 _ _) (int_rmul_tuple 1 t l its.toArray n dd sl)
      ⟨ho, rfl, ⟨_, ho, rfl⟩, call_meets F.slot_tuple_mul ⟨_, ho, rfl⟩ F.entry_tuple_mul (F.args_tuple_mul_2 _ _) (tuple_mul1 l its.toArray n dd sl t) ⟨ho, ?_⟩⟩)
  exact ⟨.ref l, _, I, rfl, q1 rfl⟩
end RwT
namespace RW
open PySem PySem.Spec PyProof.Rows L2
theorem o_repA {K : PySem.W.Frag} {S : List Dat} {ds : List Dat} {k : Int} (hne : ds ≠ []) (h1 : 1 ≤ k) (h2 : k ≤ 1000) (hz : ds.length ≤ 1000) : Op2 K (RwT.rRepA K) (.d (.tup ds)) (.d (.int k)) S (.tup (List.replicate k.toNat ds).flatten) := fun B H as v w c r1 r2 Q q => by
  cases r2
  cases r1 with
  | tup h1' rr =>
    refine ⟨_, _, _, rfl, rfl, Evl.ex_t c.ex h1', fun e => hne ((reps_ne rr).mp e), h1, h2, by rw [rr.length]; exact hz, fun e => ?_, fun _ p hp => ?_⟩
    · subst e
      have : (List.replicate (1 : Int).toNat ds).flatten = ds := by simp
      rw [this] at q
      exact q _ B H c Evo.refl (.tup h1' rr)
    · exact q _ (upd B p _) _ (c.new hp) (Evo.new c hp) (.tup (Evl.st_of upd_same) ((reps_rep rr _).mono (Evl.Ex.new (c.Bnone hp))))
end RW

set_option Elab.async false
set_option linter.all false
set_option maxRecDepth 100000
set_option maxHeartbeats 4000000
namespace RW
open PySem PySem.Spec PyProof.Rows L2
open Evl (Ex)
theorem it_down {K : PySem.W.Frag} {tA : TA} {env : Env1} {S S1 : List Dat} {m : Nat} (h : EvA K tA env S [.d (.int ((m : Int) - 1)), .d (.int (-1)), .d (.int (-1))] S1) (hm : m ≤ 1000) : IterD K (iRng3 tA) env S G0 (rngR 0 m) S1 := fun B H as σ c g R q =>
  h B H as σ c g _ fun vs B1 H1 c1 e1 r1 => by
    cases r1 with
    | cons r1 rr =>
      cases rr with
      | cons r2 rr =>
        cases rr with
        | cons r3 rr =>
          cases rr
          cases r1; cases r2; cases r3
          have hc : RgC ((m : Int) - 1) (-1) (-1) m := by
            have := RgC.neg (i := (m : Int) - 1) (j := -1) (by omega) (by omega) (by omega) (by omega)
            rwa [show ((m : Int) - 1 - -1).toNat = m by omega] at this
          have hw : WalkD K B1 (Itc (0 + (m : Int) - 1) (-1) m) (G0 as) (rngR 0 m) := walk_rngR
          rw [show (0 : Int) + (m : Int) - 1 = (m : Int) - 1 by omega] at hw
          exact ⟨_, _, _, m, rfl, hc, q _ B1 H1 c1 e1 hw⟩
end RW

set_option Elab.async false
set_option linter.all false
set_option maxRecDepth 100000
set_option maxHeartbeats 4000000
namespace RW
open PySem PySem.Spec PyProof.Rows L2
open Evl (Ex)
/-! ### x is True, x is False: whatever x is -/
def rIsX (neg : Bool) : R2 := fun x y H Q => ∃ b : Bool, y = .bl b ∧ Q (.bl (neg != decide (x = .bl b))) H
theorem plainIs_bl {x : V} {v : Value} {b : Bool} (r : RelV x v) : plainIs v (.bool b) = true ∧ (v == Value.bool b) = decide (x = .bl b) := by
  cases x with
  | bl c =>
    cases (show v = Value.bool c from r)
    refine ⟨rfl, ?_⟩
    by_cases e : c = b
    · subst e; simp
    · have h1 : ¬ (V.bl c = V.bl b) := fun z => e (V.bl.inj z)
      rw [decide_eq_false h1]
      exact beq_eq_false_iff_ne.mpr fun z => e (Value.bool.inj z)
  | non => cases (show v = Value.none from r); exact ⟨rfl, by rw [decide_eq_false (fun z => nomatch z)]; exact beq_eq_false_iff_ne.mpr fun z => nomatch z⟩
  | int i => obtain ⟨t, rfl⟩ := r; exact ⟨rfl, by rw [decide_eq_false (fun z => nomatch z)]; exact beq_eq_false_iff_ne.mpr fun z => nomatch z⟩
  | str i => obtain ⟨t, rfl⟩ := r; exact ⟨rfl, by rw [decide_eq_false (fun z => nomatch z)]; exact beq_eq_false_iff_ne.mpr fun z => nomatch z⟩
  | byt i => obtain ⟨t, rfl⟩ := r; exact ⟨rfl, by rw [decide_eq_false (fun z => nomatch z)]; exact beq_eq_false_iff_ne.mpr fun z => nomatch z⟩
  | flt i => obtain ⟨t, rfl⟩ := r; exact ⟨rfl, by rw [decide_eq_false (fun z => nomatch z)]; exact beq_eq_false_iff_ne.mpr fun z => nomatch z⟩
  | ref a => cases (show v = Value.ref a from r); exact ⟨rfl, by rw [decide_eq_false (fun z => nomatch z)]; exact beq_eq_false_iff_ne.mpr fun z => nomatch z⟩
  | ty n => cases (show v = Value.type n from r); exact ⟨rfl, by rw [decide_eq_false (fun z => nomatch z)]; exact beq_eq_false_iff_ne.mpr fun z => nomatch z⟩
theorem op_isX {X : Cx} : OpR X (compareOp .Is) (rIsX false) := by
  intro pins s σ H x y v u Q I rx ry h
  obtain ⟨b, rfl, q⟩ := h
  cases (show u = Value.bool b from ry)
  obtain ⟨h1, h2⟩ := plainIs_bl (b := b) rx
  refine wpAny_is_plain h1 ⟨.bl (decide (x = .bl b)), H, I, ?_, by simpa using q⟩
  rw [h2]; rfl
theorem op_notX {X : Cx} : OpR X (compareOp .IsNot) (rIsX true) := by
  intro pins s σ H x y v u Q I rx ry h
  obtain ⟨b, rfl, q⟩ := h
  cases (show u = Value.bool b from ry)
  obtain ⟨h1, h2⟩ := plainIs_bl (b := b) rx
  refine wpAny_isNot_plain h1 ⟨.bl (!decide (x = .bl b)), H, I, ?_, by simpa using q⟩
  rw [h2]; rfl
section
variable {K : PySem.W.Frag} {S : List Dat} {i : Int} {b c : Bool} {neg : Bool}
theorem o_isX_int : Op2 K (rIsX neg) (.d (.int i)) (.d (.bl b)) S (.bl neg) := fun B H as v w k h1 h2 Q q => by
  cases h1; cases h2
  refine ⟨b, rfl, ?_⟩
  have e : (neg != decide (V.int i = V.bl b)) = neg := by cases neg <;> rfl
  rw [e]
  exact q _ B H k Evo.refl (.bl _)
end
end RW

set_option Elab.async false
set_option linter.all false
set_option maxRecDepth 100000
set_option maxHeartbeats 4000000
namespace RwT
open PySem PySem.Spec PyProof.Rows L2
section
variable {prog : Program} {w : World} {A : Around} {E : Value → Shared → Prop} {s : Shared} {K : PySem.W.Frag} {x y C f : Addr} {ox oy : Obj} {od od' : Option Obj}
theorem entry_ne (hu : A.units < cLine) (X : K.In s.heap) (I : PySem.W.InstAt s.heap x ox C od) (hs : PySem.W.findIn K (.ref C) "__eq__" = some (some (.ref f))) (hf : PySem.W.isFn K (.ref f) = true) {Q : Fin → Shared → Prop}
    (hcall : wpAny (model prog w) A (call (.ref f) [.ref x, .ref y]) (fun v s' => ∃ b, v = .bool b ∧ Q (.done (.ret (.bool (!b)))) s') E s) :
    wpAny (model prog w) A (Builtin.«object.__ne__» ⟨[.ref x, .ref y], []⟩) Q E s := by
  unfold Builtin.«object.__ne__»
  repeat (first
    | with_reducible refine wpAny_cRoomFor hu ?_
    | (refine wpAny_bind (m := callSpecialIfBound? (.ref x) (Str.ofString "__eq__") [.ref y])
        (PySem.W.ifBound_K X I hs hf (wpAny_mono hcall (fun r s' hr => by
          obtain ⟨b, rfl, hq⟩ := hr
          repeat (first | exact hq | exact wpAny_pure hq | exact wpAny_truthy_bool hq | (refine wpAny_bind (m := truthy (.bool _)) (wpAny_truthy_bool ?_)) | wp_step)) fun _ _ e => e)))
    | wp_step)
theorem ifBound_objNe {M : Model} {args : List Value} {Q : Option Value → Shared → Prop} (X : K.In s.heap) (I : PySem.W.InstAt s.heap x ox C od) (hs : PySem.W.findIn K (.ref C) "__ne__" = some (some (.builtin "object.__ne__")))
    (h : wpAny M A (call (.builtin "object.__ne__") (.ref x :: args)) (fun v => Q (some v)) E s) : wpAny M A (callSpecialIfBound? (.ref x) "__ne__" args) Q E s := by
  simp only [callSpecialIfBound?, bindSpecialIfBound?]
  refine wpAny_holding (wpAny_bind (wpAny_bind (wpAny_bind (I.type.here ((PySem.W.looks_findIn X hs).here ?_)))))
  refine wpAny_bind (wpAny_askSetting (wpAny_ite ?_))
  have fin : wpAny M A (call (.builtin "object.__ne__") ([.ref x] ++ args) >>= fun v => pure (some v)) Q E s := wpAny_bind (wpAny_mono h (fun v s' h' => wpAny_pure h') fun _ _ h' => h')
  split
  · exact wpAny_bind (wpAny_of_eq (F.cmp_object.ne.bind _) (wpAny_pure (by exact fin)))
  · exact wpAny_tryCatch (wpAny_bind (wpAny_of_eq (F.cmp_object.ne.bind _) (wpAny_pure (by exact fin))))
theorem rich_ne (hu : A.units + 1 < cLine) (X : K.In s.heap) (I : PySem.W.InstAt s.heap x ox C od) (I' : PySem.W.InstAt s.heap y oy C od') (hm : PySem.W.mroIn K C (.type "object") = some true)
    (hn : PySem.W.findIn K (.ref C) "__ne__" = some (some (.builtin "object.__ne__"))) (hs : PySem.W.findIn K (.ref C) "__eq__" = some (some (.ref f))) (hf : PySem.W.isFn K (.ref f) = true) {Q : Value → Shared → Prop}
    (hcall : wpAny (model prog w) A.in1 (call (.ref f) [.ref x, .ref y]) (fun v s' => ∃ b, v = .bool b ∧ Q (.bool (!b)) s') E s) :
    wpAny (model prog w) A (richCompare .NotEq (.ref x) (.ref y)) Q E s := by
  have one : wpAny (model prog w) A (tryCompare (.ref x) "__ne__" (.ref y)) (fun r s' => ∃ b, r = some (Value.bool b) ∧ Q (.bool b) s') E s := by
    unfold tryCompare
    refine wpAny_bind (ifBound_objNe X I hn (wpAny_call (codeAny_call_builtin F.cmp_object.ne.plain F.cmpEntry_ne (PySem.W.check_slot F.cmpKind_ne F.cmpSplit_ne (I.type.andThen (PySem.W.looks_mroIn X hm)) (F.cmpArgs_ne _ _)
      (entry_ne (A := A.in1) hu X I hs hf (wpAny_mono hcall (fun v s' hv => ?_) fun _ _ e => e))))))
    obtain ⟨b, rfl, hq⟩ := hv
    first | exact ⟨b, rfl, wpAny_pure ⟨_, rfl, hq⟩⟩ | exact ⟨b, rfl, wpAny_pure (wpAny_pure ⟨_, rfl, hq⟩)⟩
  unfold richCompare
  simp only [oneThing_ref]
  refine wpAny_holding (wpAny_bind (wpAny_cRoomFor (Nat.lt_of_succ_lt hu) ?_))
  rw [cmpInfo_NotEq]
  dsimp only
  refine wpAny_bind (I.type.here (wpAny_bind (I'.type.here ?_)))
  rw [show (Value.ref C != Value.ref C) = false from by simp]
  simp only [Bool.false_eq_true, if_false]
  refine wpAny_bind (wpAny_pure ?_)
  simp only [Bool.false_eq_true, if_false]
  refine wpAny_bind (wpAny_mono one (fun v s' hv => ?_) fun _ _ e => e)
  obtain ⟨b, rfl, hq⟩ := hv
  first | exact wpAny_pure hq | exact wpAny_pure (wpAny_pure hq)
end
/-- what is known of a class with an own == -/
structure OwnC (K : PySem.W.Frag) (C f : Addr) : Prop where
  eq : PySem.W.findIn K (.ref C) "__eq__" = some (some (.ref f))
  fn : PySem.W.isFn K (.ref f) = true
  ne : PySem.W.findIn K (.ref C) "__ne__" = some (some (.builtin "object.__ne__"))
  ob : PySem.W.mroIn K C (.type "object") = some true
  sub : PySem.W.notFirst K C (.ref C) = true
def rOwn (C : Addr) (sp : Sp) (E : XK) (neg : Bool) : R2 := fun x y H Q => ∃ a b dx dy fs gs, x = .ref a ∧ y = .ref b ∧ H a = some (.ins C dx fs) ∧ H b = some (.ins C dy gs) ∧ sp [.ref a, .ref b] H (fun v H' => ∃ k, v = .bl k ∧ Q (.bl (neg != k)) H') E
section
variable {X : Cx} {CX : CXT} {n : Nat} {C f : Addr} {fd : FuncData} {ps : List Str} {sp : Sp} {E : XK}
theorem call_own {A : Around} (hr : Room n A) (hA : A.frames = X.A.frames) (F : FnOk X.prog X.w X.K X.mg X.base CX n f fd ps sp) (hb : L2.Binds X.K fd ps []) (hx : Passes CX X E) {pins : List (Addr × Obj)} {σ : L2.St} {H : Hp} {s : Shared} (I : Inv X pins σ H s) {a b : Addr} {Q : VK} (h : sp [.ref a, .ref b] H Q E) :
    wpAny (model X.prog X.w) A (call (.ref f) [.ref a, .ref b]) (EP X pins σ Q) X.xe s := by
  have e0 : Env0 X.prog X.w X.K X.mg X.base A X.stack s H := by
    have e := I.env0
    exact ⟨by rw [hA]; exact e.frames, e.mod, e.bs, e.bsz, e.funs, e.frf, e.hok, e.bare⟩
  have hl := F.len _ _ _ _ h
  have r2 : Vals [V.ref a, V.ref b] [Value.ref a, Value.ref b] := .cons rfl (.cons rfl .nil)
  refine wpAny_call (codeAny_mono (F.run A X.stack s H ⟨[.ref a, .ref b], []⟩ [.ref a, .ref b] [.ref a, .ref b] _ E hr e0 (by
    have := hb s [.ref a, .ref b] I.kIn (by simpa using hl)
    simpa using this) r2 h) fun r s' hq => ?_)
  cases r with
  | error e => exact hx pins σ H s e s' I hq
  | ok fl =>
    cases fl with
    | ret w => exact I.after hq
    | next => exact False.elim hq
    | brk => exact False.elim hq
    | cont => exact False.elim hq
theorem op_ownEq (O : OwnC X.K C f) (hr : Room n X.A) (F : FnOk X.prog X.w X.K X.mg X.base CX n f fd ps sp) (hb : L2.Binds X.K fd ps []) (hx : Passes CX X E) : OpR X (compareOp .Eq) (rOwn C sp E false) := by
  intro pins s σ H x y v u Q I rx ry h
  obtain ⟨a, b, dx, dy, fs, gs, rfl, rfl, ha, hb', hp⟩ := h
  cases rx
  cases ry
  obtain ⟨mA, J, _⟩ := ins_get I.hok ha
  obtain ⟨mB, J', _⟩ := ins_get I.hok hb'
  obtain ⟨od, J, _⟩ := J.look
  obtain ⟨od', J', _⟩ := J'.look
  obtain ⟨m, hF⟩ := I.fr
  show wpAny (model X.prog X.w) X.A (richCompare .Eq (.ref a) (.ref b)) (EP X pins σ Q) X.xe s
  refine PySem.W.cmp_K (op := .Eq) (tb := .ref C) hr.units0 hF I.ok.mod.kin J J'.type O.sub O.eq O.fn ?_
  refine wpAny_mono (call_own hr rfl F hb hx I hp) (fun r s' q => ?_) fun _ _ x => x
  obtain ⟨z, H', I', rz, k, ez, q⟩ := q
  subst ez
  cases rz
  exact ⟨.bl k, H', I', rfl, by simpa using q⟩
theorem op_ownNe (O : OwnC X.K C f) (hr : Room (n + 1) X.A) (F : FnOk X.prog X.w X.K X.mg X.base CX n f fd ps sp) (hb : L2.Binds X.K fd ps []) (hx : Passes CX X E) : OpR X (compareOp .NotEq) (rOwn C sp E true) := by
  intro pins s σ H x y v u Q I rx ry h
  obtain ⟨a, b, dx, dy, fs, gs, rfl, rfl, ha, hb', hp⟩ := h
  cases rx
  cases ry
  obtain ⟨mA, J, _⟩ := ins_get I.hok ha
  obtain ⟨mB, J', _⟩ := ins_get I.hok hb'
  obtain ⟨od, J, _⟩ := J.look
  obtain ⟨od', J', _⟩ := J'.look
  show wpAny (model X.prog X.w) X.A (richCompare .NotEq (.ref a) (.ref b)) (EP X pins σ Q) X.xe s
  refine rich_ne (by have := hr.un; omega) I.kIn J J' O.ob O.ne O.eq O.fn ?_
  refine wpAny_mono (call_own hr.in1 rfl F hb hx I hp) (fun r s' q => ?_) fun _ _ x => x
  obtain ⟨z, H', I', rz, k, ez, q⟩ := q
  subst ez
  cases rz
  exact ⟨k, rfl, .bl (!k), H', I', rfl, by simpa using q⟩
end
end RwT
namespace RW
open PySem PySem.Spec PyProof.Rows L2
theorem o_own {K : PySem.W.Frag} {C : Addr} {G : List Sl → List Dat → Dat → List Dat → Prop} {E : XK} {neg k : Bool} {S : List Dat} {fs gs : List (Str × Dat)} (hg : G [.d (.ins C fs), .d (.ins C gs)] S (.bl k) S) :
    Op2 K (RwT.rOwn C (SpD K G) E neg) (.d (.ins C fs)) (.d (.ins C gs)) S (.bl (neg != k)) := fun B H as v w c r1 r2 Q q => by
  cases r1 with
  | ins h1 q1 =>
    cases r2 with
    | ins h2 q2 =>
      refine ⟨_, _, _, _, _, _, rfl, rfl, c.ex _ _ h1, c.ex _ _ h2, B, as, S, [.d (.ins C fs), .d (.ins C gs)], _, S, c, .cons (Rep.ins h1 q1 : Rep K B _ (.ins C fs)) (.cons (Rep.ins h2 q2 : Rep K B _ (.ins C gs)) .nil), hg, fun v B' H' c' e' r' => ?_⟩
      cases r'
      exact ⟨k, rfl, q _ B' H' c' e' (.bl _)⟩
end RW

set_option Elab.async false
set_option linter.all false
set_option maxRecDepth 100000
set_option maxHeartbeats 4000000
namespace RW
open PySem PySem.Spec PyProof.Rows L2
section
variable {K : PySem.W.Frag} {te ta tb to : TE} {tA : TA} {env : Env1} {S S1 S2 : List Dat} {x y : Sl} {a b acc out : Str} {ts : List TE} {i : Int}
/-! ### texts -/
theorem ev_fmtS (h : Ev K te env S (.d (.str a)) S1) (hl : a.length ≤ sizeLine) : Ev K (tFmt te) env S (.d (.str a)) S1 := fun B H as σ c g Q q =>
  h B H as σ c g _ fun v B1 H1 c1 e1 r1 => by
    cases r1
    exact .inl ⟨a, rfl, hl, q _ B1 H1 c1 e1 (.str a)⟩
theorem ev_fmtI (h : Ev K te env S (.d (.int i)) S1) (hl : i.natAbs.log2 < 1920) : Ev K (tFmt te) env S (.d (.str (Str.ofString (toString i)))) S1 := fun B H as σ c g Q q =>
  h B H as σ c g _ fun v B1 H1 c1 e1 r1 => by
    cases r1
    exact .inr ⟨i, rfl, hl, q _ B1 H1 c1 e1 (.str _)⟩
/-- the parts of an f-string, behind acc -/
def EvJ (K : PySem.W.Frag) (ts : List TE) (env : Env1) (S : List Dat) (acc out : Str) (S' : List Dat) : Prop :=
  ∀ B H as σ, Ok K B H as S → EnvR K B as σ env → ∀ Q : Str → Hp → Prop, (∀ B' H', Ok K B' H' as S' → Evo B H as B' H' → Q out H') → tJs ts acc σ H Q
theorem js_nil : EvJ K [] env S acc acc S := fun B H as σ c g Q q => q B H c Evo.refl
theorem js_cons {t : TE} (h : Ev K t env S (.d (.str a)) S1) (hl : (acc ++ a).length ≤ sizeLine) (k : EvJ K ts env S1 (acc ++ a) out S2) : EvJ K (t :: ts) env S acc out S2 := fun B H as σ c g Q q =>
  h B H as σ c g _ fun v B1 H1 c1 e1 r1 => by
    cases r1
    exact ⟨a, rfl, hl, k B1 H1 as σ c1 (g.mono e1.ex) _ fun B2 H2 c2 e2 => q B2 H2 c2 (e1.trans e2)⟩
theorem ev_joined (h : EvJ K ts env S Str.empty out S1) : Ev K (fun σ H Q => tJs ts Str.empty σ H fun out H1 => Q (.str out) H1) env S (.d (.str out)) S1 := fun B H as σ c g Q q =>
  h B H as σ c g _ fun B1 H1 c1 e1 => q _ B1 H1 c1 e1 (.str out)
/-- str(i) -/
def rStrI : List V → Hp → VK → Prop := fun xs H Q => ∃ i : Int, xs = [.int i] ∧ i.natAbs.log2 < 1920 ∧ Q (.str (Str.ofString (toString i))) H
theorem call_strI {X : Cx} : CallR X (.type "str") rStrI := call_str_int
theorem cd_strI (hl : i.natAbs.log2 < 1920) : CallD K rStrI [.d (.int i)] S (.str (Str.ofString (toString i))) S := fun B H as vs c r Q q => by
  cases r with
  | cons r1 rr =>
    cases rr; cases r1
    exact ⟨i, rfl, hl, q _ B H c Evo.refl (.str _)⟩
def rAddS : R2 := fun x y H Q => ∃ i j, x = V.str i ∧ y = V.str j ∧ i.length + j.length ≤ sizeLine ∧ Q (V.str (i ++ j)) H
theorem op_addS {X : Cx} : OpR X (binaryOp .Add) rAddS := op_add_str
theorem o_addS (hl : a.length + b.length ≤ sizeLine) : Op2 K rAddS (.d (.str a)) (.d (.str b)) S (.str (a ++ b)) := fun B H as v w c r1 r2 Q q => by
  cases r1; cases r2
  exact ⟨a, b, rfl, rfl, hl, q _ B H c Evo.refl (.str _)⟩
theorem Reps.strs {B : Hp} : ∀ {vs : List V} {ys : List Str}, Reps K B vs (ys.map Dat.str) → vs = ys.map V.str
  | _, [], .nil => rfl
  | _, y :: ys, .cons h r => by
    cases h
    rw [List.map_cons, Reps.strs r]
/-- sep.join(xs) -/
def rJoinD (K : PySem.W.Frag) : V → List V → Hp → VK → Prop := fun x xs H Q => ∃ a p ys, x = V.str a ∧ xs = [V.ref p] ∧ (SqL K H p (List.map V.str ys) ∨ SqT K H p (List.map V.str ys)) ∧ (List.map (fun x => x.length) ys).sum + ys.length * a.length ≤ 16777216 ∧ Q (V.str (Txt.join a ys)) H
theorem pe_joinK {X : Cx} (K : PySem.W.Frag) {o e : Expr} {to te : TE} {apos pos : Pos} (ho : PE X o to) (he : PE X e te) (hK : X.K = K := by rfl) (hs : starEach [e] X.env = [(false, eval e X.env)] := by rfl)
    (hb : attributeBase o (Str.ofString "join") X.env (eval o X.env) = eval o X.env := by rfl) (hl : (apos.endLine == pos.line) = true := by rfl) : PE X ((o.Attribute (Str.ofString "join") apos).Call [e] [] pos) (tM1 (rJoinD K) to te) := hK ▸ pe_join ho he hs hb hl
theorem ev_join {ys : List Str} (ho : Ev K to env S (.d (.str a)) S1) (h : Ev K te env S1 x S2) (hx : SeqL S2 x (ys.map Dat.str)) (hl : (ys.map fun x => x.length).sum + ys.length * a.length ≤ 16777216) : Ev K (tM1 (rJoinD K) to te) env S (.d (.str (Txt.join a ys))) S2 := fun B H as σ c g Q q =>
  ho B H as σ c g _ fun v B1 H1 c1 e1 r1 => by
    cases r1
    refine ⟨⟨a, rfl⟩, h B1 H1 as σ c1 (g.mono e1.ex) _ fun w B2 H2 c2 e2 r2 => ?_⟩
    obtain ⟨p, ws, rfl, hq, hr⟩ := hx.read c2 r2
    rw [hr.strs] at hq
    exact ⟨a, p, ys, rfl, rfl, .inl (Evl.sq_of hq), hl, q _ B2 H2 c2 (e1.trans e2) (.str _)⟩
end
end RW

namespace RwT
open PySem PySem.Spec PyProof.Rows L2
/-- str(o), o of an own class with a __str__ -/
def rStrO (C : Addr) (sp : Sp) (E : XK) : List V → Hp → VK → Prop := fun xs H Q => ∃ a dx fs, xs = [.ref a] ∧ H a = some (.ins C dx fs) ∧ sp [.ref a] H (fun v H' => ∃ t, v = .str t ∧ Q (.str t) H') E
section
variable {X : Cx} {CX : CXT} {n : Nat} {C f : Addr} {fd : FuncData} {ps : List Str} {sp : Sp} {E : XK}
theorem call_own1 {A : Around} (hr : Room n A) (hA : A.frames = X.A.frames) (F : FnOk X.prog X.w X.K X.mg X.base CX n f fd ps sp) (hb : L2.Binds X.K fd ps []) (hx : Passes CX X E) {pins : List (Addr × Obj)} {σ : L2.St} {H : Hp} {s : Shared} (I : Inv X pins σ H s) {a : Addr} {Q : VK} (h : sp [.ref a] H Q E) :
    wpAny (model X.prog X.w) A (call (.ref f) [.ref a]) (EP X pins σ Q) X.xe s := by
  have e0 : Env0 X.prog X.w X.K X.mg X.base A X.stack s H := by
    have e := I.env0
    exact ⟨by rw [hA]; exact e.frames, e.mod, e.bs, e.bsz, e.funs, e.frf, e.hok, e.bare⟩
  have hl := F.len _ _ _ _ h
  have r2 : Vals [V.ref a] [Value.ref a] := .cons rfl .nil
  refine wpAny_call (codeAny_mono (F.run A X.stack s H ⟨[.ref a], []⟩ [.ref a] [.ref a] _ E hr e0 (by
    have := hb s [.ref a] I.kIn (by simpa using hl)
    simpa using this) r2 h) fun r s' hq => ?_)
  cases r with
  | error e => exact hx pins σ H s e s' I hq
  | ok fl =>
    cases fl with
    | ret w => exact I.after hq
    | next => exact False.elim hq
    | brk => exact False.elim hq
    | cont => exact False.elim hq
theorem call_strO (hs : PySem.W.findIn X.K (.ref C) "__str__" = some (some (.ref f))) (hf : PySem.W.isFn X.K (.ref f) = true) (hr : Room (n + 2) X.A) (F : FnOk X.prog X.w X.K X.mg X.base CX n f fd ps sp) (hb : L2.Binds X.K fd ps []) (hx : Passes CX X E) : CallR X (.type "str") (rStrO C sp E) := by
  intro pins s σ H xs us Q I r h
  obtain ⟨a, dx, fs, rfl, ha, hp⟩ := h
  obtain ⟨u, rfl, r1⟩ := vals1 r
  cases r1
  obtain ⟨mA, J, _⟩ := ins_get I.hok ha
  obtain ⟨od, J, _⟩ := J.look
  have hr2 : Room n X.A.in1.in1 := (show Room (n + 1) X.A.in1 from Room.in1 hr).in1
  refine PySem.W.kso_call (by have := hr2.un; omega) I.kIn J hs hf ?_
  refine wpAny_mono (call_own1 hr2 rfl F hb hx I hp) (fun r s' q => ?_) fun _ _ x => x
  obtain ⟨z, H', I', rz, t, ez, q⟩ := q
  subst ez
  obtain ⟨tk, rfl⟩ := rz
  exact ⟨.str t, H', I', ⟨tk, rfl⟩, q⟩
end
end RwT
namespace RW
open PySem PySem.Spec PyProof.Rows L2
theorem cd_strO {K : PySem.W.Frag} {C : Addr} {G : List Sl → List Dat → Dat → List Dat → Prop} {E : XK} {S : List Dat} {fs : List (Str × Dat)} {t : Str} (hg : G [.d (.ins C fs)] S (.str t) S) :
    CallD K (RwT.rStrO C (SpD K G) E) [.d (.ins C fs)] S (.str t) S := fun B H as vs c r Q q => by
  cases r with
  | cons r1 rr =>
    cases rr
    cases r1 with
    | ins h1 q1 =>
      refine ⟨_, _, _, rfl, c.ex _ _ h1, B, as, S, [.d (.ins C fs)], _, S, c, .cons (Rep.ins h1 q1 : Rep K B _ (.ins C fs)) .nil, hg, fun v B' H' c' e' r' => ?_⟩
      cases r'
      exact ⟨t, rfl, q _ B' H' c' e' (.str _)⟩
end RW

set_option Elab.async false
set_option linter.all false
set_option maxRecDepth 100000
set_option maxHeartbeats 4000000
namespace RW
open PySem PySem.Spec PyProof.Rows L2
/-! rules inside comprehensions, with K given -/
theorem cr_sumK {X : Cx} (K : PySem.W.Frag) (hc : X.calm = true := by rfl) (h : X.K = K := by rfl) : CallR X (.builtin "sum") (rSum K) := h ▸ cr_sum hc
theorem cr_allK {X : Cx} (K : PySem.W.Frag) (hc : X.calm = true := by rfl) (h : X.K = K := by rfl) : CallR X (.builtin "all") (rAll K) := h ▸ cr_all hc
theorem cr_anyK {X : Cx} (K : PySem.W.Frag) (hc : X.calm = true := by rfl) (h : X.K = K := by rfl) : CallR X (.builtin "any") (rAny K) := h ▸ cr_any hc
theorem pi_zipGK {X : Cx} (K : PySem.W.Frag) {e e2 : Expr} {ta : TA} {p pos tpos : Pos} {elts : List Expr} {kk : Nat} (hg : Gl X "zip") (hm : X.mg "zip" = none) (ha : PA X [e, e2] ta) (h : X.K = K := by rfl)
    (hs : starEach [e, e2] X.env = (false, eval e X.env) :: starEach [e2] X.env := by rfl) (hpl : (backTo pos (starEach [e2] X.env)).any (·.1) = false := by rfl) :
    PI X (.Tuple elts kk tpos) (.Call (.Name "zip" p) [e, e2] [] pos) (iZipG K ta) := h ▸ pi_zipG hg hm ha hs hpl
theorem op_eqDK {X : Cx} (K : PySem.W.Frag) (hu : X.A.units + 64 < cLine) (h : X.K = K := by rfl) : OpR X (compareOp .Eq) (rEqD K) := h ▸ op_eqD hu
theorem op_neDK {X : Cx} (K : PySem.W.Frag) (hu : X.A.units + 64 < cLine) (h : X.K = K := by rfl) : OpR X (compareOp .NotEq) (rNeD K) := h ▸ op_neD hu
theorem EvN.toD {K : PySem.W.Frag} {te : TE} {env : Env1} {S S1 ds ds' : List Dat} (h : EvN K te env S ds S1) (e : ds = ds') : EvN K te env S ds' S1 := e ▸ h
theorem Ev.to' {K : PySem.W.Frag} {te : TE} {env : Env1} {S S1 S1' : List Dat} {r r' : Sl} (h : Ev K te env S r S1) (e : r = r') (e2 : S1 = S1') : Ev K te env S r' S1' := e ▸ e2 ▸ h
end RW

set_option Elab.async false
set_option linter.all false
set_option maxRecDepth 100000
set_option maxHeartbeats 4000000
/-! an own == beside whatever stands on its right -/
namespace RwT
open PySem PySem.Spec PyProof.Rows L2
inductive TyB (K : PySem.W.Frag) (H : Hp) : V → Value → Prop where
  | non : TyB K H .non (.type "NoneType")
  | int (i : Int) : TyB K H (.int i) (.type "int")
  | bl (b : Bool) : TyB K H (.bl b) (.type "bool")
  | str (z : Str) : TyB K H (.str z) (.type "str")
  | tup {a : Addr} {xs : List V} (h : SqT K H a xs) : TyB K H (.ref a) (.type "tuple")
  | ins {a C dx : Addr} {fs : List (Str × V)} (h : H a = some (.ins C dx fs)) : TyB K H (.ref a) (.ref C)
def rOwnA (K : PySem.W.Frag) (C : Addr) (sp : Sp) (E : XK) : R2 := fun x y H Q => ∃ a dx fs tb, x = .ref a ∧ H a = some (.ins C dx fs) ∧ TyB K H y tb ∧ PySem.W.notFirst K C tb = true ∧ sp [.ref a, y] H (fun v H' => ∃ k, v = .bl k ∧ Q (.bl k) H') E
section
variable {X : Cx} {CX : CXT} {n : Nat} {C f : Addr} {fd : FuncData} {ps : List Str} {sp : Sp} {E : XK}
theorem tyB_looks {M : Model} {pins : List (Addr × Obj)} {σ : L2.St} {H : Hp} {s : Shared} {y : V} {u tb : Value} (I : Inv X pins σ H s) (ry : RelV y u) (t : TyB X.K H y tb) : PySem.W.Looks M s.heap (typeOf u) tb := by
  cases t with
  | non => cases (show u = Value.none from ry); exact .of_pure rfl
  | int i => obtain ⟨tk, rfl⟩ := (show ∃ tk, u = Value.int i tk from ry); exact .of_pure rfl
  | bl b => cases (show u = Value.bool b from ry); exact .of_pure rfl
  | str z => obtain ⟨tk, rfl⟩ := (show ∃ tk, u = Value.str z tk from ry); exact .of_pure rfl
  | tup h =>
    cases (show u = Value.ref _ from ry)
    obtain ⟨its, rv, ⟨o, e, c, _⟩, _⟩ := I.tuple h
    exact c ▸ (PySem.W.Looks.ld e).andThen .now
  | ins h =>
    cases (show u = Value.ref _ from ry)
    obtain ⟨mA, J, _⟩ := ins_get I.hok h
    obtain ⟨od, J, _⟩ := J.look
    exact J.type
theorem call_ownV {A : Around} (hr : Room n A) (hA : A.frames = X.A.frames) (F : FnOk X.prog X.w X.K X.mg X.base CX n f fd ps sp) (hb : L2.Binds X.K fd ps []) (hx : Passes CX X E) {pins : List (Addr × Obj)} {σ : L2.St} {H : Hp} {s : Shared} (I : Inv X pins σ H s) {a : Addr} {y : V} {u : Value} (ry : RelV y u) {Q : VK} (h : sp [.ref a, y] H Q E) :
    wpAny (model X.prog X.w) A (call (.ref f) [.ref a, u]) (EP X pins σ Q) X.xe s := by
  have e0 : Env0 X.prog X.w X.K X.mg X.base A X.stack s H := by
    have e := I.env0
    exact ⟨by rw [hA]; exact e.frames, e.mod, e.bs, e.bsz, e.funs, e.frf, e.hok, e.bare⟩
  have hl := F.len _ _ _ _ h
  have r2 : Vals [V.ref a, y] [Value.ref a, u] := .cons rfl (.cons ry .nil)
  refine wpAny_call (codeAny_mono (F.run A X.stack s H ⟨[.ref a, u], []⟩ [.ref a, u] [.ref a, y] _ E hr e0 (by
    have := hb s [.ref a, u] I.kIn (by simpa using hl)
    simpa using this) r2 h) fun r s' hq => ?_)
  cases r with
  | error e => exact hx pins σ H s e s' I hq
  | ok fl =>
    cases fl with
    | ret w => exact I.after hq
    | next => exact False.elim hq
    | brk => exact False.elim hq
    | cont => exact False.elim hq
theorem op_ownEqA (O : OwnC X.K C f) (hr : Room n X.A) (F : FnOk X.prog X.w X.K X.mg X.base CX n f fd ps sp) (hb : L2.Binds X.K fd ps []) (hx : Passes CX X E) : OpR X (compareOp .Eq) (rOwnA X.K C sp E) := by
  intro pins s σ H x y v u Q I rx ry h
  obtain ⟨a, dx, fs, tb, rfl, ha, ty, hn, hp⟩ := h
  cases rx
  obtain ⟨mA, J, _⟩ := ins_get I.hok ha
  obtain ⟨od, J, _⟩ := J.look
  obtain ⟨m, hF⟩ := I.fr
  show wpAny (model X.prog X.w) X.A (richCompare .Eq (.ref a) u) (EP X pins σ Q) X.xe s
  refine PySem.W.cmp_K (op := .Eq) (tb := tb) hr.units0 hF I.ok.mod.kin J (tyB_looks I ry ty) hn O.eq O.fn ?_
  refine wpAny_mono (call_ownV hr rfl F hb hx I ry hp) (fun r s' q => ?_) fun _ _ x => x
  obtain ⟨z, H', I', rz, k, ez, q⟩ := q
  subst ez
  cases rz
  exact ⟨.bl k, H', I', rfl, by simpa using q⟩
theorem op_ownEqAK {K : PySem.W.Frag} (O : OwnC X.K C f) (hr : Room n X.A) (F : FnOk X.prog X.w X.K X.mg X.base CX n f fd ps sp) (hb : L2.Binds X.K fd ps []) (hx : Passes CX X E) (h : X.K = K := by rfl) : OpR X (compareOp .Eq) (rOwnA K C sp E) := h ▸ op_ownEqA O hr F hb hx
end
end RwT
namespace RW
open PySem PySem.Spec PyProof.Rows L2
/-- what is known of the kinds on the right -/
structure NotSub (K : PySem.W.Frag) (C : Addr) : Prop where
  non : PySem.W.notFirst K C (.type "NoneType") = true
  int : PySem.W.notFirst K C (.type "int") = true
  tup : PySem.W.notFirst K C (.type "tuple") = true
  self : PySem.W.notFirst K C (.ref C) = true
theorem kt_of {K : PySem.W.Frag} {C : Addr} {N : String} (h1 : PySem.W.isClsIn K C = true) (h2 : PySem.W.typeIn K (.ref C) = some (.type "type")) (h3 : PySem.W.subIn K (.type N) (.ref C) = some false) : PySem.W.kitOne K (.type N) (.ref C) = some false := by
  unfold PySem.W.kitOne
  rw [if_neg (by simp)]
  show (if ((PySem.W.clsIn K C).isSome && PySem.W.typeIn K (.ref C) == some (.type "type")) = true then _ else _) = _
  have h4 : (PySem.W.clsIn K C).isSome = true := h1
  rw [h4, h2, if_pos (by simp), h3]
inductive RightD (C : Addr) : Dat → Prop where
  | non : RightD C .non
  | int (i : Int) : RightD C (.int i)
  | tup (ds : List Dat) : RightD C (.tup ds)
  | ins (fs : List (Str × Dat)) : RightD C (.ins C fs)
theorem o_ownA {K : PySem.W.Frag} {C : Addr} {G : List Sl → List Dat → Dat → List Dat → Prop} {E : XK} {k : Bool} {S : List Dat} {fs : List (Str × Dat)} {d : Dat} (N : NotSub K C) (hd : RightD C d) (hg : G [.d (.ins C fs), .d d] S (.bl k) S) :
    Op2 K (RwT.rOwnA K C (SpD K G) E) (.d (.ins C fs)) (.d d) S (.bl k) := fun B H as v w c r1 r2 Q q => by
  cases r1 with
  | ins h1 q1 =>
    have fin : ∀ tb, RwT.TyB K H w tb → PySem.W.notFirst K C tb = true → RwT.rOwnA K C (SpD K G) E (.ref _) w H Q := fun tb ty hn =>
      ⟨_, _, _, tb, rfl, c.ex _ _ h1, ty, hn, B, as, S, [.d (.ins C fs), .d d], _, S, c, .cons (Rep.ins h1 q1 : Rep K B _ (.ins C fs)) (.cons r2 .nil), hg, fun v B' H' c' e' r' => by cases r'; exact ⟨k, rfl, q _ B' H' c' e' (.bl _)⟩⟩
    cases hd with
    | non => cases r2; exact fin _ .non N.non
    | int i => cases r2; exact fin _ (.int i) N.int
    | tup ds => cases r2 with
      | tup h2 _ => exact fin _ (.tup (Evl.ex_t c.ex h2)) N.tup
    | ins gs => cases r2 with
      | ins h2 _ => exact fin _ (.ins (c.ex _ _ h2)) N.self
end RW

set_option Elab.async false
set_option linter.all false
set_option maxRecDepth 100000
set_option maxHeartbeats 4000000
namespace RW
open PySem PySem.Spec PyProof.Rows L2 StX
theorem RepSs.mapd {K : PySem.W.Frag} {B : Hp} {as : List Addr} : ∀ {vs : List V} {ds : List Dat}, Reps K B vs ds → RepSs K B as vs (ds.map Sl.d)
  | _, _, .nil => .nil
  | _, _, .cons h r => .cons h (RepSs.mapd r)
/-- *xs in a display, xs a tuple -/
theorem ea_star {K : PySem.W.Frag} {te : TE} {tA : TA} {env : Env1} {S S1 S2 : List Dat} {ds : List Dat} {xs : List Sl} (h : Ev K te env S (.d (.tup ds)) S1) (hr : EvA K tA env S1 xs S2) : EvA K (tStar K te tA) env S (ds.map Sl.d ++ xs) S2 := fun B H as σ c g Q q =>
  h B H as σ c g _ fun v B1 H1 c1 e1 r1 => by
    cases r1 with
    | tup h1 q1 => exact ⟨_, _, rfl, .inl (Evl.ex_t c1.ex h1), hr B1 H1 as σ c1 (g.mono e1.ex) _ fun vs B2 H2 c2 e2 r2 => q _ B2 H2 c2 (e1.trans e2) ((RepSs.mapd (q1.mono e2.ex)).append r2)⟩
end RW

set_option Elab.async false
set_option linter.all false
set_option maxRecDepth 100000
set_option maxHeartbeats 4000000
namespace RW
open PySem PySem.Spec PyProof.Rows L2
open Evl (Ex)
section
variable {K : PySem.W.Frag} {n : Nat} {te ta tb tc to ti tv : TE} {env env' : Env1} {S S1 S2 S3 : List Dat} {x y z : Sl} {d e : Dat} {ds es : List Dat} {P P' : Post} {t u : TS}
  {B B0 B1 B2 B' H H0 H1 H2 H' : Hp} {as as0 as1 : List Addr} {D : Ends} {σ : L2.St} {j k : Nat}
/-- (y, xs) with xs a new list that will be changed -/
theorem sp_pairVC (hv : Ev K ta env S y S1) (h : EvN K tb env S1 ds S2) (q : SP K n u ((env.set j (some y)).set k (some (.c S2.length))) (S2 ++ [.lst ds]) P) :
    SP K n (tSeq (tAsg (tTup (tCons ta (tCons tb tNil))) (gTup K 2 (gCons (gName j) (gCons (gName k) gNil)))) u) env S P := fun B0 H0 as0 Bk B H as σ hl f c g D m =>
  hv B H as σ c g _ fun w B1 H1 c1 e1 r1 => h B1 H1 as σ c1 (g.mono e1.ex) _ fun p B2 H2 vs c2 e2 hp hb h2 r2 => ⟨by show 2 ≤ sizeLine; decide, fun t ht => by
    have hpa : p ∉ as := c1.fresh hp
    have c3 := c2.new (o := .tup [w, .ref p]) ht
    have e3 := Evo.new (o := .tup [w, .ref p]) c2 ht
    have e03 := (e1.trans e2).trans e3
    have npt : p ≠ t := by rintro rfl; rw [ht] at h2; cases h2
    refine ⟨t, _, rfl, Evl.st_of upd_same, rfl, _, _, rfl, _, _, rfl, rfl, ?_⟩
    refine q B0 H0 as0 Bk _ _ (as ++ [p]) _ hl ((f.step e03).push (f.evo.old (e1.old hp))) (c3.push (by rw [upd_ne npt]; exact hb) hpa (.ofL (by rw [upd_ne npt]; exact h2) (r2.mono e3.ex))) ((((g.mono e03.ex).grow).set j (((r1.mono e2.ex).mono e3.ex).grow)).set (s := .c S2.length) k ?_) D m
    exact ⟨p, by rw [← c2.len]; simp, rfl⟩⟩
/-- xs[i] = e, last of its block -/
theorem sp_setitem1 {j : Nat} {iv : Int} (h : Ev K te env S (.d d) S1) (ho : Ev K to env S1 (.c k) S2) (hi : Ev K ti env S2 (.d (.int iv)) S3) (hs : S3[k]? = some (.lst ds)) (hj : ixN ds.length iv = some j) (q : P.nx env (S3.set k (.lst (ds.set j d)))) :
    SP K n (tAsg te (gSub to ti rSetL)) env S P := fun B0 H0 as0 Bk B H as σ hl f c g D m =>
  h B H as σ c g _ fun v B1 H1 c1 e1 r1 => ho B1 H1 as σ c1 (g.mono e1.ex) _ fun w B2 H2 c2 e2 r2 => hi B2 H2 as σ c2 (g.mono (e1.trans e2).ex) _ fun w3 B3 H3 c3 e3 r3 => by
    obtain ⟨p, hp, rfl⟩ := r2
    cases r3
    obtain ⟨vs, hv, rv⟩ := (c3.cells k p _ hp hs).2.lst
    have e03 := ((e1.trans e2).trans e3).trans (Evo.setc (o := .lst (vs.set j v)) (List.mem_of_getElem? hp))
    exact ⟨p, vs, iv, j, rfl, rfl, hv, by rw [rv.length]; exact hj, m.nx _ _ B3 _ as σ (f.step e03) (c3.setc hp (show CellO K B3 (.lst _) (.lst _) from Reps.set j (Rep.mono (e2.trans e3).ex r1) rv)) (g.mono e03.ex) q⟩
theorem reps_ints : ∀ ns : List Int, Reps K B (ns.map V.int) (ns.map Dat.int)
  | [] => .nil
  | i :: r => .cons (.int i) (reps_ints r)
theorem reps_rg {a b : Int} : Reps K B (rgV a b) ((List.range (b - a).toNat).map fun i => Dat.int (a + (i : Nat))) := by
  have := reps_ints (K := K) (B := B) ((List.range (b - a).toNat).map fun i => a + ((i : Nat) : Int))
  rw [List.map_map, List.map_map] at this
  exact this
/-- list(range(m)) -/
theorem en_rg1 {m : Nat} (h : Ev K te env S (.d (.int m)) S1) (hm : m ≤ 1000) : EvN K (tLstRg (tRg1 te)) env S ((List.range m).map fun i => Dat.int (i : Nat)) S1 := fun B H as σ c g Q q =>
  h B H as σ c g _ fun v B1 H1 c1 e1 r1 => by
    cases r1
    have e : ((List.range m).map fun i => Dat.int (i : Nat)) = (List.range ((m : Int) - 0).toNat).map fun i => Dat.int (0 + (i : Nat)) := by
      rw [show ((m : Int) - 0).toNat = m by omega]
      exact List.map_congr_left fun i _ => by rw [Int.zero_add]
    rw [e] at q
    exact ⟨_, rfl, RgOk.of_le (by omega) (by omega) (by omega) (by omega), fun p hp => evn_new c c1 e1 hp reps_rg q⟩
/-- list(range(a, a + k)) -/
theorem en_rg2 {a k : Nat} {b : Int} (h : Ev K ta env S (.d (.int a)) S1) (hb : Ev K tb env S1 (.d (.int b)) S2) (e : b = (a : Int) + (k : Nat)) (hm : a + k ≤ 1000) : EvN K (tLstRg (tRg2 ta tb)) env S ((List.range' a k).map fun i => Dat.int (i : Nat)) S2 := fun B H as σ c g Q q =>
  h B H as σ c g _ fun v B1 H1 c1 e1 r1 => hb B1 H1 as σ c1 (g.mono e1.ex) _ fun w B2 H2 c2 e2 r2 => by
    cases r1
    cases r2
    have e : ((List.range' a k).map fun i => Dat.int (i : Nat)) = (List.range (b - (a : Int)).toNat).map fun i => Dat.int ((a : Int) + (i : Nat)) := by
      rw [show (b - (a : Int)).toNat = k by omega, List.range'_eq_map_range, List.map_map]
      exact List.map_congr_left fun i _ => by show Dat.int ((a + i : Nat) : Int) = _; rw [Int.natCast_add]
    rw [e] at q
    exact ⟨_, _, rfl, rfl, RgOk.of_le (by omega) (by omega) (by omega) (by omega), fun p hp => evn_new c c2 (e1.trans e2) hp reps_rg q⟩
end
end RW
namespace RW
open PySem PySem.Spec PyProof.Rows L2
theorem sl_tupAK {X : Cx} (K : PySem.W.Frag) (h : X.K = K := by rfl) : SlR X (rSlA K) := h ▸ sl_tupA
theorem sl_listK {X : Cx} (K : PySem.W.Frag) (h : X.K = K := by rfl) : SlR X (rSlL K) := h ▸ sl_list
end RW

set_option Elab.async false
set_option linter.all false
set_option maxRecDepth 100000
set_option maxHeartbeats 4000000
namespace N20
open PySem PySem.Spec PyProof.Rows L2 RW

/-! the text by places -/
def top (i : Nat) : Stmt := PySem.Challenge.pw_rampworks_k20_whole_networks_put_togethe.main.body.getD i (.Pass ⟨0, 0, 0, 0⟩)
abbrev s_is_whole : Stmt := top 10
theorem sc_is_whole : FnScope ["value"] ["value"] (defScope s_is_whole) := ⟨rfl, rfl, rfl, by decide +kernel, rfl, by decide +kernel, by decide +kernel⟩
abbrev s_is_short : Stmt := top 11
theorem sc_is_short : FnScope ["value"] ["value"] (defScope s_is_short) := ⟨rfl, rfl, rfl, by decide +kernel, rfl, by decide +kernel, by decide +kernel⟩
abbrev s_are_short : Stmt := top 12
theorem sc_are_short : FnScope ["values", "x"] ["values"] (defScope s_are_short) := ⟨rfl, rfl, rfl, by decide +kernel, rfl, by decide +kernel, by decide +kernel⟩
abbrev s_is_short_row : Stmt := top 13
theorem sc_is_short_row : FnScope ["value", "least", "most"] ["value", "least", "most"] (defScope s_is_short_row) := ⟨rfl, rfl, rfl, by decide +kernel, rfl, by decide +kernel, by decide +kernel⟩
abbrev s_need_number : Stmt := top 14
theorem sc_need_number : FnScope ["number"] ["number"] (defScope s_need_number) := ⟨rfl, rfl, rfl, by decide +kernel, rfl, by decide +kernel, by decide +kernel⟩
abbrev s_product_of : Stmt := top 16
theorem sc_product_of : FnScope ["one", "other", "x", "y"] ["one", "other"] (defScope s_product_of) := ⟨rfl, rfl, rfl, by decide +kernel, rfl, by decide +kernel, by decide +kernel⟩
abbrev s_sum_of : Stmt := top 17
theorem sc_sum_of : FnScope ["one", "other", "x", "y"] ["one", "other"] (defScope s_sum_of) := ⟨rfl, rfl, rfl, by decide +kernel, rfl, by decide +kernel, by decide +kernel⟩
abbrev s_difference_of : Stmt := top 18
theorem sc_difference_of : FnScope ["one", "other", "x", "y"] ["one", "other"] (defScope s_difference_of) := ⟨rfl, rfl, rfl, by decide +kernel, rfl, by decide +kernel, by decide +kernel⟩
abbrev s_times : Stmt := top 19
theorem sc_times : FnScope ["row", "number", "x"] ["row", "number"] (defScope s_times) := ⟨rfl, rfl, rfl, by decide +kernel, rfl, by decide +kernel, by decide +kernel⟩
abbrev s_Networku_initu : Stmt := inClass (top 25) 0
theorem sc_Networku_initu : FnScope ["self", "inputs", "layers", "last", "layer", "unit"] ["self", "inputs", "layers", "last"] (defScope s_Networku_initu) := ⟨rfl, rfl, rfl, by decide +kernel, rfl, by decide +kernel, by decide +kernel⟩
abbrev s_Networku_equ : Stmt := inClass (top 25) 1
theorem sc_Networku_equ : FnScope ["self", "value"] ["self", "value"] (defScope s_Networku_equ) := ⟨rfl, rfl, rfl, by decide +kernel, rfl, by decide +kernel, by decide +kernel⟩
abbrev s_are_parts : Stmt := top 27
theorem sc_are_parts : FnScope ["inputs", "layers", "last", "width", "layer", "unit"] ["inputs", "layers", "last"] (defScope s_are_parts) := ⟨rfl, rfl, rfl, by decide +kernel, rfl, by decide +kernel, by decide +kernel⟩
abbrev s_need_network : Stmt := top 28
theorem sc_need_network : FnScope ["network"] ["network"] (defScope s_need_network) := ⟨rfl, rfl, rfl, by decide +kernel, rfl, by decide +kernel, by decide +kernel⟩
abbrev s_need_network_and_row : Stmt := top 29
theorem sc_need_network_and_row : FnScope ["network", "row"] ["network", "row"] (defScope s_need_network_and_row) := ⟨rfl, rfl, rfl, by decide +kernel, rfl, by decide +kernel, by decide +kernel⟩
abbrev s_need_networks : Stmt := top 30
theorem sc_need_networks : FnScope ["one", "other"] ["one", "other"] (defScope s_need_networks) := ⟨rfl, rfl, rfl, by decide +kernel, rfl, by decide +kernel, by decide +kernel⟩
abbrev s_all_values : Stmt := top 31
theorem sc_all_values : FnScope ["network", "row", "found", "layer", "unit"] ["network", "row"] (defScope s_all_values) := ⟨rfl, rfl, rfl, by decide +kernel, rfl, by decide +kernel, by decide +kernel⟩
abbrev s_value_of : Stmt := top 32
theorem sc_value_of : FnScope ["network", "row"] ["network", "row"] (defScope s_value_of) := ⟨rfl, rfl, rfl, by decide +kernel, rfl, by decide +kernel, by decide +kernel⟩
abbrev s_bounded : Stmt := top 33
theorem sc_bounded : FnScope ["inputs", "layers", "last", "layer", "rows", "unit", "row", "x"] ["inputs", "layers", "last"] (defScope s_bounded) := ⟨rfl, rfl, rfl, by decide +kernel, rfl, by decide +kernel, by decide +kernel⟩
abbrev s_widened : Stmt := top 34
theorem sc_widened : FnScope ["row", "places", "width", "found", "place", "x"] ["row", "places", "width"] (defScope s_widened) := ⟨rfl, rfl, rfl, by decide +kernel, rfl, by decide +kernel, by decide +kernel⟩
abbrev s_layer_at : Stmt := top 35
theorem sc_layer_at : FnScope ["network", "at"] ["network", "at"] (defScope s_layer_at) := ⟨rfl, rfl, rfl, by decide +kernel, rfl, by decide +kernel, by decide +kernel⟩
abbrev s_side_by_side : Stmt := top 36
theorem sc_side_by_side : FnScope ["one", "other", "width", "layers", "left", "right", "at", "units", "unit", "others"] ["one", "other"] (defScope s_side_by_side) := ⟨rfl, rfl, rfl, by decide +kernel, rfl, by decide +kernel, by decide +kernel⟩
abbrev s_added : Stmt := top 37
theorem sc_added : FnScope ["one", "other", "layers", "left", "right"] ["one", "other"] (defScope s_added) := ⟨rfl, rfl, rfl, by decide +kernel, rfl, by decide +kernel, by decide +kernel⟩
abbrev s_multiplied : Stmt := top 38
theorem sc_multiplied : FnScope ["network", "number"] ["network", "number"] (defScope s_multiplied) := ⟨rfl, rfl, rfl, by decide +kernel, rfl, by decide +kernel, by decide +kernel⟩
abbrev s_ramped : Stmt := top 39
theorem sc_ramped : FnScope ["network", "last"] ["network"] (defScope s_ramped) := ⟨rfl, rfl, rfl, by decide +kernel, rfl, by decide +kernel, by decide +kernel⟩
abbrev s_greater : Stmt := top 40
theorem sc_greater : FnScope ["one", "other", "layers", "left", "right"] ["one", "other"] (defScope s_greater) := ⟨rfl, rfl, rfl, by decide +kernel, rfl, by decide +kernel, by decide +kernel⟩
abbrev s__law_vat : Stmt := top 42
theorem sc__law_vat : FnScope ["script", "spot", "cell", "great"] ["script", "spot"] (defScope s__law_vat) := ⟨rfl, rfl, rfl, by decide +kernel, rfl, by decide +kernel, by decide +kernel⟩
abbrev s__law_draw : Stmt := top 43
theorem sc__law_draw : FnScope ["vat", "total", "found", "one", "two"] ["vat", "total"] (defScope s__law_draw) := ⟨rfl, rfl, rfl, by decide +kernel, rfl, by decide +kernel, by decide +kernel⟩
abbrev s__law_pick : Stmt := top 44
theorem sc__law_pick : FnScope ["vat", "items"] ["vat", "items"] (defScope s__law_pick) := ⟨rfl, rfl, rfl, by decide +kernel, rfl, by decide +kernel, by decide +kernel⟩
abbrev s__law_told : Stmt := top 45
theorem sc__law_told : FnScope ["row", "numbers", "one", "other"] ["row", "numbers"] (defScope s__law_told) := ⟨rfl, rfl, rfl, by decide +kernel, rfl, by decide +kernel, by decide +kernel⟩
abbrev s__law_numbers : Stmt := top 46
theorem sc__law_numbers : FnScope ["inputs", "layers", "row", "found", "layer", "more", "unit", "told"] ["inputs", "layers", "row"] (defScope s__law_numbers) := ⟨rfl, rfl, rfl, by decide +kernel, rfl, by decide +kernel, by decide +kernel⟩
abbrev s__law_row : Stmt := top 47
theorem sc__law_row : FnScope ["vat", "many", "size", "place"] ["vat", "many", "size"] (defScope s__law_row) := ⟨rfl, rfl, rfl, by decide +kernel, rfl, by decide +kernel, by decide +kernel⟩
abbrev s__law_parts : Stmt := top 48
theorem sc__law_parts : FnScope ["vat", "inputs", "depth", "wide", "size", "layers", "seen", "turn", "layer", "unit"] ["vat", "inputs", "depth", "wide", "size"] (defScope s__law_parts) := ⟨rfl, rfl, rfl, by decide +kernel, rfl, by decide +kernel, by decide +kernel⟩
abbrev s__law_value : Stmt := top 49
theorem sc__law_value : FnScope ["inputs", "layers", "last", "row"] ["inputs", "layers", "last", "row"] (defScope s__law_value) := ⟨rfl, rfl, rfl, by decide +kernel, rfl, by decide +kernel, by decide +kernel⟩
abbrev s__law_rows : Stmt := top 50
theorem sc__law_rows : FnScope ["vat", "many", "turns", "found", "turn", "size", "place"] ["vat", "many", "turns"] (defScope s__law_rows) := ⟨rfl, rfl, rfl, by decide +kernel, rfl, by decide +kernel, by decide +kernel⟩
abbrev s__law_beside : Stmt := top 51
theorem sc__law_beside : FnScope ["one", "other", "inputs", "depth", "sizes", "at", "told", "rows", "side", "mine", "unit", "layer", "layers", "seen", "pair", "row"] ["one", "other"] (defScope s__law_beside) := ⟨rfl, rfl, rfl, by decide +kernel, rfl, by decide +kernel, by decide +kernel⟩
abbrev s__law_spread : Stmt := top 52
theorem sc__law_spread : FnScope ["row", "inputs", "sizes", "side", "found", "at", "pair", "which", "mine"] ["row", "inputs", "sizes", "side"] (defScope s__law_spread) := ⟨rfl, rfl, rfl, by decide +kernel, rfl, by decide +kernel, by decide +kernel⟩
abbrev s__law_right : Stmt := top 53
theorem sc__law_right : FnScope ["vat", "inputs", "one", "other", "left", "right", "number", "layers", "first", "second", "both", "here", "there", "unit", "weight", "row", "told", "network"] ["vat"] (defScope s__law_right) := ⟨rfl, rfl, rfl, by decide +kernel, rfl, by decide +kernel, by decide +kernel⟩
abbrev s_law : Stmt := top 54
theorem sc_law : FnScope ["script", "spot", "vat", "turn", "one", "other", "told", "twice"] ["script"] (defScope s_law) := ⟨rfl, rfl, rfl, by decide +kernel, rfl, by decide +kernel, by decide +kernel⟩
abbrev scC__law_beside_layer : Scope := { kind := .function, names := [(Str.ofString ".0", .local), (Str.ofString "layer", .local), (Str.ofString "inputs", .cell), (Str.ofString "side", .cell), (Str.ofString "sizes", .cell)], isGenerator := false, isCoroutine := false, more := [] }
structure Txt (K : PySem.W.Frag) (mg : Str → Option Value) where
  a_is_whole : Addr
  d_is_whole : FuncData
  F_is_whole : Fun K "is_whole" "is_whole" s_is_whole a_is_whole d_is_whole
  b_is_whole : Binds K d_is_whole ["value"] []
  m_is_whole : mg "is_whole" = some (.ref a_is_whole)
  k_is_whole : PySem.W.keepIn K (.ref a_is_whole) = true
  a_is_short : Addr
  d_is_short : FuncData
  F_is_short : Fun K "is_short" "is_short" s_is_short a_is_short d_is_short
  b_is_short : Binds K d_is_short ["value"] []
  m_is_short : mg "is_short" = some (.ref a_is_short)
  k_is_short : PySem.W.keepIn K (.ref a_is_short) = true
  a_are_short : Addr
  d_are_short : FuncData
  F_are_short : Fun K "are_short" "are_short" s_are_short a_are_short d_are_short
  b_are_short : Binds K d_are_short ["values"] []
  m_are_short : mg "are_short" = some (.ref a_are_short)
  k_are_short : PySem.W.keepIn K (.ref a_are_short) = true
  a_is_short_row : Addr
  d_is_short_row : FuncData
  F_is_short_row : Fun K "is_short_row" "is_short_row" s_is_short_row a_is_short_row d_is_short_row
  b_is_short_row : Binds K d_is_short_row ["value", "least", "most"] []
  m_is_short_row : mg "is_short_row" = some (.ref a_is_short_row)
  k_is_short_row : PySem.W.keepIn K (.ref a_is_short_row) = true
  a_need_number : Addr
  d_need_number : FuncData
  F_need_number : Fun K "need_number" "need_number" s_need_number a_need_number d_need_number
  b_need_number : Binds K d_need_number ["number"] []
  m_need_number : mg "need_number" = some (.ref a_need_number)
  k_need_number : PySem.W.keepIn K (.ref a_need_number) = true
  a_product_of : Addr
  d_product_of : FuncData
  F_product_of : Fun K "product_of" "product_of" s_product_of a_product_of d_product_of
  b_product_of : Binds K d_product_of ["one", "other"] []
  m_product_of : mg "product_of" = some (.ref a_product_of)
  k_product_of : PySem.W.keepIn K (.ref a_product_of) = true
  a_sum_of : Addr
  d_sum_of : FuncData
  F_sum_of : Fun K "sum_of" "sum_of" s_sum_of a_sum_of d_sum_of
  b_sum_of : Binds K d_sum_of ["one", "other"] []
  m_sum_of : mg "sum_of" = some (.ref a_sum_of)
  k_sum_of : PySem.W.keepIn K (.ref a_sum_of) = true
  a_difference_of : Addr
  d_difference_of : FuncData
  F_difference_of : Fun K "difference_of" "difference_of" s_difference_of a_difference_of d_difference_of
  b_difference_of : Binds K d_difference_of ["one", "other"] []
  m_difference_of : mg "difference_of" = some (.ref a_difference_of)
  k_difference_of : PySem.W.keepIn K (.ref a_difference_of) = true
  a_times : Addr
  d_times : FuncData
  F_times : Fun K "times" "times" s_times a_times d_times
  b_times : Binds K d_times ["row", "number"] []
  m_times : mg "times" = some (.ref a_times)
  k_times : PySem.W.keepIn K (.ref a_times) = true
  a_Networku_initu : Addr
  d_Networku_initu : FuncData
  F_Networku_initu : Fun K "__init__" "Network.__init__" s_Networku_initu a_Networku_initu d_Networku_initu
  b_Networku_initu : Binds K d_Networku_initu ["self", "inputs", "layers", "last"] []
  a_Networku_equ : Addr
  d_Networku_equ : FuncData
  F_Networku_equ : Fun K "__eq__" "Network.__eq__" s_Networku_equ a_Networku_equ d_Networku_equ
  b_Networku_equ : Binds K d_Networku_equ ["self", "value"] []
  a_are_parts : Addr
  d_are_parts : FuncData
  F_are_parts : Fun K "are_parts" "are_parts" s_are_parts a_are_parts d_are_parts
  b_are_parts : Binds K d_are_parts ["inputs", "layers", "last"] []
  m_are_parts : mg "are_parts" = some (.ref a_are_parts)
  k_are_parts : PySem.W.keepIn K (.ref a_are_parts) = true
  a_need_network : Addr
  d_need_network : FuncData
  F_need_network : Fun K "need_network" "need_network" s_need_network a_need_network d_need_network
  b_need_network : Binds K d_need_network ["network"] []
  m_need_network : mg "need_network" = some (.ref a_need_network)
  k_need_network : PySem.W.keepIn K (.ref a_need_network) = true
  a_need_network_and_row : Addr
  d_need_network_and_row : FuncData
  F_need_network_and_row : Fun K "need_network_and_row" "need_network_and_row" s_need_network_and_row a_need_network_and_row d_need_network_and_row
  b_need_network_and_row : Binds K d_need_network_and_row ["network", "row"] []
  m_need_network_and_row : mg "need_network_and_row" = some (.ref a_need_network_and_row)
  k_need_network_and_row : PySem.W.keepIn K (.ref a_need_network_and_row) = true
  a_need_networks : Addr
  d_need_networks : FuncData
  F_need_networks : Fun K "need_networks" "need_networks" s_need_networks a_need_networks d_need_networks
  b_need_networks : Binds K d_need_networks ["one", "other"] []
  m_need_networks : mg "need_networks" = some (.ref a_need_networks)
  k_need_networks : PySem.W.keepIn K (.ref a_need_networks) = true
  a_all_values : Addr
  d_all_values : FuncData
  F_all_values : Fun K "all_values" "all_values" s_all_values a_all_values d_all_values
  b_all_values : Binds K d_all_values ["network", "row"] []
  m_all_values : mg "all_values" = some (.ref a_all_values)
  k_all_values : PySem.W.keepIn K (.ref a_all_values) = true
  a_value_of : Addr
  d_value_of : FuncData
  F_value_of : Fun K "value_of" "value_of" s_value_of a_value_of d_value_of
  b_value_of : Binds K d_value_of ["network", "row"] []
  m_value_of : mg "value_of" = some (.ref a_value_of)
  k_value_of : PySem.W.keepIn K (.ref a_value_of) = true
  a_bounded : Addr
  d_bounded : FuncData
  F_bounded : Fun K "bounded" "bounded" s_bounded a_bounded d_bounded
  b_bounded : Binds K d_bounded ["inputs", "layers", "last"] []
  m_bounded : mg "bounded" = some (.ref a_bounded)
  k_bounded : PySem.W.keepIn K (.ref a_bounded) = true
  a_widened : Addr
  d_widened : FuncData
  F_widened : Fun K "widened" "widened" s_widened a_widened d_widened
  b_widened : Binds K d_widened ["row", "places", "width"] []
  m_widened : mg "widened" = some (.ref a_widened)
  k_widened : PySem.W.keepIn K (.ref a_widened) = true
  a_layer_at : Addr
  d_layer_at : FuncData
  F_layer_at : Fun K "layer_at" "layer_at" s_layer_at a_layer_at d_layer_at
  b_layer_at : Binds K d_layer_at ["network", "at"] []
  m_layer_at : mg "layer_at" = some (.ref a_layer_at)
  k_layer_at : PySem.W.keepIn K (.ref a_layer_at) = true
  a_side_by_side : Addr
  d_side_by_side : FuncData
  F_side_by_side : Fun K "side_by_side" "side_by_side" s_side_by_side a_side_by_side d_side_by_side
  b_side_by_side : Binds K d_side_by_side ["one", "other"] []
  m_side_by_side : mg "side_by_side" = some (.ref a_side_by_side)
  k_side_by_side : PySem.W.keepIn K (.ref a_side_by_side) = true
  a_added : Addr
  d_added : FuncData
  F_added : Fun K "added" "added" s_added a_added d_added
  b_added : Binds K d_added ["one", "other"] []
  m_added : mg "added" = some (.ref a_added)
  k_added : PySem.W.keepIn K (.ref a_added) = true
  a_multiplied : Addr
  d_multiplied : FuncData
  F_multiplied : Fun K "multiplied" "multiplied" s_multiplied a_multiplied d_multiplied
  b_multiplied : Binds K d_multiplied ["network", "number"] []
  m_multiplied : mg "multiplied" = some (.ref a_multiplied)
  k_multiplied : PySem.W.keepIn K (.ref a_multiplied) = true
  a_ramped : Addr
  d_ramped : FuncData
  F_ramped : Fun K "ramped" "ramped" s_ramped a_ramped d_ramped
  b_ramped : Binds K d_ramped ["network"] []
  m_ramped : mg "ramped" = some (.ref a_ramped)
  k_ramped : PySem.W.keepIn K (.ref a_ramped) = true
  a_greater : Addr
  d_greater : FuncData
  F_greater : Fun K "greater" "greater" s_greater a_greater d_greater
  b_greater : Binds K d_greater ["one", "other"] []
  m_greater : mg "greater" = some (.ref a_greater)
  k_greater : PySem.W.keepIn K (.ref a_greater) = true
  a__law_vat : Addr
  d__law_vat : FuncData
  F__law_vat : Fun K "_law_vat" "_law_vat" s__law_vat a__law_vat d__law_vat
  b__law_vat : Binds K d__law_vat ["script", "spot"] []
  m__law_vat : mg "_law_vat" = some (.ref a__law_vat)
  k__law_vat : PySem.W.keepIn K (.ref a__law_vat) = true
  a__law_draw : Addr
  d__law_draw : FuncData
  F__law_draw : Fun K "_law_draw" "_law_draw" s__law_draw a__law_draw d__law_draw
  b__law_draw : Binds K d__law_draw ["vat", "total"] []
  m__law_draw : mg "_law_draw" = some (.ref a__law_draw)
  k__law_draw : PySem.W.keepIn K (.ref a__law_draw) = true
  a__law_pick : Addr
  d__law_pick : FuncData
  F__law_pick : Fun K "_law_pick" "_law_pick" s__law_pick a__law_pick d__law_pick
  b__law_pick : Binds K d__law_pick ["vat", "items"] []
  m__law_pick : mg "_law_pick" = some (.ref a__law_pick)
  k__law_pick : PySem.W.keepIn K (.ref a__law_pick) = true
  a__law_told : Addr
  d__law_told : FuncData
  F__law_told : Fun K "_law_told" "_law_told" s__law_told a__law_told d__law_told
  b__law_told : Binds K d__law_told ["row", "numbers"] []
  m__law_told : mg "_law_told" = some (.ref a__law_told)
  k__law_told : PySem.W.keepIn K (.ref a__law_told) = true
  a__law_numbers : Addr
  d__law_numbers : FuncData
  F__law_numbers : Fun K "_law_numbers" "_law_numbers" s__law_numbers a__law_numbers d__law_numbers
  b__law_numbers : Binds K d__law_numbers ["inputs", "layers", "row"] []
  m__law_numbers : mg "_law_numbers" = some (.ref a__law_numbers)
  k__law_numbers : PySem.W.keepIn K (.ref a__law_numbers) = true
  a__law_row : Addr
  d__law_row : FuncData
  F__law_row : Fun K "_law_row" "_law_row" s__law_row a__law_row d__law_row
  b__law_row : Binds K d__law_row ["vat", "many", "size"] []
  m__law_row : mg "_law_row" = some (.ref a__law_row)
  k__law_row : PySem.W.keepIn K (.ref a__law_row) = true
  a__law_parts : Addr
  d__law_parts : FuncData
  F__law_parts : Fun K "_law_parts" "_law_parts" s__law_parts a__law_parts d__law_parts
  b__law_parts : Binds K d__law_parts ["vat", "inputs", "depth", "wide", "size"] []
  m__law_parts : mg "_law_parts" = some (.ref a__law_parts)
  k__law_parts : PySem.W.keepIn K (.ref a__law_parts) = true
  a__law_value : Addr
  d__law_value : FuncData
  F__law_value : Fun K "_law_value" "_law_value" s__law_value a__law_value d__law_value
  b__law_value : Binds K d__law_value ["inputs", "layers", "last", "row"] []
  m__law_value : mg "_law_value" = some (.ref a__law_value)
  k__law_value : PySem.W.keepIn K (.ref a__law_value) = true
  a__law_rows : Addr
  d__law_rows : FuncData
  F__law_rows : Fun K "_law_rows" "_law_rows" s__law_rows a__law_rows d__law_rows
  b__law_rows : Binds K d__law_rows ["vat", "many", "turns"] []
  m__law_rows : mg "_law_rows" = some (.ref a__law_rows)
  k__law_rows : PySem.W.keepIn K (.ref a__law_rows) = true
  a__law_beside : Addr
  d__law_beside : FuncData
  F__law_beside : Fun K "_law_beside" "_law_beside" s__law_beside a__law_beside d__law_beside
  b__law_beside : Binds K d__law_beside ["one", "other"] []
  m__law_beside : mg "_law_beside" = some (.ref a__law_beside)
  k__law_beside : PySem.W.keepIn K (.ref a__law_beside) = true
  a__law_spread : Addr
  d__law_spread : FuncData
  F__law_spread : Fun K "_law_spread" "_law_spread" s__law_spread a__law_spread d__law_spread
  b__law_spread : Binds K d__law_spread ["row", "inputs", "sizes", "side"] []
  m__law_spread : mg "_law_spread" = some (.ref a__law_spread)
  k__law_spread : PySem.W.keepIn K (.ref a__law_spread) = true
  a__law_right : Addr
  d__law_right : FuncData
  F__law_right : Fun K "_law_right" "_law_right" s__law_right a__law_right d__law_right
  b__law_right : Binds K d__law_right ["vat"] []
  m__law_right : mg "_law_right" = some (.ref a__law_right)
  k__law_right : PySem.W.keepIn K (.ref a__law_right) = true
  a_law : Addr
  d_law : FuncData
  F_law : Fun K "law" "law" s_law a_law d_law
  b_law : Binds K d_law ["script"] []
  t_BEYOND : Tok
  m_BEYOND : mg "BEYOND" = some (.int (10 ^ 60) t_BEYOND)
  t_BENEATH : Tok
  m_BENEATH : mg "BENEATH" = some (.int (-(10 ^ 60)) t_BENEATH)
  t_MOST_INPUTS : Tok
  m_MOST_INPUTS : mg "MOST_INPUTS" = some (.int 8 t_MOST_INPUTS)
  t_MOST_LAYERS : Tok
  m_MOST_LAYERS : mg "MOST_LAYERS" = some (.int 4 t_MOST_LAYERS)
  t_MOST_IN_LAYER : Tok
  m_MOST_IN_LAYER : mg "MOST_IN_LAYER" = some (.int 64 t_MOST_IN_LAYER)
  t_MOST_UNITS : Tok
  m_MOST_UNITS : mg "MOST_UNITS" = some (.int 128 t_MOST_UNITS)
  n_isinstance : mg "isinstance" = none
  n_int : mg "int" = none
  n_bool : mg "bool" = none
  n_tuple : mg "tuple" = none
  n_list : mg "list" = none
  n_len : mg "len" = none
  n_sum : mg "sum" = none
  n_all : mg "all" = none
  n_any : mg "any" = none
  n_zip : mg "zip" = none
  n_max : mg "max" = none
  n_min : mg "min" = none
  n_abs : mg "abs" = none
  n_range : mg "range" = none
  n_enumerate : mg "enumerate" = none
  n_reversed : mg "reversed" = none
  n_sorted : mg "sorted" = none
  n_str : mg "str" = none
  C : Addr
  cl : Cls K C
  na_inputs : NoAttr K C "inputs"
  na_layers : NoAttr K C "layers"
  na_last : NoAttr K C "last"
  na_depth : NoAttr K C "depth"
  na_units : NoAttr K C "units"
  m_Network : mg "Network" = some (.ref C)
  M_Network : Mk K C a_Networku_initu
  isC : InsC K C
  o_eq : PySem.W.findIn K (.ref C) "__eq__" = some (some (.ref a_Networku_equ))
  o_fn : PySem.W.isFn K (.ref a_Networku_equ) = true
  o_ne : PySem.W.findIn K (.ref C) "__ne__" = some (some (.builtin "object.__ne__"))
  o_sub : PySem.W.notFirst K C (.ref C) = true
  kC : PySem.W.kitOne K (.ref C) (.ref C) = some true
  icl : PySem.W.isClsIn K C = true
  tyC : PySem.W.typeIn K (.ref C) = some (.type "type")
  sb_non : PySem.W.subIn K (.type "NoneType") (.ref C) = some false
  kt_non : PySem.W.kitOne K (.type "NoneType") (.ref C) = some false
  sb_int : PySem.W.subIn K (.type "int") (.ref C) = some false
  kt_int : PySem.W.kitOne K (.type "int") (.ref C) = some false
  sb_tup : PySem.W.subIn K (.type "tuple") (.ref C) = some false
  kt_tup : PySem.W.kitOne K (.type "tuple") (.ref C) = some false
end N20

set_option Elab.async false
set_option linter.all false
set_option maxRecDepth 100000
set_option maxHeartbeats 4000000
namespace N20
open PySem PySem.Spec PyProof.Rows L2 RW

def rowD (r : List Int) : Dat := .tup (r.map Dat.int)
def layD (l : List (List Int)) : Dat := .tup (l.map rowD)
def laysD (L : List (List (List Int))) : Dat := .tup (L.map layD)
def Sh (i : Int) : Prop := -(10 ^ 60) < i ∧ i < 10 ^ 60
theorem Sh.wide {i : Int} (h : Sh i) : -(10 ^ 60) < i ∧ i < 10 ^ 60 := h
theorem Sh.bits {i : Int} (h : Sh i) : i.natAbs < 2 ^ 200 := by
  unfold Sh at h
  have e : (10 : Nat) ^ 60 ≤ 2 ^ 200 := by decide
  have : i.natAbs < 10 ^ 60 := by omega
  omega
theorem log2_le {x k : Nat} (h : x < 2 ^ k) : x.log2 ≤ k := by
  by_cases hx : x = 0
  · subst hx; simp
  · exact Nat.le_of_lt ((Nat.log2_lt hx).mpr h)
/-- values of units: far below what the numbers of the program may be -/
def Big (k : Nat) (v : List Int) : Prop := ∀ y ∈ v, y.natAbs < 2 ^ k
theorem cmw {i j : Int} {k : Nat} (h1 : Sh i) (h2 : j.natAbs < 2 ^ k) (hk : k ≤ 100000) : CMulW i j := by
  have a := log2_le h1.bits
  have b := log2_le h2
  unfold CMulW
  omega
def Rw (r : List Int) (n : Nat) : Prop := r.length = n ∧ ∀ x ∈ r, Sh x
def dot (u v : List Int) : Int := ((u.zip v).map fun p => p.1 * p.2).sum
def gInt (ss : List Sl) (S : List Dat) (r : Dat) (S' : List Dat) : Prop := ∃ i : Int, ss = [.d (.int i)] ∧ r = .bl true ∧ S' = S
def gShort (ss : List Sl) (S : List Dat) (r : Dat) (S' : List Dat) : Prop := ∃ i : Int, ss = [.d (.int i)] ∧ Sh i ∧ r = .bl true ∧ S' = S
def gShorts (ss : List Sl) (S : List Dat) (r : Dat) (S' : List Dat) : Prop := ∃ u : List Int, ss = [.d (rowD u)] ∧ (∀ x ∈ u, Sh x) ∧ r = .bl true ∧ S' = S
def gSRow (ss : List Sl) (S : List Dat) (r : Dat) (S' : List Dat) : Prop := ∃ (u : List Int) (n : Nat) (a b : Int), ss = [.d (rowD u), .d (.int a), .d (.int b)] ∧ Rw u n ∧ a ≤ n ∧ n ≤ b ∧ n ≤ 1000 ∧ r = .bl true ∧ S' = S
def gDot (ss : List Sl) (S : List Dat) (r : Dat) (S' : List Dat) : Prop := ∃ (u v : List Int), ss = [.d (rowD u), .d (.lst (v.map Dat.int))] ∧ Rw u v.length ∧ v.length ≤ 1000 ∧ Big 4000 v ∧ r = .int (dot u v) ∧ S' = S
theorem o_mulW {K : PySem.W.Frag} {S : List Dat} {i j : Int} (h : CMulW i j) : Op2 K (rI CMulW fun i j => V.int (i * j)) (.d (.int i)) (.d (.int j)) S (.int (i * j)) := op2_int h fun B => .int _
theorem dot_b {k : Nat} : ∀ (u v : List Int), (∀ x ∈ u, Sh x) → Big k v → (dot u v).natAbs ≤ u.length * 2 ^ (200 + k)
  | [], v, _, _ => by simp [dot]
  | x :: u, [], _, _ => by simp [dot]
  | x :: u, y :: v, h1, h2 => by
    have ih := dot_b u v (fun x hx => h1 x (List.mem_cons_of_mem _ hx)) (fun y hy => h2 y (List.mem_cons_of_mem _ hy))
    have a := (h1 x List.mem_cons_self).bits
    have b := h2 y List.mem_cons_self
    have c : x.natAbs * y.natAbs ≤ 2 ^ 200 * 2 ^ k := Nat.mul_le_mul (Nat.le_of_lt a) (Nat.le_of_lt b)
    rw [← Nat.pow_add] at c
    have e : dot (x :: u) (y :: v) = x * y + dot u v := by unfold dot; rw [List.zip_cons_cons, List.map_cons, List.sum_cons]
    rw [e, List.length_cons, Nat.add_mul, Nat.one_mul]
    have d := Int.natAbs_add_le (x * y) (dot u v)
    rw [Int.natAbs_mul] at d
    omega
theorem dot_big {k : Nat} {u v : List Int} (h1 : ∀ x ∈ u, Sh x) (h2 : Big k v) (hl : u.length ≤ 255) : (dot u v).natAbs < 2 ^ (k + 208) := by
  have := dot_b u v h1 h2
  have e : 2 ^ (k + 208) = 256 * 2 ^ (200 + k) := by rw [show k + 208 = 8 + (200 + k) by omega, Nat.pow_add 2 8]
  have p : 0 < 2 ^ (200 + k) := Nat.pow_pos (by decide)
  have q : u.length * 2 ^ (200 + k) ≤ 255 * 2 ^ (200 + k) := Nat.mul_le_mul_right _ hl
  omega
theorem Big.mono {k m : Nat} {v : List Int} (h : Big k v) (hm : k ≤ m) : Big m v := fun y hy => Nat.lt_of_lt_of_le (h y hy) (Nat.pow_le_pow_right (by decide) hm)
theorem size_1000 {n : Nat} (h : n ≤ 1000) : n ≤ sizeLine := Nat.le_trans h (by decide)
section
variable {P : Program} {w : World} {K : PySem.W.Frag} {mg : Str → Option Value} {base : Heap}

theorem ok_is_whole (T : Txt K mg) : FnOk P w K mg base CX0 1 T.a_is_whole T.d_is_whole ["value"] (SpD K (gInt)) := by
  refine T.F_is_whole.ok sc_is_whole (spd_len (k := 1) fun ss S r S' hg => ?_) (fun cdv A outer s H vs Q E hr h => ⟨_, (pss_one (ps_ret (pe_and (pe_callB call_isi (by rfl) T.n_isinstance (by decide +kernel) (pa_cons (pv 0) (pa_cons (pe_bltn (v := .ty "int") (by rfl) T.n_int (by decide +kernel) rfl) pa_nil))) (pe_and (pe_cmpR op_notX (pv 0) pe_bl (nomark _)) (pe_one (pe_cmpR op_notX (pv 0) pe_bl (nomark _))))))), sp_body h fun ss S r S' hg => ?_⟩)
  · obtain ⟨i, rfl, _⟩ := hg; rfl
  · obtain ⟨i, rfl, rfl, rfl⟩ := hg
    refine sp_ret (d := .bl true) ?_ ⟨rfl, List.take_length⟩
    refine ev_andV (a := true) (b := true) ?_ fun _ => ev_andV (a := true) (b := true) ?_ fun _ => ?_
    · exact ev_cb (ea_cons (ev_var rfl) (ea_cons ev_ty ea_nil)) (cd_isi (T := "int") rfl (by decide +kernel))
    · exact ev_op (ev_var rfl) ev_bl o_isX_int
    · exact ev_op (ev_var rfl) ev_bl o_isX_int
theorem ok_is_short (T : Txt K mg) : FnOk P w K mg base CX0 2 T.a_is_short T.d_is_short ["value"] (SpD K (gShort)) := by
  have G_is_whole := ok_is_whole (P := P) (w := w) (base := base) T
  have b_is_whole := T.b_is_whole
  refine T.F_is_short.ok sc_is_short (spd_len (k := 1) fun ss S r S' hg => ?_) (fun cdv A outer s H vs Q E hr h => ⟨_, (pss_one (ps_ret (pe_and (pe_call G_is_whole (hr.mono (by decide)) rfl T.m_is_whole T.k_is_whole b_is_whole .nil pass0 (pa_cons (pv 0) pa_nil)) (pe_one (pe_chain op_lt op_lt (pe_glob (v := .int (-(10 ^ 60))) rfl T.m_BENEATH ⟨_, rfl⟩) (pv 0) (pe_glob (v := .int (10 ^ 60)) rfl T.m_BEYOND ⟨_, rfl⟩)))))), sp_body h fun ss S r S' hg => ?_⟩)
  · obtain ⟨i, rfl, _⟩ := hg; rfl
  · obtain ⟨i, rfl, hi, rfl, rfl⟩ := hg
    refine sp_ret (d := .bl true) ?_ ⟨rfl, List.take_length⟩
    refine ev_andV (a := true) (b := true) ?_ fun _ => ?_
    · exact ev_call (ea_cons (ev_var rfl) ea_nil) ⟨i, rfl, rfl, rfl⟩
    · exact ev_chain (a := true) (b := true) ev_int (ev_var rfl) (o_ltT hi.wide.1) (fun _ => ev_int) (fun _ => o_ltT hi.wide.2)
theorem ok_are_short (T : Txt K mg) : FnOk P w K mg base CX0 1 T.a_are_short T.d_are_short ["values"] (SpD K (gShorts)) := by
  refine T.F_are_short.ok sc_are_short (spd_len (k := 1) fun ss S r S' hg => ?_) (fun cdv A outer s H vs Q E hr h => ⟨_, (pss_cons (ps_for PassesOwn.never rfl (pi_seqK K (pv 0)) (pg_name (i := 1) sc_are_short.nd rfl (by first | exact Or.inl rfl | exact Or.inr rfl)) (pss_one (ps_if (PW.pt (pw_or (pt_not (pt_truK K (pe_callB call_isi (by rfl) T.n_isinstance (by decide +kernel) (pa_cons (pv 1) (pa_cons (pe_bltn (v := .ty "int") (by rfl) T.n_int (by decide +kernel) rfl) pa_nil))))) (pw_or (pt_cmpR op_isX (pv 1) pe_bl (nomark _)) (pw_or (pt_cmpR op_isX (pv 1) pe_bl (nomark _)) (pw_or (pt_cmpR op_le (pv 1) (pe_glob (v := .int (-(10 ^ 60))) rfl T.m_BENEATH ⟨_, rfl⟩) (nomark _)) (pw_or1 (pt_cmpR op_ge (pv 1) (pe_glob (v := .int (10 ^ 60)) rfl T.m_BEYOND ⟨_, rfl⟩) (nomark _)))))))) (pss_one (ps_ret pe_bl)) pss_nil))) (pss_one (ps_ret pe_bl))), sp_body h fun ss S r S' hg => ?_⟩)
  · obtain ⟨i, rfl, _⟩ := hg; rfl
  · obtain ⟨u, rfl, hu, rfl, rfl⟩ := hg
    refine sp_seq (P' := { nx := fun env' S2 => S2 = S' ∧ ∃ o1, env' = [some (.d (rowD u)), o1] })
      (sp_forA (xs := u) (g := Dat.int) (it_tup (ev_var rfl)) (fun i env' S2 => S2 = S' ∧ ∃ o1, env' = [some (.d (rowD u)), o1]) ⟨rfl, none, rfl⟩ (fun _ _ _ _ _ _ _ _ _ => trivial) ?_ ?_) ?_
    · rintro i x env' S2 hx ⟨rfl, o1, rfl⟩
      have hs := hu x (List.mem_of_getElem? hx)
      refine ⟨[1], fun env => env.set 1 (some (.d (.int x))), tg_name, ?_⟩
      refine sp_if (b := false) (et_orP (a := false) (b := false) (et_not (a := true) (et_bl (ev_cb (ea_cons (ev_var rfl) (ea_cons ev_ty ea_nil)) (cd_isi (T := "int") rfl (by decide +kernel))))) fun _ => et_orP (a := false) (b := false) (et_test (ev_op (ev_var rfl) ev_bl o_isX_int)) fun _ => et_orP (a := false) (b := false) (et_test (ev_op (ev_var rfl) ev_bl o_isX_int)) fun _ => et_orP (a := false) (b := false) (et_test ((ev_op (ev_var rfl) ev_int o_le).to ?_)) fun _ => et_test ((ev_op (ev_var rfl) ev_int o_ge).to ?_)) (fun h => by cases h) fun _ => sp_next ⟨rfl, _, rfl⟩
      · congr 2; exact decide_eq_false (by have := hs.wide.1; omega)
      · congr 2; exact decide_eq_false (by have := hs.wide.2; omega)
    · rintro env' S2 ⟨rfl, o1, rfl⟩
      exact ⟨rfl, o1, rfl⟩
    · rintro env' S2 ⟨rfl, o1, rfl⟩
      exact sp_ret ev_bl ⟨rfl, List.take_length⟩
theorem ok_is_short_row (T : Txt K mg) : FnOk P w K mg base CX0 3 T.a_is_short_row T.d_is_short_row ["value", "least", "most"] (SpD K (gSRow)) := by
  have G_are_short := ok_are_short (P := P) (w := w) (base := base) T
  have b_are_short := T.b_are_short
  refine T.F_is_short_row.ok sc_is_short_row (spd_len (k := 3) fun ss S r S' hg => ?_) (fun cdv A outer s H vs Q E hr h => ⟨_, (pss_one (ps_ret (pe_and (pe_callB call_isi (by rfl) T.n_isinstance (by decide +kernel) (pa_cons (pv 0) (pa_cons (pe_bltn (v := .ty "tuple") (by rfl) T.n_tuple (by decide +kernel) rfl) pa_nil))) (pe_and (pe_chain op_le op_le (pv 1) (pe_callB (call_lenK K) (by rfl) T.n_len (by decide +kernel) (pa_cons (pv 0) pa_nil)) (pv 2)) (pe_one (pe_call G_are_short (hr.mono (by decide)) rfl T.m_are_short T.k_are_short b_are_short .nil pass0 (pa_cons (pv 0) pa_nil))))))), sp_body h fun ss S r S' hg => ?_⟩)
  · obtain ⟨i, n, a, b, rfl, _⟩ := hg; rfl
  · obtain ⟨u, n, lo, hi, rfl, ⟨hn, hu⟩, h1, h2, hz, rfl, rfl⟩ := hg
    refine sp_ret (d := .bl true) ?_ ⟨rfl, List.take_length⟩
    refine ev_andV (a := true) (b := true) ?_ fun _ => ev_andV (a := true) (b := true) ?_ fun _ => ?_
    · exact ev_cb (ea_cons (ev_var rfl) (ea_cons ev_ty ea_nil)) (cd_isi (T := "tuple") rfl (by decide +kernel))
    · refine ev_chain (a := true) (b := true) (ev_var rfl) (ev_cb (ea_cons (ev_var rfl) ea_nil) (cd_len .tup)) (o_leT ?_) (fun _ => ev_var rfl) (fun _ => o_leT ?_)
      all_goals
        rw [List.length_map, hn]
        assumption
    · exact ev_call (ea_cons (ev_var rfl) ea_nil) ⟨u, rfl, hu, rfl, rfl⟩
theorem ok_product_of (T : Txt K mg) : FnOk P w K mg base CX0 1 T.a_product_of T.d_product_of ["one", "other"] (SpD K (gDot)) := by
  refine T.F_product_of.ok sc_product_of (spd_len (k := 2) fun ss S r S' hg => ?_) (fun cdv A outer s H vs Q E hr h => ⟨_, (pss_one (ps_ret (pe_callB (cr_sumK K) (by rfl) T.n_sum (by decide +kernel) (pa_cons (pe_lc (own := [("x", 2), ("y", 3)]) (g := gTup K 2 (gCons (gName 2) (gCons (gName 3) gNil))) rfl sc_product_of.nd (pi_zipGK K (by rfl) T.n_zip (pa_cons (pv 0) (pa_cons (pv 1) pa_nil))) (blkOk_by (own := [("x", 2), ("y", 3)]) (N := ["one", "other", "x", "y"]) (sc := (defScope s_product_of)) (by decide +kernel)) (fun _ _ _ _ _ => (pg_tup rfl (pgs_cons (pg_name (i := 2) sc_product_of.nd rfl (by first | exact Or.inl rfl | exact Or.inr rfl)) (pgs_cons (pg_name (i := 3) sc_product_of.nd rfl (by first | exact Or.inl rfl | exact Or.inr rfl)) pgs_nil)))) (fun _ _ _ _ _ => pts_nil) (fun _ _ _ _ _ => (pe_op op_mulW (pv 2) (pv 3)))) pa_nil)))), sp_body h fun ss S r S' hg => ?_⟩)
  · obtain ⟨i, n, rfl, _⟩ := hg; rfl
  · obtain ⟨u, v, rfl, ⟨hn, hu⟩, hz, hv, rfl, rfl⟩ := hg
    have hzz : (u.zip v).length ≤ sizeLine := size_1000 (by rw [List.length_zip]; omega)
    refine sp_ret (d := .int (dot u v)) (ev_cb (ea_cons (EvN.ev (en_mapA (xs := u.zip v) (g := fun p => Dat.tup [.int p.1, .int p.2]) (is := [2, 3]) (fun p => Dat.int (p.1 * p.2)) (it_zipA (ea_cons (ev_var rfl) (ea_cons (ev_var rfl) ea_nil)) .tup .lst) hzz (fun _ _ => trivial) (by decide) (fun p env => (env.set 2 (some (.d (.int p.1)))).set 3 (some (.d (.int p.2)))) fun a ha => ⟨tg_pair, ?_⟩)) ea_nil) (cd_sum (ns := (u.zip v).map fun p => p.1 * p.2) ?_)) ⟨rfl, List.take_length⟩
    · exact ev_op (ev_var rfl) (ev_var rfl) (o_mulW (cmw (hu _ (List.of_mem_zip ha).1) (hv _ (List.of_mem_zip ha).2) (by decide)))
    · rw [List.map_map]; exact .lst
end
end N20

set_option Elab.async false
set_option linter.all false
set_option maxRecDepth 100000
set_option maxHeartbeats 4000000
namespace N20
open PySem PySem.Spec PyProof.Rows L2 RW

/-! ### the networks as data -/
def lefts (r : List Int) (kp : List Bool) : List Int := ((r.zip kp).filter fun p => p.2).map fun p => p.1
abbrev Lays := List (List (List Int))
def netD (C : Addr) (n : Nat) (L : Lays) (last : List Int) : Dat := .ins C [("inputs", .int n), ("layers", laysD L), ("last", rowD last), ("depth", .int L.length), ("units", .tup (L.flatten.map rowD))]
def WL : Nat → Lays → Prop
  | _, [] => True
  | w, l :: L => (1 ≤ l.length ∧ l.length ≤ 64 ∧ ∀ u ∈ l, Rw u w) ∧ WL (w + l.length) L
structure Wf (n : Nat) (L : Lays) (last : List Int) : Prop where
  n1 : 1 ≤ n
  n8 : n ≤ 8
  l4 : L.length ≤ 4
  wl : WL n L
  u : L.flatten.length ≤ 128
  la : Rw last (n + L.flatten.length)
theorem flat_len_take {L : Lays} {i : Nat} {l : List (List Int)} (h : L[i]? = some l) : (L.take (i + 1)).flatten.length = (L.take i).flatten.length + l.length := by
  have hl := (List.getElem?_eq_some_iff.mp h).1
  have e : L[i] = l := (List.getElem?_eq_some_iff.mp h).2
  rw [List.take_succ_eq_append_getElem hl, e, List.flatten_append, List.length_append]
  simp
theorem WL.get : ∀ {L : Lays} {w i : Nat} {l : List (List Int)}, WL w L → L[i]? = some l → 1 ≤ l.length ∧ l.length ≤ 64 ∧ ∀ u ∈ l, Rw u (w + (L.take i).flatten.length)
  | [], _, _, _, _, e => by simp at e
  | l :: L, w, 0, _, h, e => by simp at e; subst e; simpa using h.1
  | l :: L, w, i + 1, m, h, e => by
    have := WL.get (i := i) (l := m) h.2 (by simpa using e)
    rw [List.take_succ_cons, List.flatten_cons, List.length_append, ← Nat.add_assoc]
    exact this
def vals (L : Lays) (row : List Int) : List Int := L.foldl (fun found l => found ++ l.map fun u => max 0 (dot u found)) row
theorem vals_take {L : Lays} {row : List Int} {i : Nat} {l : List (List Int)} (h : L[i]? = some l) : vals (L.take (i + 1)) row = vals (L.take i) row ++ l.map fun u => max 0 (dot u (vals (L.take i) row)) := by
  have hl := (List.getElem?_eq_some_iff.mp h).1
  have e : L[i] = l := (List.getElem?_eq_some_iff.mp h).2
  unfold vals
  rw [List.take_succ_eq_append_getElem hl, e, List.foldl_append]
  rfl
theorem vals_len : ∀ (L : Lays) (row : List Int), (vals L row).length = row.length + L.flatten.length
  | [], row => by simp [vals]
  | l :: L, row => by
    show (vals L (row ++ l.map _)).length = _
    rw [vals_len L, List.length_append, List.length_map, List.flatten_cons, List.length_append]
    omega
theorem vals_big {n : Nat} : ∀ (L : Lays) (w k : Nat) (row : List Int), WL w L → w + L.flatten.length ≤ 255 → Big k row → Big (k + 208 * L.length) (vals L row)
  | [], _, k, row, _, _, h => h.mono (Nat.le_add_right _ _)
  | l :: L, w, k, row, hw, hl, h => by
    rw [List.flatten_cons, List.length_append] at hl
    show Big _ (vals L (row ++ l.map _))
    have := vals_big (n := n) L (w + l.length) (k + 208) (row ++ l.map fun u => max 0 (dot u row)) hw.2 (by omega) (fun y hy => by
      rcases List.mem_append.mp hy with hy | hy
      · exact h.mono (Nat.le_add_right _ _) y hy
      · obtain ⟨u, hu, rfl⟩ := List.mem_map.mp hy
        have hu2 := hw.1.2.2 u hu
        have hd := dot_big hu2.2 h (by rw [hu2.1]; omega)
        have : (max 0 (dot u row)).natAbs ≤ (dot u row).natAbs := by omega
        exact Nat.lt_of_le_of_lt this hd)
    rw [List.length_cons]
    exact this.mono (by omega)
theorem Wf.big {n : Nat} {L : Lays} {last row : List Int} (h : Wf n L last) (hr : Rw row n) (i : Nat) : Big 4000 (vals (L.take i) row) := by
  have hl : (L.take i).flatten.length ≤ L.flatten.length := by
    conv => rhs; rw [← List.take_append_drop i L, List.flatten_append, List.length_append]
    omega
  have ht : ∀ (L : Lays) (w i : Nat), WL w L → WL w (L.take i) := by
    intro L
    induction L with
    | nil => intro w i _; simp [WL]
    | cons l L ih =>
      intro w i h
      cases i with
      | zero => trivial
      | succ i => exact ⟨h.1, ih _ i h.2⟩
  have := h.u
  have := h.n8
  have b := vals_big (n := n) (L.take i) n 200 row (ht L n i h.wl) (by omega) fun y hy => (hr.2 y hy).bits
  refine b.mono ?_
  have := h.l4
  rw [List.length_take]
  omega
def gLeft (ss : List Sl) (S : List Dat) (r : Dat) (S' : List Dat) : Prop := ∃ (u : List Int) (kp : List Bool), ss = [.d (rowD u), .d (.lst (kp.map Dat.bl))] ∧ u.length ≤ 1000 ∧ r = rowD (lefts u kp) ∧ S' = S
def gNeed (C : Addr) (ss : List Sl) (S : List Dat) (r : Dat) (S' : List Dat) : Prop := ∃ (n : Nat) (L : Lays) (last : List Int), ss = [.d (netD C n L last)] ∧ r = .non ∧ S' = S
def gNeedR (C : Addr) (ss : List Sl) (S : List Dat) (r : Dat) (S' : List Dat) : Prop := ∃ (n : Nat) (L : Lays) (last row : List Int), ss = [.d (netD C n L last), .d (rowD row)] ∧ Rw row n ∧ n ≤ 8 ∧ r = .non ∧ S' = S
def gAll (C : Addr) (ss : List Sl) (S : List Dat) (r : Dat) (S' : List Dat) : Prop := ∃ (n : Nat) (L : Lays) (last row : List Int), ss = [.d (netD C n L last), .d (rowD row)] ∧ Rw row n ∧ Wf n L last ∧ r = .lst ((vals L row).map Dat.int) ∧ S' = S
def gVal (C : Addr) (ss : List Sl) (S : List Dat) (r : Dat) (S' : List Dat) : Prop := ∃ (n : Nat) (L : Lays) (last row : List Int), ss = [.d (netD C n L last), .d (rowD row)] ∧ Rw row n ∧ Wf n L last ∧ r = .int (dot last (vals L row)) ∧ S' = S
theorem Wf.all {n : Nat} {L : Lays} {last : List Int} (h : Wf n L last) (i : Nat) : n + (L.take i).flatten.length ≤ 136 := by
  have : (L.take i).flatten.length ≤ L.flatten.length := by
    conv => rhs; rw [← List.take_append_drop i L, List.flatten_append, List.length_append]
    omega
  have := h.u; have := h.n8
  omega
section
variable {P : Program} {w : World} {K : PySem.W.Frag} {mg : Str → Option Value} {base : Heap}

theorem ok_need_network (T : Txt K mg) : FnOk P w K mg base CX0 1 T.a_need_network T.d_need_network ["network"] (SpD K (gNeed T.C)) := by
  refine T.F_need_network.ok sc_need_network (spd_len (k := 1) fun ss S r S' hg => ?_) (fun cdv A outer s H vs Q E hr h => ⟨_, (pss_one (ps_if (pt_not (pt_truK K (pe_callB call_isi (by rfl) T.n_isinstance (by decide +kernel) (pa_cons (pv 0) (pa_cons (pe_glob (v := .ref T.C) rfl T.m_Network rfl) pa_nil))))) (pss_one ps_never) pss_nil)), sp_body h fun ss S r S' hg => ?_⟩)
  · obtain ⟨i, n, l, rfl, _⟩ := hg; rfl
  · obtain ⟨n, L, last, rfl, rfl, rfl⟩ := hg
    refine sp_if (b := false) (et_not (a := true) (et_bl (ev_cb (ea_cons (ev_var rfl) (ea_cons ev_adr ea_nil)) (cd_isiO T.isC T.kC)))) (fun h => by cases h) fun _ => sp_next ⟨rfl, List.take_length⟩
theorem ok_need_network_and_row (T : Txt K mg) : FnOk P w K mg base CX0 4 T.a_need_network_and_row T.d_need_network_and_row ["network", "row"] (SpD K (gNeedR T.C)) := by
  have G_need_network := ok_need_network (P := P) (w := w) (base := base) T
  have b_need_network := T.b_need_network
  have G_is_short_row := ok_is_short_row (P := P) (w := w) (base := base) T
  have b_is_short_row := T.b_is_short_row
  refine T.F_need_network_and_row.ok sc_need_network_and_row (spd_len (k := 2) fun ss S r S' hg => ?_) (fun cdv A outer s H vs Q E hr h => ⟨_, (pss_cons (ps_expr (pe_call G_need_network (hr.mono (by decide)) rfl T.m_need_network T.k_need_network b_need_network .nil pass0 (pa_cons (pv 0) pa_nil))) (pss_one (ps_if (pt_not (pt_truK K (pe_call G_is_short_row (hr.mono (by decide)) rfl T.m_is_short_row T.k_is_short_row b_is_short_row .nil pass0 (pa_cons (pv 1) (pa_cons (pe_fld (pv 0) rfl) (pa_cons (pe_fld (pv 0) rfl) pa_nil)))))) (pss_one ps_never) pss_nil))), sp_body h fun ss S r S' hg => ?_⟩)
  · obtain ⟨i, n, l, r, rfl, _⟩ := hg; rfl
  · obtain ⟨n, L, last, row, rfl, hrw, hn, rfl, rfl⟩ := hg
    refine sp_drop (ev_call (ea_cons (ev_var rfl) ea_nil) ⟨n, L, last, rfl, rfl, rfl⟩) ?_
    refine sp_if (b := false) (et_not (a := true) (et_bl (ev_call (ea_cons (ev_var rfl) (ea_cons (ev_fld (ev_var rfl) T.cl T.na_inputs rfl) (ea_cons (ev_fld (ev_var rfl) T.cl T.na_inputs rfl) ea_nil))) ⟨row, n, n, n, rfl, hrw, Int.le_refl _, Int.le_refl _, by omega, rfl, rfl⟩))) (fun h => by cases h) fun _ => sp_next ⟨rfl, List.take_length⟩
theorem ok_all_values (T : Txt K mg) : FnOk P w K mg base CX0 2 T.a_all_values T.d_all_values ["network", "row"] (SpD K (gAll T.C)) := by
  have G_product_of := ok_product_of (P := P) (w := w) (base := base) T
  have b_product_of := T.b_product_of
  refine T.F_all_values.ok sc_all_values (spd_len (k := 2) fun ss S r S' hg => ?_) (fun cdv A outer s H vs Q E hr h => ⟨_, (pss_cons (ps_set (i := 2) sc_all_values.nd rfl (by first | exact Or.inl rfl | exact Or.inr rfl) (pe_callTy (call_lstD rfl) (by rfl) T.n_list (by decide +kernel) (pa_cons (pv 1) pa_nil))) (pss_cons (ps_for PassesOwn.never rfl (pi_seqK K (pe_fld (pv 0) rfl)) (pg_name (i := 3) sc_all_values.nd rfl (by first | exact Or.inl rfl | exact Or.inr rfl)) (pss_one (ps_set (i := 2) sc_all_values.nd rfl (by first | exact Or.inl rfl | exact Or.inr rfl) (pe_op op_cat (pv 2) (pe_lc (own := [("unit", 4)]) rfl sc_all_values.nd (pi_seqK K (pv 3)) (blkOk_by (own := [("unit", 4)]) (N := ["network", "row", "found", "layer", "unit"]) (sc := (defScope s_all_values)) (by decide +kernel)) (fun _ _ _ _ _ => (pg_name (i := 4) sc_all_values.nd rfl (by first | exact Or.inl rfl | exact Or.inr rfl))) (fun _ _ _ _ _ => pts_nil) (fun _ _ _ _ _ => (pe_callB (call_max2D rfl) (by rfl) T.n_max (by decide +kernel) (pa_cons pe_int (pa_cons (pe_call G_product_of (hr.mono (by decide)) rfl T.m_product_of T.k_product_of b_product_of .nil pass0 (pa_cons (pv 4) (pa_cons (pv 2) pa_nil))) pa_nil))))))))) (pss_one (ps_ret (pv 2))))), sp_body h fun ss S r S' hg => ?_⟩)
  · obtain ⟨i, n, l, r, rfl, _⟩ := hg; rfl
  · obtain ⟨n, L, last, row, rfl, hrw, hw, rfl, rfl⟩ := hg
    refine sp_set (EvN.ev (en_list (ea_cons (ev_var rfl) ea_nil) .tup)) ?_
    refine sp_then (S1 := S') (env1 := [some (.d (netD T.C n L last)), some (.d (rowD row)), some (.d (.lst ((vals L row).map Dat.int))), (L.getLast?.map fun l => Sl.d (layD l)), none]) (sp_forA (xs := L) (g := layD) (it_tup (ev_fld (ev_var rfl) T.cl T.na_layers rfl)) (fun i env' S2 => S2 = S' ∧ env' = [some (.d (netD T.C n L last)), some (.d (rowD row)), some (.d (.lst ((vals (L.take i) row).map Dat.int))), ((L.take i).getLast?.map fun l => Sl.d (layD l)), none]) ⟨rfl, rfl⟩ (fun _ _ _ _ _ _ _ _ _ => trivial) ?_ ?_) ?_
    · rintro i l env' S2 hl ⟨rfl, rfl⟩
      obtain ⟨h1, h2, h3⟩ := hw.wl.get hl
      have hlen := vals_len (L.take i) row
      rw [hrw.1] at hlen
      have hall := hw.all i
      refine ⟨[3], fun env => env.set 3 (some (.d (layD l))), tg_name, ?_⟩
      refine sp_set1 (EvN.ev (en_cat (ev_var rfl) (EvN.ev (en_mapA (xs := l) (is := [4]) (fun u => Dat.int (max 0 (dot u (vals (L.take i) row)))) (it_tup (ev_var rfl)) (size_1000 (by omega)) (fun _ _ => trivial) (by decide) (fun u env => env.set 4 (some (.d (rowD u)))) fun u hu => ⟨tg_name, ?_⟩)) .lst .lst ?_)) ?_
      · exact ev_cb (ea_cons ev_int (ea_cons (ev_call (ea_cons (ev_var rfl) (ea_cons (ev_var rfl) ea_nil)) ⟨u, vals (L.take i) row, rfl, by rw [hlen]; exact h3 u hu, by omega, hw.big hrw i, rfl, rfl⟩) ea_nil)) cd_max2
      · rw [List.length_map, List.length_map]
        exact size_1000 (by omega)
      · refine ⟨rfl, ?_⟩
        rw [vals_take hl, List.map_append, List.map_map]
        have hlt := (List.getElem?_eq_some_iff.mp hl).1
        have e : L[i] = l := (List.getElem?_eq_some_iff.mp hl).2
        rw [List.take_succ_eq_append_getElem hlt, e, List.getLast?_append]
        rfl
    · rintro env' S2 ⟨rfl, rfl⟩
      rw [List.take_length]
      exact ⟨rfl, rfl⟩
    · exact sp_ret (ev_var rfl) ⟨rfl, List.take_length⟩
theorem ok_value_of (T : Txt K mg) : FnOk P w K mg base CX0 5 T.a_value_of T.d_value_of ["network", "row"] (SpD K (gVal T.C)) := by
  have G_need_network_and_row := ok_need_network_and_row (P := P) (w := w) (base := base) T
  have b_need_network_and_row := T.b_need_network_and_row
  have G_product_of := ok_product_of (P := P) (w := w) (base := base) T
  have b_product_of := T.b_product_of
  have G_all_values := ok_all_values (P := P) (w := w) (base := base) T
  have b_all_values := T.b_all_values
  refine T.F_value_of.ok sc_value_of (spd_len (k := 2) fun ss S r S' hg => ?_) (fun cdv A outer s H vs Q E hr h => ⟨_, (pss_cons (ps_expr (pe_call G_need_network_and_row (hr.mono (by decide)) rfl T.m_need_network_and_row T.k_need_network_and_row b_need_network_and_row .nil pass0 (pa_cons (pv 0) (pa_cons (pv 1) pa_nil)))) (pss_one (ps_ret (pe_call G_product_of (hr.mono (by decide)) rfl T.m_product_of T.k_product_of b_product_of .nil pass0 (pa_cons (pe_fld (pv 0) rfl) (pa_cons (pe_call G_all_values (hr.mono (by decide)) rfl T.m_all_values T.k_all_values b_all_values .nil pass0 (pa_cons (pv 0) (pa_cons (pv 1) pa_nil))) pa_nil)))))), sp_body h fun ss S r S' hg => ?_⟩)
  · obtain ⟨i, n, l, r, rfl, _⟩ := hg; rfl
  · obtain ⟨n, L, last, row, rfl, hrw, hw, rfl, rfl⟩ := hg
    refine sp_drop (ev_call (ea_cons (ev_var rfl) (ea_cons (ev_var rfl) ea_nil)) ⟨n, L, last, row, rfl, hrw, hw.n8, rfl, rfl⟩) ?_
    have hlen : (vals L row).length = n + L.flatten.length := by rw [vals_len, hrw.1]
    have hall := hw.all L.length
    rw [List.take_length] at hall
    refine sp_ret (ev_call (ea_cons (ev_fld (ev_var rfl) T.cl T.na_last rfl) (ea_cons (ev_call (ea_cons (ev_var rfl) (ea_cons (ev_var rfl) ea_nil)) ⟨n, L, last, row, rfl, hrw, hw, rfl, rfl⟩) ea_nil)) ⟨last, vals L row, rfl, by rw [hlen]; exact hw.la, by omega, by have := hw.big hrw L.length; rwa [List.take_length] at this, rfl, rfl⟩) ⟨rfl, List.take_length⟩
end
end N20

set_option Elab.async false
set_option linter.all false
set_option maxRecDepth 100000
set_option maxHeartbeats 4000000
namespace N20
open PySem PySem.Spec PyProof.Rows L2 RW

def gParts (ss : List Sl) (S : List Dat) (r : Dat) (S' : List Dat) : Prop := ∃ (n : Nat) (L : Lays) (last : List Int), ss = [.d (.int n), .d (laysD L), .d (rowD last)] ∧ Wf n L last ∧ r = .bl true ∧ S' = S
def gInit (C : Addr) (ss : List Sl) (S : List Dat) (r : Dat) (S' : List Dat) : Prop := ∃ (k : Nat) (n : Nat) (L : Lays) (last : List Int), ss = [.c k, .d (.int n), .d (laysD L), .d (rowD last)] ∧ S[k]? = some (.ins C []) ∧ Wf n L last ∧ r = .non ∧ S' = S.set k (netD C n L last)
def gEq (C : Addr) (ss : List Sl) (S : List Dat) (r : Dat) (S' : List Dat) : Prop := (∃ (n n' : Nat) (L L' : Lays) (last last' : List Int), ss = [.d (netD C n L last), .d (netD C n' L' last')] ∧ r = .bl (decide ((n = n' ∧ L = L') ∧ last = last')) ∧ S' = S) ∨
  (∃ (n : Nat) (L : Lays) (last : List Int) (d : Dat), ss = [.d (netD C n L last), .d d] ∧ (d = .non ∨ (∃ i, d = .int i) ∨ ∃ ds, d = .tup ds) ∧ r = .bl false ∧ S' = S)
theorem o_gtF {K : PySem.W.Frag} {S : List Dat} {i j : Int} (h : ¬ j < i) : Op2 K (rI0 fun i j => V.bl (decide (j < i))) (.d (.int i)) (.d (.int j)) S (.bl false) := by have := @o_gt K S i j; rwa [decide_eq_false h] at this
theorem pl_row (r : List Int) : Pl 1 (rowD r) := .tup fun d hd => by obtain ⟨x, _, rfl⟩ := List.mem_map.mp hd; exact .int x
theorem pl_lay (l : List (List Int)) : Pl 2 (layD l) := .tup fun d hd => by obtain ⟨x, _, rfl⟩ := List.mem_map.mp hd; exact pl_row x
theorem pl_lays (L : Lays) : Pl 3 (laysD L) := .tup fun d hd => by obtain ⟨x, _, rfl⟩ := List.mem_map.mp hd; exact pl_lay x
theorem eq_row (r r' : List Int) : eqD (rowD r) (rowD r') = decide (r = r') := eqD_tup _ (fun _ _ => eqD_int) r r'
theorem eq_lay (r r' : List (List Int)) : eqD (layD r) (layD r') = decide (r = r') := eqD_tup _ eq_row r r'
theorem eq_lays (r r' : Lays) : eqD (laysD r) (laysD r') = decide (r = r') := eqD_tup _ eq_lay r r'
def inn : Dat → List Dat
  | .tup xs => xs
  | _ => []
theorem flat_lays (L : Lays) : ((L.map layD).flatMap fun d => (inn d).map fun e => e) = L.flatten.map rowD := by
  induction L with
  | nil => rfl
  | cons l L ih =>
    rw [List.map_cons, List.flatMap_cons, ih, List.flatten_cons, List.map_append]
    congr 1
    show (l.map rowD).map (fun e => e) = _
    rw [List.map_id']
section
variable {P : Program} {w : World} {K : PySem.W.Frag} {mg : Str → Option Value} {base : Heap}

theorem ok_are_parts (T : Txt K mg) : FnOk P w K mg base CX0 4 T.a_are_parts T.d_are_parts ["inputs", "layers", "last"] (SpD K (gParts)) := by
  have G_is_short := ok_is_short (P := P) (w := w) (base := base) T
  have b_is_short := T.b_is_short
  have G_is_short_row := ok_is_short_row (P := P) (w := w) (base := base) T
  have b_is_short_row := T.b_is_short_row
  refine T.F_are_parts.ok sc_are_parts (spd_len (k := 3) fun ss S r S' hg => ?_) (fun cdv A outer s H vs Q E hr h => ⟨_, (pss_cons (ps_if (PW.pt (pw_or (pt_not (pt_truK K (pe_call G_is_short (hr.mono (by decide)) rfl T.m_is_short T.k_is_short b_is_short .nil pass0 (pa_cons (pv 0) pa_nil)))) (pw_or1 (pt_not (pt_chain op_le op_le pe_int (pv 0) (pe_glob (v := .int 8) rfl T.m_MOST_INPUTS ⟨_, rfl⟩)))))) (pss_one (ps_ret pe_bl)) pss_nil) (pss_cons (ps_if (PW.pt (pw_or (pt_not (pt_truK K (pe_callB call_isi (by rfl) T.n_isinstance (by decide +kernel) (pa_cons (pv 1) (pa_cons (pe_bltn (v := .ty "tuple") (by rfl) T.n_tuple (by decide +kernel) rfl) pa_nil))))) (pw_or1 (pt_cmpR op_gt (pe_callB (call_lenK K) (by rfl) T.n_len (by decide +kernel) (pa_cons (pv 1) pa_nil)) (pe_glob (v := .int 4) rfl T.m_MOST_LAYERS ⟨_, rfl⟩) (nomark _))))) (pss_one (ps_ret pe_bl)) pss_nil) (pss_cons (ps_set (i := 3) sc_are_parts.nd rfl (by first | exact Or.inl rfl | exact Or.inr rfl) (pv 0)) (pss_cons (ps_for PassesOwn.never rfl (pi_seqK K (pv 1)) (pg_name (i := 4) sc_are_parts.nd rfl (by first | exact Or.inl rfl | exact Or.inr rfl)) (pss_cons (ps_if (PW.pt (pw_or (pt_not (pt_truK K (pe_callB call_isi (by rfl) T.n_isinstance (by decide +kernel) (pa_cons (pv 4) (pa_cons (pe_bltn (v := .ty "tuple") (by rfl) T.n_tuple (by decide +kernel) rfl) pa_nil))))) (pw_or1 (pt_not (pt_chain op_le op_le pe_int (pe_callB (call_lenK K) (by rfl) T.n_len (by decide +kernel) (pa_cons (pv 4) pa_nil)) (pe_glob (v := .int 64) rfl T.m_MOST_IN_LAYER ⟨_, rfl⟩)))))) (pss_one (ps_ret pe_bl)) pss_nil) (pss_cons (ps_if (pt_not (pt_truK K (pe_callB (cr_allK K) (by rfl) T.n_all (by decide +kernel) (pa_cons (pe_lc (own := [("unit", 5)]) rfl sc_are_parts.nd (pi_seqK K (pv 4)) (blkOk_by (own := [("unit", 5)]) (N := ["inputs", "layers", "last", "width", "layer", "unit"]) (sc := (defScope s_are_parts)) (by decide +kernel)) (fun _ _ _ _ _ => (pg_name (i := 5) sc_are_parts.nd rfl (by first | exact Or.inl rfl | exact Or.inr rfl))) (fun _ _ _ _ _ => pts_nil) (fun _ _ _ _ _ => (pe_call G_is_short_row (hr.mono (by decide)) rfl T.m_is_short_row T.k_is_short_row b_is_short_row .nil pass0 (pa_cons (pv 5) (pa_cons (pv 3) (pa_cons (pv 3) pa_nil)))))) pa_nil)))) (pss_one (ps_ret pe_bl)) pss_nil) (pss_one (ps_aug (i := 3) sc_are_parts.nd rfl (by first | exact Or.inl rfl | exact Or.inr rfl) (pe_callB (call_lenK K) (by rfl) T.n_len (by decide +kernel) (pa_cons (pv 4) pa_nil)) ip_add))))) (pss_one (ps_ret (pe_and (pe_cmpR op_le (pe_op op_sub (pv 3) (pv 0)) (pe_glob (v := .int 128) rfl T.m_MOST_UNITS ⟨_, rfl⟩) (nomark _)) (pe_one (pe_call G_is_short_row (hr.mono (by decide)) rfl T.m_is_short_row T.k_is_short_row b_is_short_row .nil pass0 (pa_cons (pv 2) (pa_cons (pv 3) (pa_cons (pv 3) pa_nil)))))))))))), sp_body h fun ss S r S' hg => ?_⟩)
  · obtain ⟨i, n, l, rfl, _⟩ := hg; rfl
  · obtain ⟨n, L, last, rfl, hw, rfl, rfl⟩ := hg
    have h1 := hw.n1
    have h8 := hw.n8
    have h4 := hw.l4
    refine sp_ifq (b := false) (et_orP (a := false) (b := false) (et_not (a := true) (et_bl (ev_call (ea_cons (ev_var rfl) ea_nil) ⟨n, rfl, by unfold Sh; omega, rfl, rfl⟩))) fun _ => et_not (a := true) (et_test (ev_chain (a := true) (b := true) ev_int (ev_var rfl) (o_leT (by omega)) (fun _ => ev_int) (fun _ => o_leT (by omega))))) (fun h => by cases h) fun _ => sp_nextq ?_
    refine sp_ifq (b := false) (et_orP (a := false) (b := false) (et_not (a := true) (et_bl (ev_cb (ea_cons (ev_var rfl) (ea_cons ev_ty ea_nil)) (cd_isi (T := "tuple") rfl (by decide +kernel))))) fun _ => et_test (ev_op (ev_cb (ea_cons (ev_var rfl) ea_nil) (cd_len .tup)) ev_int (o_gtF (by rw [List.length_map]; omega)))) (fun h => by cases h) fun _ => sp_nextq ?_
    refine sp_set (ev_var rfl) ?_
    refine sp_then (S1 := S') (env1 := [some (.d (.int n)), some (.d (laysD L)), some (.d (rowD last)), some (.d (.int ((n + L.flatten.length : Nat) : Int))), (L.getLast?.map fun l => Sl.d (layD l)), none]) (sp_forA (xs := L) (g := layD) (it_tup (ev_var rfl)) (fun i env' S2 => S2 = S' ∧ env' = [some (.d (.int n)), some (.d (laysD L)), some (.d (rowD last)), some (.d (.int ((n + (L.take i).flatten.length : Nat) : Int))), ((L.take i).getLast?.map fun l => Sl.d (layD l)), none]) ⟨rfl, rfl⟩ (fun _ _ _ _ _ _ _ _ _ => trivial) ?_ ?_) ?_
    · rintro i l env' S2 hl ⟨rfl, rfl⟩
      obtain ⟨g1, g2, g3⟩ := hw.wl.get hl
      have hall := hw.all i
      refine ⟨[4], fun env => env.set 4 (some (.d (layD l))), tg_name, ?_⟩
      refine sp_ifq (b := false) (et_orP (a := false) (b := false) (et_not (a := true) (et_bl (ev_cb (ea_cons (ev_var rfl) (ea_cons ev_ty ea_nil)) (cd_isi (T := "tuple") rfl (by decide +kernel))))) fun _ => et_not (a := true) (et_test (ev_chain (a := true) (b := true) ev_int (ev_cb (ea_cons (ev_var rfl) ea_nil) (cd_len .tup)) (o_leT (by rw [List.length_map]; omega)) (fun _ => ev_int) (fun _ => o_leT (by rw [List.length_map]; omega))))) (fun h => by cases h) fun _ => sp_nextq ?_
      refine sp_ifq (b := false) (et_not (a := true) (et_bl ((ev_cb (ea_cons (EvN.ev (en_mapA (xs := l) (is := [5]) (fun u => Dat.bl true) (it_tup (ev_var rfl)) (size_1000 (by omega)) (fun _ _ => trivial) (by decide) (fun u env => env.set 5 (some (.d (rowD u)))) fun u hu => ⟨tg_name, ?_⟩)) ea_nil) (cd_all (bs := l.map fun _ => true) ?_)).to ?_))) (fun h => by cases h) fun _ => sp_nextq ?_
      · exact ev_call (ea_cons (ev_var rfl) (ea_cons (ev_var rfl) (ea_cons (ev_var rfl) ea_nil))) ⟨u, _, _, _, rfl, g3 u hu, Int.le_refl _, Int.le_refl _, by omega, rfl, rfl⟩
      · rw [List.map_map]; exact .lst
      · congr 2; simp
      · refine sp_aug1 rfl (ev_cb (ea_cons (ev_var rfl) ea_nil) (cd_len .tup)) ⟨rfl, ?_⟩
        have hlt := (List.getElem?_eq_some_iff.mp hl).1
        have e : L[i] = l := (List.getElem?_eq_some_iff.mp hl).2
        rw [flat_len_take hl, List.take_succ_eq_append_getElem hlt, e, List.getLast?_append, List.length_map, ← Nat.add_assoc, Int.natCast_add]
        rfl
    · rintro env' S2 ⟨rfl, rfl⟩
      rw [List.take_length]
      exact ⟨rfl, rfl⟩
    · have hu := hw.u
      refine sp_ret (d := .bl true) (ev_andV (a := true) (b := true) (ev_op (ev_op (ev_var rfl) (ev_var rfl) o_sub) ev_int (o_leT (by omega))) fun _ => ?_) ⟨rfl, List.take_length⟩
      exact ev_call (ea_cons (ev_var rfl) (ea_cons (ev_var rfl) (ea_cons (ev_var rfl) ea_nil))) ⟨last, _, _, _, rfl, hw.la, Int.le_refl _, Int.le_refl _, by omega, rfl, rfl⟩
theorem ok_Networku_initu (T : Txt K mg) : FnOk P w K mg base CX0 5 T.a_Networku_initu T.d_Networku_initu ["self", "inputs", "layers", "last"] (SpD K (gInit T.C)) := by
  have G_are_parts := ok_are_parts (P := P) (w := w) (base := base) T
  have b_are_parts := T.b_are_parts
  refine T.F_Networku_initu.ok sc_Networku_initu (spd_len (k := 4) fun ss S r S' hg => ?_) (fun cdv A outer s H vs Q E hr h => ⟨_, (pss_cons (ps_if (pt_not (pt_truK K (pe_call G_are_parts (hr.mono (by decide)) rfl T.m_are_parts T.k_are_parts b_are_parts .nil pass0 (pa_cons (pv 1) (pa_cons (pv 2) (pa_cons (pv 3) pa_nil)))))) (pss_one ps_never) pss_nil) (pss_cons (ps_fld (pv 0) (pv 1) rfl) (pss_cons (ps_fld (pv 0) (pv 2) rfl) (pss_cons (ps_fld (pv 0) (pv 3) rfl) (pss_cons (ps_fld (pv 0) (pe_callB (call_lenK K) (by rfl) T.n_len (by decide +kernel) (pa_cons (pv 2) pa_nil)) rfl) (pss_one (ps_fld (pv 0) (pe_callTy (call_tupK K rfl) (by rfl) T.n_tuple (by decide +kernel) (pa_cons (pe_lc2 (own := [("layer", 4), ("unit", 5)]) (vs1 := [5]) rfl sc_Networku_initu.nd (pi_seqK K (pv 2)) (blkOk_by (own := [("layer", 4), ("unit", 5)]) (N := ["self", "inputs", "layers", "last", "layer", "unit"]) (sc := (defScope s_Networku_initu)) (by decide +kernel)) (by decide) (fun _ _ _ _ _ => (pg_name (i := 4) sc_Networku_initu.nd rfl (by first | exact Or.inl rfl | exact Or.inr rfl))) (fun _ _ _ _ _ => pts_nil) (fun _ _ _ _ _ => (pi_seqK K (pv 4))) (fun _ _ _ _ _ => (pg_name (i := 5) sc_Networku_initu.nd rfl (by first | exact Or.inl rfl | exact Or.inr rfl))) (fun _ _ _ _ _ => pts_nil) (fun _ _ _ _ _ => (pv 5))) pa_nil)) rfl))))))), sp_body h fun ss S r S' hg => ?_⟩)
  · obtain ⟨i, n, l, r, rfl, _⟩ := hg; rfl
  · obtain ⟨k, n, L, last, rfl, hk, hw, rfl, rfl⟩ := hg
    have hkl : k < S.length := (List.getElem?_eq_some_iff.mp hk).1
    have hs : ∀ (S2 : List Dat) (x : Dat), S2.length = S.length → (S2.set k x)[k]? = some x := fun S2 x e => List.getElem?_set_self (by omega)
    refine sp_ifq (b := false) (et_not (a := true) (et_bl (ev_call (ea_cons (ev_var rfl) (ea_cons (ev_var rfl) (ea_cons (ev_var rfl) ea_nil))) ⟨n, L, last, rfl, hw, rfl, rfl⟩))) (fun h => by cases h) fun _ => sp_nextq ?_
    refine sp_fld (ev_var rfl) (ev_var rfl) hk T.cl T.na_inputs (by show 0 < 1000; decide) ?_
    refine sp_fld (ev_var rfl) (ev_var rfl) (hs _ _ rfl) T.cl T.na_layers (by show 1 < 1000; decide) ?_
    refine sp_fld (ev_var rfl) (ev_var rfl) (hs _ _ (by simp)) T.cl T.na_last (by show 2 < 1000; decide) ?_
    refine sp_fld (ev_cb (ea_cons (ev_var rfl) ea_nil) (cd_len .tup)) (ev_var rfl) (hs _ _ (by simp)) T.cl T.na_depth (by show 3 < 1000; decide) ?_
    refine sp_fld1 (d := .tup (L.flatten.map rowD)) (ev_cb (ea_cons (EvN.ev (en_flat (G := G0) (G1 := G0) (ds := L.map layD) (is := [4]) (is1 := [5]) (it_tup (ev_var rfl)) inn (fun _ e => e) ?_ (fun _ _ => trivial) (fun _ _ => trivial) (by decide) (by decide) (by decide) (fun d env => env.set 4 (some (.d d))) (fun d e env => env.set 5 (some (.d e))) fun i d hd => ⟨tg_name, ?_, fun j e he => ⟨tg_name, ev_var rfl⟩⟩)) ea_nil) (cd_tup ?_)) (ev_var rfl) (hs _ _ (by simp)) T.cl T.na_units (by show 4 < 1000; decide) ⟨rfl, ?_⟩
    · rw [flat_lays, List.length_map]
      exact size_1000 (by have := hw.u; omega)
    · rw [List.getElem?_map, Option.map_eq_some_iff] at hd
      obtain ⟨l, _, rfl⟩ := hd
      exact it_tup (ev_var rfl)
    · rw [flat_lays]; exact .lst
    · have e : ∀ (x : Nat), (L.map layD).length = L.length := fun _ => List.length_map ..
      simp only [List.set_set, List.length_map]
      rw [List.take_of_length_le (by simp)]
      rfl
theorem ok_Networku_equ (T : Txt K mg) : FnOk P w K mg base CX0 1 T.a_Networku_equ T.d_Networku_equ ["self", "value"] (SpD K (gEq T.C)) := by
  refine T.F_Networku_equ.ok sc_Networku_equ (spd_len (k := 2) fun ss S r S' hg => ?_) (fun cdv A outer s H vs Q E hr h => ⟨_, (pss_one (ps_ret (pe_and (pe_callB call_isi (by rfl) T.n_isinstance (by decide +kernel) (pa_cons (pv 1) (pa_cons (pe_glob (v := .ref T.C) rfl T.m_Network rfl) pa_nil))) (pe_and (pe_cmpR op_eq (pe_fld (pv 0) rfl) (pe_fld (pv 1) rfl) (nomark _)) (pe_and (pe_cmpR (op_eqDK K hr.units) (pe_fld (pv 0) rfl) (pe_fld (pv 1) rfl) (nomark _)) (pe_one (pe_cmpR (op_eqDK K hr.units) (pe_fld (pv 0) rfl) (pe_fld (pv 1) rfl) (nomark _)))))))), sp_body h fun ss S r S' hg => ?_⟩)
  · rcases hg with ⟨i, n, l, r, a, b, rfl, _⟩ | ⟨n, l, a, d, rfl, _⟩ <;> rfl
  · rcases hg with ⟨n, n', L, L', last, last', rfl, rfl, rfl⟩ | ⟨n, L, last, d, rfl, hd, rfl, rfl⟩
    · refine sp_ret ((ev_andV (a := true) (ev_cb (ea_cons (ev_var rfl) (ea_cons ev_adr ea_nil)) (cd_isiO T.isC T.kC)) fun _ => ev_andV (ev_op (ev_fld (ev_var rfl) T.cl T.na_inputs rfl) (ev_fld (ev_var rfl) T.cl T.na_inputs rfl) op2_eq_int) fun _ => ev_andV (ev_op (ev_fld (ev_var rfl) T.cl T.na_layers rfl) (ev_fld (ev_var rfl) T.cl T.na_layers rfl) (op2_eqD (plS_d (pl_lays L)) (plS_d (pl_lays L')) (by decide) (by decide))) fun _ => (ev_op (ev_fld (ev_var rfl) T.cl T.na_last rfl) (ev_fld (ev_var rfl) T.cl T.na_last rfl) (op2_eqD (plS_d (pl_row last)) (plS_d (pl_row last')) (by decide) (by decide)))).to (r' := .d (.bl (decide ((n = n' ∧ L = L') ∧ last = last')))) ?_) ⟨rfl, List.take_length⟩
      rw [eq_lays, eq_row]
      by_cases h1 : n = n' <;> by_cases h2 : L = L' <;> by_cases h3 : last = last' <;> simp [h1, h2, h3]
      all_goals omega
    · obtain ⟨t, ht, hk⟩ : ∃ t, tyD d = some t ∧ PySem.W.kitOne K (.type t) (.ref T.C) = some false := by
        rcases hd with rfl | ⟨i, rfl⟩ | ⟨ds, rfl⟩
        · exact ⟨_, rfl, T.kt_non⟩
        · exact ⟨_, rfl, T.kt_int⟩
        · exact ⟨_, rfl, T.kt_tup⟩
      exact sp_ret (d := .bl false) ((ev_andV (a := false) (b := false) (ev_cb (ea_cons (ev_var rfl) (ea_cons ev_adr ea_nil)) (cd_isiN ht hk)) fun h => by cases h).to rfl) ⟨rfl, List.take_length⟩
end
end N20

set_option Elab.async false
set_option linter.all false
set_option maxRecDepth 100000
set_option maxHeartbeats 4000000
namespace N20
open PySem PySem.Spec PyProof.Rows L2 RW

theorem rep_flatP {α : Type} (a : α) : ∀ n : Nat, (List.replicate n [a]).flatten = List.replicate n a
  | 0 => rfl
  | n + 1 => by rw [List.replicate_succ, List.flatten_cons, rep_flatP a n, List.replicate_succ]; rfl
theorem cutP_drop {α : Type} (f : α → Dat) (xs : List α) (n : Nat) : RW.cutD (xs.map f) (some (n : Int)) none = (xs.drop n).map f := by
  unfold RW.cutD
  rw [HT.sIx_none, HT.sIx_nat, List.length_map, List.map_drop]
  by_cases h : n ≤ xs.length
  · rw [Nat.min_eq_left h, List.take_of_length_le (by rw [List.length_drop, List.length_map]; omega)]
  · rw [Nat.min_eq_right (by omega), Nat.sub_self, List.take_zero, List.drop_eq_nil_of_le (by rw [List.length_map]; omega)]
def gUV (C : Addr) (ss : List Sl) (S : List Dat) (r : Dat) (S' : List Dat) : Prop := ∃ (n : Nat) (L : Lays) (last row : List Int), ss = [.d (netD C n L last), .d (rowD row)] ∧ Rw row n ∧ Wf n L last ∧ r = rowD ((vals L row).drop n) ∧ S' = S
def gPat (C : Addr) (ss : List Sl) (S : List Dat) (r : Dat) (S' : List Dat) : Prop := ∃ (n : Nat) (L : Lays) (last row : List Int), ss = [.d (netD C n L last), .d (rowD row)] ∧ Rw row n ∧ Wf n L last ∧ r = .tup (((vals L row).drop n).map fun x => Dat.bl (decide (0 < x))) ∧ S' = S
def unitR (n a : Nat) : List Int := (List.range n).map fun k => if k = a then 1 else 0
def gUnit (ss : List Sl) (S : List Dat) (r : Dat) (S' : List Dat) : Prop := ∃ (n a : Nat), ss = [.d (.int a), .d (.int n)] ∧ n ≤ 8 ∧ r = rowD (unitR n a) ∧ S' = S
def mixF (n : Nat) (ws : List Int) (rs : List (List Int)) : List Int := (ws.zip rs).foldl (fun t p => if p.1 = 0 then t else (t.zip p.2).map fun q => q.1 + p.1 * q.2) (List.replicate n 0)
def gMix (ss : List Sl) (S : List Dat) (r : Dat) (S' : List Dat) : Prop := ∃ (ws : List Int) (rs : List (List Int)) (n : Nat), ss = [.d (rowD ws), .d (.lst (rs.map rowD)), .d (.int n)] ∧ n ≤ 8 ∧ (∀ x ∈ ws, Sh x) ∧ ws.length ≤ 1000 ∧ (∀ r ∈ rs, r.length = n ∧ Big 40000 r) ∧ r = rowD (mixF n ws rs) ∧ S' = S
def gForm (C : Addr) (ss : List Sl) (S : List Dat) (r : Dat) (S' : List Dat) : Prop := ∃ (row : List Int) (n : Nat), ss = [.d (rowD row)] ∧ Rw row n ∧ 1 ≤ n ∧ n ≤ 8 ∧ r = netD C n [] row ∧ S' = S
theorem mix_len {n : Nat} (ps : List (Int × List Int)) (h : ∀ p ∈ ps, p.2.length = n) : ∀ t : List Int, t.length = n → (ps.foldl (fun t p => if p.1 = 0 then t else (t.zip p.2).map fun q => q.1 + p.1 * q.2) t).length = n := by
  induction ps with
  | nil => intro t ht; exact ht
  | cons p ps ih =>
    intro t ht
    refine ih (fun q hq => h q (List.mem_cons_of_mem _ hq)) _ ?_
    show (if p.1 = 0 then t else (t.zip p.2).map fun q => q.1 + p.1 * q.2).length = n
    split
    · exact ht
    · rw [List.length_map, List.length_zip, ht, h p List.mem_cons_self, Nat.min_self]
theorem foldl_take {α β : Type} (f : β → α → β) (t : β) {xs : List α} {i : Nat} {a : α} (h : xs[i]? = some a) : (xs.take (i + 1)).foldl f t = f ((xs.take i).foldl f t) a := by
  obtain ⟨hl, e⟩ := List.getElem?_eq_some_iff.mp h
  rw [List.take_succ_eq_append_getElem hl, e, List.foldl_append]; rfl
section
variable {P : Program} {w : World} {K : PySem.W.Frag} {mg : Str → Option Value} {base : Heap}

end
end N20

set_option Elab.async false
set_option linter.all false
set_option maxRecDepth 100000
set_option maxHeartbeats 4000000
namespace N20
open PySem PySem.Spec PyProof.Rows L2 RW

/-! the mathematics of forms -/
theorem zip_takeR {α β : Type} : ∀ (u : List α) (v : List β) (m : Nat), u.length ≤ m → u.zip (v.take m) = u.zip v
  | [], _, _, _ => by simp
  | _ :: _, [], _, _ => by simp
  | x :: u, y :: v, 0, h => by simp at h
  | x :: u, y :: v, m + 1, h => by rw [List.take_succ_cons, List.zip_cons_cons, List.zip_cons_cons, zip_takeR u v m (by simpa using h)]
theorem dot_takeR (u v : List Int) (m : Nat) (h : u.length ≤ m) : dot u (v.take m) = dot u v := by unfold dot; rw [zip_takeR u v m h]
theorem dotC (x y : Int) (u v : List Int) : dot (x :: u) (y :: v) = x * y + dot u v := by unfold dot; rw [List.zip_cons_cons, List.map_cons, List.sum_cons]
theorem dotN (v : List Int) : dot [] v = 0 := by unfold dot; simp
theorem dotN2 (u : List Int) : dot u [] = 0 := by unfold dot; simp
def colF (n : Nat) (ws : List Int) (rs : List (List Int)) : List Int := (List.range n).map fun j => ((ws.zip rs).map fun p => p.1 * p.2.getD j 0).sum
theorem col_dot (n : Nat) (ws : List Int) (rs : List (List Int)) (j : Nat) : ((ws.zip rs).map fun p => p.1 * p.2.getD j 0).sum = dot ws (rs.map fun r => r.getD j 0) := by
  induction ws generalizing rs with
  | nil => simp [dotN]
  | cons w ws ih => cases rs with
    | nil => simp [dotN2]
    | cons r rs => rw [List.zip_cons_cons, List.map_cons, List.sum_cons, List.map_cons, dotC, ih]
theorem col_len (n : Nat) (ws : List Int) (rs : List (List Int)) : (colF n ws rs).length = n := by unfold colF; simp
theorem col_takeR (n : Nat) (ws : List Int) (rs : List (List Int)) (m : Nat) (h : ws.length ≤ m) : colF n ws (rs.take m) = colF n ws rs := by unfold colF; rw [zip_takeR ws rs m h]
theorem getD_zipadd (t r : List Int) (w : Int) (n j : Nat) (h1 : t.length = n) (h2 : r.length = n) : ((t.zip r).map fun q => q.1 + w * q.2).getD j 0 = t.getD j 0 + w * r.getD j 0 := by
  rw [List.getD_eq_getElem?_getD, List.getD_eq_getElem?_getD, List.getD_eq_getElem?_getD, List.getElem?_map]
  by_cases h : j < n
  · rw [List.getElem?_eq_getElem (by rw [List.length_zip]; omega), List.getElem?_eq_getElem (by omega), List.getElem?_eq_getElem (by omega), List.getElem_zip]; rfl
  · rw [List.getElem?_eq_none (by rw [List.length_zip]; omega), List.getElem?_eq_none (by omega), List.getElem?_eq_none (by omega)]; simp
theorem list_of_getD {t : List Int} {n : Nat} (h : t.length = n) : t = (List.range n).map fun j => t.getD j 0 := by
  apply List.ext_getElem
  · simp [h]
  · intro i h1 h2
    rw [List.getElem_map, List.getElem_range, List.getD_eq_getElem?_getD, List.getElem?_eq_getElem h1]; rfl
theorem mix_getD {n : Nat} : ∀ (ps : List (Int × List Int)), (∀ p ∈ ps, p.2.length = n) → ∀ (t : List Int), t.length = n → ∀ j, (ps.foldl (fun t p => if p.1 = 0 then t else (t.zip p.2).map fun q => q.1 + p.1 * q.2) t).getD j 0 = t.getD j 0 + (ps.map fun p => p.1 * p.2.getD j 0).sum
  | [], _, t, _, j => by simp
  | p :: ps, h, t, ht, j => by
    have hp := h p List.mem_cons_self
    rw [List.foldl_cons, List.map_cons, List.sum_cons]
    by_cases z : p.1 = 0
    · rw [if_pos z, mix_getD ps (fun q hq => h q (List.mem_cons_of_mem _ hq)) t ht j, z]; omega
    · rw [if_neg z, mix_getD ps (fun q hq => h q (List.mem_cons_of_mem _ hq)) _ (by rw [List.length_map, List.length_zip]; omega) j, getD_zipadd t p.2 p.1 n j ht hp]; omega
theorem mix_col {n : Nat} {ws : List Int} {rs : List (List Int)} (h : ∀ r ∈ rs, r.length = n) : mixF n ws rs = colF n ws rs := by
  have hz : ∀ p ∈ ws.zip rs, p.2.length = n := fun p hp => h _ (List.of_mem_zip hp).2
  have hl : (mixF n ws rs).length = n := mix_len (ws.zip rs) hz (List.replicate n 0) (by simp)
  rw [list_of_getD hl]
  unfold colF
  apply List.map_congr_left
  intro j hj
  have := mix_getD (ws.zip rs) hz (List.replicate n 0) (by simp) j
  unfold mixF
  rw [this]
  have e : (List.replicate n (0 : Int)).getD j 0 = 0 := by
    rw [List.getD_eq_getElem?_getD, List.getElem?_replicate]; split <;> rfl
  rw [e]; omega
theorem getD_big {b : Nat} {r : List Int} (h : Big b r) (j : Nat) : (r.getD j 0).natAbs < 2 ^ b := by
  rw [List.getD_eq_getElem?_getD]
  cases e : r[j]? with
  | none => exact Nat.pow_pos (by decide)
  | some x => exact h x (List.mem_of_getElem? e)
theorem col_big {n b : Nat} {ws : List Int} {rs : List (List Int)} (h1 : ∀ x ∈ ws, Sh x) (hl : ws.length ≤ 255) (h2 : ∀ r ∈ rs, Big b r) : Big (b + 208) (colF n ws rs) := fun y hy => by
  unfold colF at hy
  obtain ⟨j, _, rfl⟩ := List.mem_map.mp hy
  rw [col_dot n]
  exact dot_big h1 (fun z hz => by obtain ⟨r, hr, rfl⟩ := List.mem_map.mp hz; exact getD_big (h2 r hr) j) hl
/-- forms of inputs and units: on tells which units are on -/
def fms (n : Nat) (U : List (List Int)) (on : List Bool) : Nat → List (List Int)
  | 0 => (List.range n).map (unitR n)
  | k + 1 => fms n U on k ++ [if on.getD k false = true then colF n (U.getD k []) (fms n U on k) else List.replicate n 0]
def formG (n : Nat) (U : List (List Int)) (on : List Bool) (last : List Int) : List Int := colF n last (fms n U on U.length)
theorem fms_len (n : Nat) (U : List (List Int)) (on : List Bool) : ∀ k, (fms n U on k).length = n + k
  | 0 => by simp [fms]
  | k + 1 => by rw [fms, List.length_append, fms_len n U on k]; rfl
theorem fms_row (n : Nat) (U : List (List Int)) (on : List Bool) : ∀ k, ∀ r ∈ fms n U on k, r.length = n
  | 0, r, h => by
    rw [fms] at h
    obtain ⟨j, _, rfl⟩ := List.mem_map.mp h
    simp [unitR]
  | k + 1, r, h => by
    rw [fms] at h
    rcases List.mem_append.mp h with h | h
    · exact fms_row n U on k r h
    · rw [List.mem_singleton.mp h]; split
      · exact col_len ..
      · simp
theorem fms_take (n : Nat) (U : List (List Int)) (on : List Bool) (k : Nat) : ∀ d, (fms n U on (k + d)).take (n + k) = fms n U on k
  | 0 => by rw [Nat.add_zero, ← fms_len n U on k, List.take_length]
  | d + 1 => by
    rw [← Nat.add_assoc, fms, List.take_append_of_le_length (by rw [fms_len]; omega), fms_take n U on k d]
theorem fms_big (n : Nat) (U : List (List Int)) (on : List Bool) (hU : ∀ u ∈ U, (∀ x ∈ u, Sh x) ∧ u.length ≤ 255) : ∀ k, k ≤ U.length → ∀ r ∈ fms n U on k, Big (1 + 208 * k) r
  | 0, _, r, h => by
    rw [fms] at h
    obtain ⟨j, _, rfl⟩ := List.mem_map.mp h
    intro y hy
    unfold unitR at hy
    obtain ⟨i, _, rfl⟩ := List.mem_map.mp hy
    split <;> decide
  | k + 1, hk, r, h => by
    have ih := fms_big n U on hU k (by omega)
    rw [fms] at h
    rcases List.mem_append.mp h with h | h
    · exact (ih r h).mono (by omega)
    · rw [List.mem_singleton.mp h]
      have hlt : k < U.length := by omega
      have hg : U.getD k [] = U[k] := by rw [List.getD_eq_getElem?_getD, List.getElem?_eq_getElem hlt]; rfl
      split
      · rw [hg]
        have := hU _ (List.getElem_mem hlt)
        exact (col_big this.1 this.2 ih).mono (by omega)
      · intro y hy
        rw [List.eq_of_mem_replicate hy]
        exact Nat.pow_pos (by decide)
/-! values along the row -/
theorem vals_pre : ∀ (L : Lays) (row : List Int), (vals L row).take row.length = row
  | [], row => by show row.take row.length = row; exact List.take_length
  | l :: L, row => by
    show (vals L (row ++ l.map _)).take row.length = row
    have := vals_pre L (row ++ l.map fun u => max 0 (dot u row))
    have h2 := congrArg (List.take row.length) this
    rw [List.take_take, List.length_append, Nat.min_eq_left (by omega), List.take_left] at h2
    exact h2
theorem vals_at : ∀ (L : Lays) (w : Nat) (row : List Int), WL w L → row.length = w → ∀ k, k < L.flatten.length → (vals L row)[w + k]? = some (max 0 (dot (L.flatten.getD k []) ((vals L row).take (w + k))))
  | [], _, _, _, _, k, hk => by simp at hk
  | l :: L, w, row, hw, hr, k, hk => by
    have hl' : (row ++ l.map fun u => max 0 (dot u row)).length = w + l.length := by rw [List.length_append, List.length_map, hr]
    have hpre := vals_pre L (row ++ l.map fun u => max 0 (dot u row))
    rw [hl'] at hpre
    show (vals L (row ++ l.map fun u => max 0 (dot u row)))[w + k]? = _
    by_cases h : k < l.length
    · have h1 : (vals L (row ++ l.map fun u => max 0 (dot u row)))[w + k]? = ((vals L (row ++ l.map fun u => max 0 (dot u row))).take (w + l.length))[w + k]? := by rw [List.getElem?_take, if_pos (by omega)]
      rw [h1, hpre, List.getElem?_append_right (by omega), hr, Nat.add_sub_cancel_left, List.getElem?_map, List.getElem?_eq_getElem h]
      have hg : (l :: L).flatten.getD k [] = l[k] := by
        rw [List.getD_eq_getElem?_getD, List.flatten_cons, List.getElem?_append_left h, List.getElem?_eq_getElem h]; rfl
      rw [hg]
      show some _ = some _
      congr 2
      have hu := hw.1.2.2 l[k] (List.getElem_mem h)
      have e := dot_takeR l[k] (vals (l :: L) row) w (by rw [hu.1]; exact Nat.le_refl _)
      have e2 := dot_takeR l[k] (vals (l :: L) row) (w + k) (by rw [hu.1]; omega)
      have e3 := vals_pre (l :: L) row
      rw [hr] at e3
      rw [e2, ← e, e3]
    · rw [List.flatten_cons, List.length_append] at hk
      have ih := vals_at L (w + l.length) _ hw.2 hl' (k - l.length) (by omega)
      rw [show w + l.length + (k - l.length) = w + k by omega] at ih
      have hg : (l :: L).flatten.getD k [] = L.flatten.getD (k - l.length) [] := by
        rw [List.getD_eq_getElem?_getD, List.getD_eq_getElem?_getD, List.flatten_cons, List.getElem?_append_right (by omega)]
      rw [hg]
      exact ih
theorem dot_addL {n : Nat} : ∀ (t r x : List Int) (w : Int), t.length = r.length → dot ((t.zip r).map fun q => q.1 + w * q.2) x = dot t x + w * dot r x
  | [], [], x, w, _ => by simp [dotN]
  | a :: t, b :: r, [], w, _ => by simp [dotN2]
  | a :: t, b :: r, y :: x, w, h => by
    rw [List.zip_cons_cons, List.map_cons, dotC, dotC, dotC, dot_addL (n := n) t r x w (by simpa using h)]
    show (a + w * b) * y + _ = _
    rw [Int.mul_add, Int.add_mul, Int.mul_assoc]; omega
theorem mix_dot {n : Nat} (x : List Int) : ∀ (ps : List (Int × List Int)), (∀ p ∈ ps, p.2.length = n) → ∀ (t : List Int), t.length = n → dot (ps.foldl (fun t p => if p.1 = 0 then t else (t.zip p.2).map fun q => q.1 + p.1 * q.2) t) x = dot t x + (ps.map fun p => p.1 * dot p.2 x).sum
  | [], _, t, _ => by simp
  | p :: ps, h, t, ht => by
    have hp := h p List.mem_cons_self
    rw [List.foldl_cons, List.map_cons, List.sum_cons]
    by_cases z : p.1 = 0
    · rw [if_pos z, mix_dot x ps (fun q hq => h q (List.mem_cons_of_mem _ hq)) t ht, z]; omega
    · rw [if_neg z, mix_dot x ps (fun q hq => h q (List.mem_cons_of_mem _ hq)) _ (by rw [List.length_map, List.length_zip]; omega), dot_addL (n := n) t p.2 x p.1 (by omega)]; omega
theorem dot_zeros (n : Nat) (x : List Int) : dot (List.replicate n 0) x = 0 := by
  induction n generalizing x with
  | zero => exact dotN x
  | succ n ih => cases x with
    | nil => exact dotN2 _
    | cons y x => rw [List.replicate_succ, dotC, ih]; omega
theorem sum_zip (ws : List Int) (rs : List (List Int)) (x : List Int) : ((ws.zip rs).map fun p => p.1 * dot p.2 x).sum = dot ws (rs.map fun r => dot r x) := by
  induction ws generalizing rs with
  | nil => simp [dotN]
  | cons w ws ih => cases rs with
    | nil => simp [dotN2]
    | cons r rs => rw [List.zip_cons_cons, List.map_cons, List.sum_cons, List.map_cons, dotC, ih]
theorem col_value {n : Nat} {ws : List Int} {rs : List (List Int)} (h : ∀ r ∈ rs, r.length = n) (x : List Int) : dot (colF n ws rs) x = dot ws (rs.map fun r => dot r x) := by
  rw [← mix_col h]
  unfold mixF
  rw [mix_dot x (ws.zip rs) (fun p hp => h _ (List.of_mem_zip hp).2) (List.replicate n 0) (by simp), dot_zeros, sum_zip]; omega
theorem dot_unit (n : Nat) (a : Nat) (x : List Int) (hx : x.length = n) (ha : a < n) : dot (unitR n a) x = x.getD a 0 := by
  have gen : ∀ (x : List Int) (s : Nat) (b : Nat), dot ((List.range' s x.length).map fun k => if k = s + b then (1 : Int) else 0) x = x.getD b 0 := by
    intro x
    induction x with
    | nil => intro s b; simp [dotN]
    | cons y x ih =>
      intro s b
      rw [List.length_cons, List.range'_succ, List.map_cons, dotC]
      cases b with
      | zero =>
        have h0 : dot ((List.range' (s + 1) x.length).map fun k => if k = s + 0 then (1 : Int) else 0) x = 0 := by
          have : ((List.range' (s + 1) x.length).map fun k => if k = s + 0 then (1 : Int) else 0) = List.replicate x.length 0 := by
            apply List.ext_getElem
            · simp
            · intro i h1 h2
              rw [List.getElem_map, List.getElem_range', List.getElem_replicate, if_neg (by omega)]
          rw [this, dot_zeros]
        rw [h0]; simp
      | succ b =>
        have := ih (s + 1) b
        rw [show s + 1 + b = s + (b + 1) by omega] at this
        rw [this, if_neg (by omega)]; simp
  have := gen x 0 a
  rw [← List.range_eq_range', hx] at this
  unfold unitR
  simpa using this
def onF (n : Nat) (L : Lays) (row : List Int) : List Bool := ((vals L row).drop n).map fun x => decide (0 < x)
theorem fms_vals {n : Nat} {L : Lays} {row : List Int} (hw : WL n L) (hr : row.length = n) : ∀ k, k ≤ L.flatten.length → (fms n L.flatten (onF n L row) k).map (fun r => dot r row) = (vals L row).take (n + k)
  | 0, _ => by
    have := vals_pre L row
    rw [hr] at this
    rw [Nat.add_zero, this, fms, List.map_map]
    conv => rhs; rw [list_of_getD hr]
    apply List.map_congr_left
    intro j hj
    exact dot_unit n j row hr (List.mem_range.mp hj)
  | k + 1, hk => by
    have ih := fms_vals hw hr k (by omega)
    have ha := vals_at L n row hw hr k (by omega)
    have hl := vals_len L row
    rw [hr] at hl
    rw [fms, List.map_append, ih, ← Nat.add_assoc]
    obtain ⟨hlt, he⟩ := List.getElem?_eq_some_iff.mp ha
    rw [List.take_succ_eq_append_getElem hlt, he]
    congr 1
    show [dot (if (onF n L row).getD k false = true then _ else _) row] = _
    have hon : (onF n L row).getD k false = decide (0 < max 0 (dot (L.flatten.getD k []) ((vals L row).take (n + k)))) := by
      unfold onF
      rw [List.getD_eq_getElem?_getD, List.getElem?_map, List.getElem?_drop, ha]; rfl
    rw [hon]
    by_cases hp : 0 < max 0 (dot (L.flatten.getD k []) ((vals L row).take (n + k)))
    · rw [if_pos (decide_eq_true hp), col_value (fms_row n _ _ k), ih]
      congr 1; omega
    · rw [if_neg (by simpa using hp), dot_zeros]
      congr 1; omega
theorem form_value {n : Nat} {L : Lays} {last row : List Int} (hw : Wf n L last) (hr : row.length = n) : dot (formG n L.flatten (onF n L row) last) row = dot last (vals L row) := by
  have hl := vals_len L row
  rw [hr] at hl
  unfold formG
  rw [col_value (fms_row n _ _ _), fms_vals hw.wl hr _ (Nat.le_refl _), List.take_of_length_le (by omega)]
/-! seven times the row -/
theorem dot_mul (c : Int) : ∀ (u v : List Int), dot u (v.map fun x => c * x) = c * dot u v
  | [], v => by simp [dotN]
  | x :: u, [] => by simp [dotN2]
  | x :: u, y :: v => by rw [List.map_cons, dotC, dotC, dot_mul c u v, Int.mul_add, ← Int.mul_assoc, Int.mul_comm x c, Int.mul_assoc]
theorem vals_mul {c : Int} (hc : 0 ≤ c) : ∀ (L : Lays) (row : List Int), vals L (row.map fun x => c * x) = (vals L row).map fun x => c * x
  | [], row => rfl
  | l :: L, row => by
    show vals L (row.map (fun x => c * x) ++ l.map fun u => max 0 (dot u (row.map fun x => c * x))) = (vals L (row ++ l.map fun u => max 0 (dot u row))).map fun x => c * x
    rw [← vals_mul hc L]
    congr 1
    rw [List.map_append, List.map_map]
    congr 1
    apply List.map_congr_left
    intro u _
    rw [dot_mul]
    show max 0 (c * dot u row) = c * max 0 (dot u row)
    by_cases h : 0 ≤ dot u row
    · rw [Int.max_eq_right h, Int.max_eq_right (Int.mul_nonneg hc h)]
    · have h1 : dot u row ≤ 0 := by omega
      rw [Int.max_eq_left h1, Int.max_eq_left (Int.mul_nonpos_of_nonneg_of_nonpos hc h1)]; simp
theorem value_mul {c : Int} (hc : 0 ≤ c) (L : Lays) (last row : List Int) : dot last (vals L (row.map fun x => c * x)) = c * dot last (vals L row) := by rw [vals_mul hc, dot_mul]
end N20

set_option Elab.async false
set_option linter.all false
set_option maxRecDepth 100000
set_option maxHeartbeats 4000000
namespace N20
open PySem PySem.Spec PyProof.Rows L2 RW

abbrev Vt := Int × Int × Int
def vatD (v : Vt) : Dat := .lst [.int v.1, .int v.2.1, .int v.2.2]
def drawF (v : Vt) (t : Int) : Int × Vt :=
  if 0 < v.1 then (v.1 % t, (v.1 / t, v.2.1, v.2.2)) else
    ((((((v.2.1 + 9699713 * (v.2.2 + 1)) % 2305843009213693951) * ((v.2.1 + 9699713 * (v.2.2 + 1)) % 2305843009213693951) + 335 * (v.2.2 + 1)) % 2305843009213693921 * 5800079 + (v.2.1 + 9699713 * (v.2.2 + 1)) % 2305843009213693951) / 65537) % t, (v.1, v.2.1, v.2.2 + 1))
theorem draw_nn (v : Vt) {t : Int} (h : 0 < t) : 0 ≤ (drawF v t).1 := by
  unfold drawF; split <;> exact Int.emod_nonneg _ (by omega)
theorem draw_lt (v : Vt) {t : Int} (h : 0 < t) : (drawF v t).1 < t := by
  unfold drawF; split <;> exact Int.emod_lt_of_pos _ h
def foldF {α β : Type} (f : Vt → α → β × Vt) : List α → Vt → List β × Vt
  | [], v => ([], v)
  | x :: xs, v => ((f v x).1 :: (foldF f xs (f v x).2).1, (foldF f xs (f v x).2).2)
theorem foldF_len {α β : Type} (f : Vt → α → β × Vt) : ∀ (xs : List α) (v : Vt), (foldF f xs v).1.length = xs.length
  | [], _ => rfl
  | x :: xs, v => by rw [foldF, List.length_cons, List.length_cons, foldF_len f xs]
theorem foldF_get {α β : Type} (f : Vt → α → β × Vt) : ∀ (xs : List α) (v : Vt) (i : Nat) (a : α), xs[i]? = some a → (foldF f xs v).1[i]? = some (f (foldF f (xs.take i) v).2 a).1
  | [], _, _, _, h => by simp at h
  | x :: xs, v, 0, a, h => by simp at h; subst h; rfl
  | x :: xs, v, i + 1, a, h => by
    rw [foldF, List.getElem?_cons_succ, foldF_get f xs _ i a (by simpa using h), List.take_succ_cons, foldF]
theorem foldF_step {α β : Type} (f : Vt → α → β × Vt) : ∀ (xs : List α) (v : Vt) (i : Nat) (a : α), xs[i]? = some a → (foldF f (xs.take (i + 1)) v).2 = (f (foldF f (xs.take i) v).2 a).2
  | [], _, _, _, h => by simp at h
  | x :: xs, v, 0, a, h => by simp at h; subst h; simp [foldF]
  | x :: xs, v, i + 1, a, h => by
    rw [List.take_succ_cons, foldF, foldF_step f xs _ i a (by simpa using h), List.take_succ_cons, foldF]
theorem foldF_mem {α β : Type} {f : Vt → α → β × Vt} {p : β → Prop} : ∀ (xs : List α) (v : Vt), (∀ v, ∀ a ∈ xs, p (f v a).1) → ∀ b ∈ (foldF f xs v).1, p b
  | [], _, _, _, h => by simp [foldF] at h
  | x :: xs, v, hp, b, h => by
    rw [foldF, List.mem_cons] at h
    rcases h with rfl | h
    · exact hp v x List.mem_cons_self
    · exact foldF_mem xs _ (fun v a ha => hp v a (List.mem_cons_of_mem _ ha)) b h
def gDraw (ss : List Sl) (S : List Dat) (r : Dat) (S' : List Dat) : Prop := ∃ (k : Nat) (v : Vt) (t : Int), ss = [.c k, .d (.int t)] ∧ S[k]? = some (vatD v) ∧ 0 < t ∧ t < 2 ^ 100 ∧ r = .int (drawF v t).1 ∧ S' = S.set k (vatD (drawF v t).2)
def pickF (v : Vt) (ns : List Int) : Int × Vt := (ns.getD (drawF v ns.length).1.toNat 0, (drawF v ns.length).2)
theorem pick_in (v : Vt) {ns : List Int} (h : ns ≠ []) : (pickF v ns).1 ∈ ns := by
  have hp : 0 < (ns.length : Int) := by have := List.length_pos_iff.mpr h; omega
  have h1 := draw_nn v hp
  have h2 := draw_lt v hp
  have hl : (drawF v ns.length).1.toNat < ns.length := by omega
  show ns.getD _ 0 ∈ ns
  rw [List.getD_eq_getElem?_getD, List.getElem?_eq_getElem hl]
  exact List.getElem_mem _
def gPick (ss : List Sl) (S : List Dat) (r : Dat) (S' : List Dat) : Prop := ∃ (k : Nat) (v : Vt) (ns : List Int), ss = [.c k, .d (.lst (ns.map Dat.int))] ∧ S[k]? = some (vatD v) ∧ ns ≠ [] ∧ ns.length ≤ 1000 ∧ r = .int (pickF v ns).1 ∧ S' = S.set k (vatD (pickF v ns).2)
theorem set_get {S : List Dat} {k : Nat} {d e : Dat} (h : S[k]? = some d) : (S.set k e)[k]? = some e := List.getElem?_set_self (List.getElem?_eq_some_iff.mp h).1
theorem set_id {S : List Dat} {k : Nat} {d : Dat} (h : S[k]? = some d) : S.set k d = S := by
  obtain ⟨hl, e⟩ := List.getElem?_eq_some_iff.mp h
  rw [← e]; exact List.set_getElem_self hl
theorem ixN_nat {m p : Nat} (h : p < m) : ixN m (p : Int) = some p := by
  unfold ixN
  simp
  omega
theorem atI_nat {α : Type} {xs : List α} {p : Nat} (h : p < xs.length) : atI xs (p : Int) = some xs[p] := by
  unfold atI
  rw [ixN_nat h]
  exact List.getElem?_eq_getElem h
theorem atI_map {α : Type} {f : α → Dat} {xs : List α} {p : Nat} {a : α} (h : xs[p]? = some a) : atI (xs.map f) (p : Int) = some (f a) := by
  obtain ⟨hl, e⟩ := List.getElem?_eq_some_iff.mp h
  rw [atI_nat (by rw [List.length_map]; exact hl), List.getElem_map, e]
section
variable {P : Program} {w : World} {K : PySem.W.Frag} {mg : Str → Option Value} {base : Heap}

theorem ok__law_draw (T : Txt K mg) : FnOk P w K mg base CX0 1 T.a__law_draw T.d__law_draw ["vat", "total"] (SpD K (gDraw)) := by
  refine T.F__law_draw.ok sc__law_draw (spd_len (k := 2) fun ss S r S' hg => ?_) (fun cdv A outer s H vs Q E hr h => ⟨_, (pss_cons (ps_if (pt_cmpR op_gt (pe_ix (ix_seqK K) (pv 0) pe_int (fun _ _ => rfl)) pe_int (nomark _)) (pss_cons (ps_set (i := 2) sc__law_draw.nd rfl (by first | exact Or.inl rfl | exact Or.inr rfl) (pe_op op_mod (pe_callTy call_intD (by rfl) T.n_int (by decide +kernel) (pa_cons (pe_ix (ix_seqK K) (pv 0) pe_int (fun _ _ => rfl)) pa_nil)) (pv 1))) (pss_cons (ps_asg (pe_op op_fdivW (pe_ix (ix_seqK K) (pv 0) pe_int (fun _ _ => rfl)) (pv 1)) (pg_sub (pv 0) pe_int set_list)) (pss_one (ps_ret (pv 2))))) pss_nil) (pss_cons (ps_asg (pe_op op_add (pe_ix (ix_seqK K) (pv 0) pe_int (fun _ _ => rfl)) pe_int) (pg_sub (pv 0) pe_int set_list)) (pss_cons (ps_set (i := 3) sc__law_draw.nd rfl (by first | exact Or.inl rfl | exact Or.inr rfl) (pe_op op_mod (pe_callTy call_intD (by rfl) T.n_int (by decide +kernel) (pa_cons (pe_op op_add (pe_ix (ix_seqK K) (pv 0) pe_int (fun _ _ => rfl)) (pe_op op_mul pe_int (pe_ix (ix_seqK K) (pv 0) pe_int (fun _ _ => rfl)))) pa_nil)) pe_int)) (pss_cons (ps_set (i := 4) sc__law_draw.nd rfl (by first | exact Or.inl rfl | exact Or.inr rfl) (pe_op op_add (pe_op op_mul (pe_op op_mod (pe_callTy call_intD (by rfl) T.n_int (by decide +kernel) (pa_cons (pe_op op_add (pe_op op_mul (pv 3) (pv 3)) (pe_op op_mul pe_int (pe_ix (ix_seqK K) (pv 0) pe_int (fun _ _ => rfl)))) pa_nil)) pe_int) pe_int) (pv 3))) (pss_one (ps_ret (pe_op op_mod (pe_callTy call_intD (by rfl) T.n_int (by decide +kernel) (pa_cons (pe_op op_fdivW (pv 4) pe_int) pa_nil)) (pv 1)))))))), sp_body h fun ss S r S' hg => ?_⟩)
  · obtain ⟨i, n, l, rfl, _⟩ := hg; rfl
  · obtain ⟨k, v, t, rfl, hk, ht, htw, rfl, rfl⟩ := hg
    have hs : ∀ (x : Dat), (S.set k x).take S.length = S.set k x := fun x => List.take_of_length_le (by simp)
    refine sp_ifq (b := decide (0 < v.1)) (et_test (ev_op (ev_op (ev_var rfl) ev_int (op2_ix (.cell hk) rfl)) ev_int o_gt)) (fun hh => ?_) fun hh => sp_nextq ?_
    · have hp := of_decide_eq_true hh
      refine sp_assoc (sp_set (ev_op (ev_cb (ea_cons (ev_op (ev_var rfl) ev_int (op2_ix (.cell hk) rfl)) ea_nil) cd_int) (ev_var rfl) (o_mod ht)) (sp_assoc (sp_setitem (j := 0) (ev_op (ev_op (ev_var rfl) ev_int (op2_ix (.cell hk) rfl)) (ev_var rfl) (o_fdivW ⟨ht, ?_⟩)) (ev_var rfl) ev_int hk rfl (sp_retq (sp_ret (ev_var rfl) ⟨?_, ?_⟩)))))
      · have h2 : t.natAbs < 2 ^ 100 := by omega
        have : t.natAbs.log2 < 100 := (Nat.log2_lt (by omega)).mpr h2
        omega
      · unfold drawF; rw [if_pos hp]
      · rw [hs]; unfold drawF; rw [if_pos hp]; rfl
    · have hp := of_decide_eq_false hh
      have h1 : ∀ x : Int, 0 ≤ x % 2305843009213693951 ∧ x % 2305843009213693951 < 2305843009213693951 := fun x => ⟨Int.emod_nonneg _ (by decide), Int.emod_lt_of_pos _ (by decide)⟩
      refine sp_setitem (j := 2) (ev_op (ev_op (ev_var rfl) ev_int (op2_ix (.cell hk) rfl)) ev_int o_add) (ev_var rfl) ev_int hk rfl ?_
      have hk2 := set_get (e := .lst [.int v.1, .int v.2.1, .int (v.2.2 + 1)]) hk
      refine sp_set (ev_op (ev_cb (ea_cons (ev_op (ev_op (ev_var rfl) ev_int (op2_ix (.cell hk2) rfl)) (ev_op ev_int (ev_op (ev_var rfl) ev_int (op2_ix (.cell hk2) rfl)) (o_mul (cm_l (by decide) (by decide)))) o_add) ea_nil) cd_int) ev_int (o_mod (by decide))) ?_
      refine sp_set (ev_op (ev_op (ev_op (ev_cb (ea_cons (ev_op (ev_op (ev_var rfl) (ev_var rfl) (o_mul (cm_l ?_ ?_))) (ev_op ev_int (ev_op (ev_var rfl) ev_int (op2_ix (.cell hk2) rfl)) (o_mul (cm_l (by decide) (by decide)))) o_add) ea_nil) cd_int) ev_int (o_mod (by decide))) ev_int (o_mul (cm_r (by decide) (by decide)))) (ev_var rfl) o_add) ?_
      · have := h1 (v.2.1 + 9699713 * (v.2.2 + 1)); omega
      · have := h1 (v.2.1 + 9699713 * (v.2.2 + 1)); omega
      · refine sp_ret (ev_op (ev_cb (ea_cons (ev_op (ev_var rfl) ev_int (o_fdivW ⟨by decide, by decide⟩)) ea_nil) cd_int) (ev_var rfl) (o_mod ht)) ⟨?_, ?_⟩
        · unfold drawF; rw [if_neg hp]
        · refine (hs _).trans ?_
          unfold drawF; rw [if_neg hp]; rfl
theorem ok__law_pick (T : Txt K mg) : FnOk P w K mg base CX0 2 T.a__law_pick T.d__law_pick ["vat", "items"] (SpD K (gPick)) := by
  have G__law_draw := ok__law_draw (P := P) (w := w) (base := base) T
  have b__law_draw := T.b__law_draw
  refine T.F__law_pick.ok sc__law_pick (spd_len (k := 2) fun ss S r S' hg => ?_) (fun cdv A outer s H vs Q E hr h => ⟨_, (pss_one (ps_ret (pe_ix (ix_seqK K) (pv 1) (pe_call G__law_draw (hr.mono (by decide)) rfl T.m__law_draw T.k__law_draw b__law_draw .nil pass0 (pa_cons (pv 0) (pa_cons (pe_callB (call_lenK K) (by rfl) T.n_len (by decide +kernel) (pa_cons (pv 1) pa_nil)) pa_nil))) (fun _ _ => rfl)))), sp_body h fun ss S r S' hg => ?_⟩)
  · obtain ⟨i, n, l, rfl, _⟩ := hg; rfl
  · obtain ⟨k, v, ns, rfl, hk, hne, hl, rfl, rfl⟩ := hg
    have hp : 0 < (ns.length : Int) := by have := List.length_pos_iff.mpr hne; omega
    have h1 := draw_nn v hp
    have h2 := draw_lt v hp
    have hlt : (drawF v ns.length).1.toNat < ns.length := by omega
    refine sp_ret (S1 := S.set k (vatD (pickF v ns).2)) (ev_op (ev_var rfl) (ev_call (ea_cons (ev_var rfl) (ea_cons ((ev_cb (ea_cons (ev_var rfl) ea_nil) (cd_len .lst)).to (r' := .d (.int ns.length)) (by rw [List.length_map])) ea_nil)) ⟨k, v, ns.length, rfl, hk, hp, by omega, rfl, rfl⟩) (op2_ix .lst ?_)) ⟨rfl, List.take_of_length_le (by simp)⟩
    have e : (drawF v ns.length).1 = ((drawF v ns.length).1.toNat : Int) := by omega
    rw [e]
    refine atI_map ?_
    show ns[_]? = some (ns.getD _ 0)
    rw [List.getD_eq_getElem?_getD, List.getElem?_eq_getElem hlt]; rfl
end
end N20

set_option Elab.async false
set_option linter.all false
set_option maxRecDepth 100000
set_option maxHeartbeats 4000000
namespace N20
open PySem PySem.Spec PyProof.Rows L2 RW

def elemF (size : Int) (v : Vt) : Int × Vt := pickF (drawF v (2 * size + 1)).2 [0, 1, -1, 1, (drawF v (2 * size + 1)).1 - size]
def rowF (v : Vt) (m : Nat) (size : Int) : List Int × Vt := foldF (fun v _ => elemF size v) (List.range m) v
theorem rowF_len (v : Vt) (m : Nat) (size : Int) : (rowF v m size).1.length = m := by unfold rowF; rw [foldF_len, List.length_range]
theorem elemF_b (v : Vt) {size : Int} (h : 1 ≤ size) : -size ≤ (elemF size v).1 ∧ (elemF size v).1 ≤ size := by
  have h1 := draw_nn v (t := 2 * size + 1) (by omega)
  have h2 := draw_lt v (t := 2 * size + 1) (by omega)
  have := pick_in (drawF v (2 * size + 1)).2 (ns := [0, 1, -1, 1, (drawF v (2 * size + 1)).1 - size]) (by simp)
  unfold elemF
  simp only [List.mem_cons, List.mem_nil_iff, or_false] at this
  omega
theorem rowF_b (v : Vt) (m : Nat) {size : Int} (h : 1 ≤ size) : ∀ x ∈ (rowF v m size).1, -size ≤ x ∧ x ≤ size :=
  foldF_mem (p := fun x => -size ≤ x ∧ x ≤ size) _ _ fun v a _ => elemF_b v h
def gRow (ss : List Sl) (S : List Dat) (r : Dat) (S' : List Dat) : Prop := ∃ (k : Nat) (v : Vt) (m : Nat) (size : Int), ss = [.c k, .d (.int m), .d (.int size)] ∧ S[k]? = some (vatD v) ∧ m ≤ 1000 ∧ 1 ≤ size ∧ size ≤ 2 ^ 98 ∧ r = rowD (rowF v m size).1 ∧ S' = S.set k (vatD (rowF v m size).2)
def thinE (v : Vt) (w : Int) : Int × Vt := (if (drawF v 3).1 = 0 then w else 0, (drawF v 3).2)
def thinF (v : Vt) (row : List Int) (n : Nat) : List Int × Vt := (row.take n ++ (foldF thinE (row.drop n) v).1, (foldF thinE (row.drop n) v).2)
theorem thinF_len (v : Vt) (row : List Int) (n : Nat) : (thinF v row n).1.length = row.length := by
  unfold thinF
  rw [List.length_append, foldF_len, ← List.length_append, List.take_append_drop]
theorem thinF_b (v : Vt) (row : List Int) (n : Nat) {b : Int} (hb : 0 ≤ b) (h : ∀ x ∈ row, -b ≤ x ∧ x ≤ b) : ∀ x ∈ (thinF v row n).1, -b ≤ x ∧ x ≤ b := fun x hx => by
  rcases List.mem_append.mp hx with hx | hx
  · exact h x (List.mem_of_mem_take hx)
  · refine foldF_mem (p := fun x => -b ≤ x ∧ x ≤ b) _ _ (fun v a ha => ?_) x hx
    have := h a (List.mem_of_mem_drop ha)
    unfold thinE
    show -b ≤ (if _ then a else 0) ∧ (if _ then a else 0) ≤ b
    split <;> omega
def gThin (ss : List Sl) (S : List Dat) (r : Dat) (S' : List Dat) : Prop := ∃ (k : Nat) (v : Vt) (row : List Int) (n : Nat), ss = [.c k, .d (rowD row), .d (.int n)] ∧ S[k]? = some (vatD v) ∧ row.length ≤ 1000 ∧ r = rowD (thinF v row n).1 ∧ S' = S.set k (vatD (thinF v row n).2)
theorem cut_take {α : Type} (f : α → Dat) (xs : List α) (n : Nat) : RW.cutD (xs.map f) none (some (n : Int)) = (xs.take n).map f := by
  unfold RW.cutD
  rw [HT.sIx_none, HT.sIx_nat, List.drop_zero, Nat.sub_zero, List.length_map, List.map_take]
  apply List.ext_getElem?
  intro i
  rw [List.getElem?_take, List.getElem?_take]
  by_cases h : i < n
  · by_cases h2 : i < xs.length
    · rw [if_pos (by omega), if_pos h]
    · rw [if_neg (by omega), if_pos h, List.getElem?_eq_none (by rw [List.length_map]; omega)]
  · rw [if_neg (by omega), if_neg h]
theorem cut_drop {α : Type} (f : α → Dat) (xs : List α) (n : Nat) : RW.cutD (xs.map f) (some (n : Int)) none = (xs.drop n).map f := by
  unfold RW.cutD
  rw [HT.sIx_none, HT.sIx_nat, List.length_map, List.map_drop]
  by_cases h : n ≤ xs.length
  · rw [Nat.min_eq_left h, List.take_of_length_le (by rw [List.length_drop, List.length_map]; omega)]
  · rw [Nat.min_eq_right (by omega), Nat.sub_self, List.take_zero, List.drop_eq_nil_of_le (by rw [List.length_map]; omega)]
section
variable {P : Program} {w : World} {K : PySem.W.Frag} {mg : Str → Option Value} {base : Heap}

theorem ok__law_row (T : Txt K mg) : FnOk P w K mg base CX0 3 T.a__law_row T.d__law_row ["vat", "many", "size"] (SpD K (gRow)) := by
  have G__law_pick := ok__law_pick (P := P) (w := w) (base := base) T
  have b__law_pick := T.b__law_pick
  have G__law_draw := ok__law_draw (P := P) (w := w) (base := base) T
  have b__law_draw := T.b__law_draw
  refine T.F__law_row.ok sc__law_row (spd_len (k := 3) fun ss S r S' hg => ?_) (fun cdv A outer s H vs Q E hr h => ⟨_, (pss_one (ps_ret (pe_callTy (call_tupK K rfl) (by rfl) T.n_tuple (by decide +kernel) (pa_cons (pe_lc (own := [("place", 3)]) rfl sc__law_row.nd (pi_range1 (by rfl) T.n_range (pa_cons (pv 1) pa_nil)) (blkOk_by (own := [("place", 3)]) (N := ["vat", "many", "size", "place"]) (sc := (defScope s__law_row)) (by decide +kernel)) (fun _ _ _ _ _ => (pg_name (i := 3) sc__law_row.nd rfl (by first | exact Or.inl rfl | exact Or.inr rfl))) (fun _ _ _ _ _ => pts_nil) (fun _ _ _ _ _ => (pe_call G__law_pick (hr.mono (by decide)) rfl T.m__law_pick T.k__law_pick b__law_pick .nil pass0 (pa_cons (pv 0) (pa_cons (pe_lst (pa_cons pe_int (pa_cons pe_int (pa_cons (pe_un un_neg pe_int) (pa_cons pe_int (pa_cons (pe_op op_sub (pe_call G__law_draw (hr.mono (by decide)) rfl T.m__law_draw T.k__law_draw b__law_draw .nil pass0 (pa_cons (pv 0) (pa_cons (pe_op op_add (pe_op op_mul pe_int (pv 2)) pe_int) pa_nil))) (pv 2)) pa_nil)))))) pa_nil))))) pa_nil)))), sp_body h fun ss S r S' hg => ?_⟩)
  · obtain ⟨i, n, l, s, rfl, _⟩ := hg; rfl
  · obtain ⟨k, v, m, size, rfl, hk, hm, h1, h2, rfl, rfl⟩ := hg
    have hz : (List.range m).length ≤ sizeLine := size_1000 (by rw [List.length_range]; exact hm)
    have hN := en_fold (K := K) (te := tCall (SpD K gPick) [] E0 (tCons (tVar 0) (tCons (tLst (tCons (tC (.int 0)) (tCons (tC (.int 1)) (tCons (tUn (rU fun i => V.int (-i)) (tC (.int 1))) (tCons (tC (.int 1)) (tCons (tOp (rI0 fun i j => V.int (i - j)) (tCall (SpD K gDraw) [] E0 (tCons (tVar 0) (tCons (tOp (rI0 fun i j => V.int (i + j)) (tOp (rI CMul fun i j => V.int (i * j)) (tC (.int 2)) (tVar 2)) (tC (.int 1))) tNil))) (tVar 2)) tNil)))))) tNil)))
      (env := [some (.c k), some (.d (.int m)), some (.d (.int size)), none]) (S := S) (xs := List.range m) (g := fun i => Dat.int (0 + (i : Nat))) (es := (rowF v m size).1) Dat.int (fun i => S.set k (vatD (foldF (fun v _ => elemF size v) ((List.range m).take i) v).2)) (wi := iRng1 (tCons (tVar 1) tNil)) (tg := gName 3) (vs := [3]) (G := G0) (is := [3]) ?_ hz (by rw [rowF_len, List.length_range]) (fun _ _ _ => trivial) (fun i => by simp) (by decide) (fun i env => env.set 3 (some (.d (.int (0 + (i : Nat)))))) (fun i a b ha hb => ⟨tg_name, ?_⟩)
    · rw [List.take_of_length_le (Nat.le_refl _)] at hN
      refine sp_ret (ev_cb (ea_cons hN.ev ea_nil) (cd_tup .lst)) ⟨rfl, List.take_of_length_le (by simp)⟩
    · show IterD K _ _ S G0 _ (S.set k (vatD v))
      rw [set_id hk]
      exact it_rangeN (ea_cons (ev_var rfl) ea_nil) hm
    · have hb2 := foldF_get (fun v _ => elemF size v) (List.range m) v i a ha
      have hs2 := foldF_step (fun v _ => elemF size v) (List.range m) v i a ha
      rw [hs2]
      have e : b = (elemF size (foldF (fun v _ => elemF size v) ((List.range m).take i) v).2).1 := Option.some.inj (hb.symm.trans hb2)
      subst e
      generalize (foldF (fun v _ => elemF size v) ((List.range m).take i) v).2 = vi
      have hki := set_get (e := vatD vi) hk
      have hk2 := set_get (e := vatD (drawF vi (2 * size + 1)).2) hk
      refine (ev_call (ea_cons (ev_var rfl) (ea_cons (EvN.ev (en_lst (S1 := S.set k (vatD (drawF vi (2 * size + 1)).2)) (ds := [0, 1, -1, 1, (drawF vi (2 * size + 1)).1 - size].map Dat.int) (ea_cons ev_int (ea_cons ev_int (ea_cons (ev_un ev_int o_neg) (ea_cons ev_int (ea_cons (ev_op (ev_call (ea_cons (ev_var rfl) (ea_cons (ev_op (ev_op ev_int (ev_var rfl) (o_mul (cm_l (by decide) (by decide)))) ev_int o_add) ea_nil)) ⟨k, vi, 2 * size + 1, rfl, hki, by omega, by omega, rfl, by rw [List.set_set]⟩) (ev_var rfl) o_sub) ea_nil))))) (by show 5 ≤ sizeLine; decide))) ea_nil)) ⟨k, (drawF vi (2 * size + 1)).2, _, rfl, hk2, by simp, by simp, rfl, ?_⟩)
      rw [List.set_set]; rfl
end
end N20

set_option Elab.async false
set_option linter.all false
set_option maxRecDepth 100000
set_option maxHeartbeats 4000000
namespace N20
open PySem PySem.Spec PyProof.Rows L2 RW

theorem rep_flatQ {α : Type} (a : α) : ∀ n : Nat, (List.replicate n [a]).flatten = List.replicate n a := rep_flatP a
def gFormAt (C : Addr) (ss : List Sl) (S : List Dat) (r : Dat) (S' : List Dat) : Prop := ∃ (n : Nat) (L : Lays) (last row : List Int), ss = [.d (netD C n L last), .d (rowD row)] ∧ Rw row n ∧ Wf n L last ∧ r = rowD (formG n L.flatten (onF n L row) last) ∧ S' = S
theorem WL_all : ∀ (L : Lays) (w : Nat), WL w L → ∀ u ∈ L.flatten, u.length ≤ w + L.flatten.length ∧ ∀ x ∈ u, Sh x
  | [], _, _, u, hu => by simp at hu
  | l :: L, w, h, u, hu => by
    rw [List.flatten_cons, List.length_append]
    rw [List.flatten_cons] at hu
    rcases List.mem_append.mp hu with hu | hu
    · have := h.1.2.2 u hu
      exact ⟨by have := this.1; omega, this.2⟩
    · have := WL_all L _ h.2 u hu
      exact ⟨by have := this.1; omega, this.2⟩
theorem fms_ok {n : Nat} {L : Lays} {last : List Int} (hw : Wf n L last) (on : List Bool) {k : Nat} (hk : k ≤ L.flatten.length) : ∀ r ∈ fms n L.flatten on k, r.length = n ∧ Big 40000 r := fun r hr =>
  ⟨fms_row n _ on k r hr, (fms_big n L.flatten on (fun u hu => by
    have := WL_all L n hw.wl u hu
    have h1 := hw.u
    have h2 := hw.n8
    exact ⟨this.2, by omega⟩) k hk r hr).mono (by have := hw.u; omega)⟩
def numS (k : Nat) : Str := Str.ofString (toString ((k : Nat) : Int))
theorem numS_len : ∀ k, k < 200 → (numS k).length ≤ 3 := by decide +kernel
def toldF (L : Lays) : Str := if L = [] then Str.ofString "no layers" else Str.ofString "layers " ++ Txt.join (Str.ofString " ") (L.map fun l => numS l.length)
def gTold (ss : List Sl) (S : List Dat) (r : Dat) (S' : List Dat) : Prop := ∃ (L : Lays), ss = [.d (laysD L)] ∧ L.length ≤ 4 ∧ (∀ l ∈ L, l.length ≤ 64) ∧ r = .str (toldF L) ∧ S' = S
theorem log2_small {k : Nat} (h : k < 1000) : ((k : Nat) : Int).natAbs.log2 < 1920 := by
  rw [Int.natAbs_natCast]
  have : k.log2 ≤ 10 := log2_le (show k < 2 ^ 10 by omega)
  omega
theorem sum_le {xs : List Nat} {b : Nat} (h : ∀ x ∈ xs, x ≤ b) : xs.sum ≤ xs.length * b := by
  induction xs with
  | nil => simp
  | cons x xs ih =>
    rw [List.sum_cons, List.length_cons, Nat.add_mul, Nat.one_mul]
    have := h x List.mem_cons_self
    have := ih fun y hy => h y (List.mem_cons_of_mem _ hy)
    omega
theorem join_b {L : Lays} (h4 : L.length ≤ 4) (h64 : ∀ l ∈ L, l.length ≤ 64) : ((L.map fun l => numS l.length).map fun x => x.length).sum + (L.map fun l => numS l.length).length * (Str.ofString " ").length ≤ 100 := by
  have : ((L.map fun l => numS l.length).map fun x => x.length).sum ≤ ((L.map fun l => numS l.length).map fun x => x.length).length * 3 := sum_le fun x hx => by
    rw [List.map_map] at hx
    obtain ⟨l, hl, rfl⟩ := List.mem_map.mp hx
    exact numS_len _ (by have := h64 l hl; omega)
  rw [List.length_map, List.length_map] at this
  rw [List.length_map]
  have e : (Str.ofString " ").length = 1 := by decide +kernel
  rw [e]
  omega
section
variable {P : Program} {w : World} {K : PySem.W.Frag} {mg : Str → Option Value} {base : Heap}

end
end N20

set_option Elab.async false
set_option linter.all false
set_option maxRecDepth 100000
set_option maxHeartbeats 4000000
namespace N20
open PySem PySem.Spec PyProof.Rows L2 RW

theorem told_len {L : Lays} (h4 : L.length ≤ 4) (h64 : ∀ l ∈ L, l.length ≤ 64) : (toldF L).length ≤ 110 := by
  unfold toldF
  split
  · decide +kernel
  · have h1 := StrLaws.join_length_le (Str.ofString " ") (L.map fun l => numS l.length)
    rw [← TL.join_eq] at h1
    have h3 := Nat.le_trans h1 (join_b h4 h64)
    have h2 : (Str.ofString "layers ").length = 7 := by decide +kernel
    have h5 : ∀ a b : Str, (a ++ b).length = a.length + b.length := fun a b => Array.size_append
    rw [h5]
    omega
theorem app_len (a b : Str) : (a ++ b).length = a.length + b.length := Array.size_append
def strF (n : Nat) (L : Lays) : Str := ((Str.ofString "network of " ++ numS n) ++ Str.ofString " inputs, ") ++ toldF L
theorem Wf.l64 {n : Nat} {L : Lays} {last : List Int} (h : Wf n L last) : ∀ l ∈ L, l.length ≤ 64 := fun l hl => by
  obtain ⟨i, hi⟩ := List.mem_iff_getElem?.mp hl
  exact (h.wl.get hi).2.1
def gStr (C : Addr) (ss : List Sl) (S : List Dat) (r : Dat) (S' : List Dat) : Prop := ∃ (n : Nat) (L : Lays) (last : List Int), ss = [.d (netD C n L last)] ∧ Wf n L last ∧ r = .str (strF n L) ∧ S' = S
/-- the law's own product -/
def gLTold (ss : List Sl) (S : List Dat) (r : Dat) (S' : List Dat) : Prop := ∃ (u v : List Int) (y : Dat), ss = [.d (rowD u), .d y] ∧ (y = .lst (v.map Dat.int) ∨ y = rowD v) ∧ (∀ p ∈ u.zip v, CMulW p.1 p.2) ∧ u.length ≤ 1000 ∧ r = .int (dot u v) ∧ S' = S
theorem cm_sh {u v : List Int} (hu : ∀ x ∈ u, Sh x) (hv : Big 4000 v) : ∀ p ∈ u.zip v, CMulW p.1 p.2 := fun p hp => cmw (hu _ (List.of_mem_zip hp).1) (hv _ (List.of_mem_zip hp).2) (by decide)
def gNums (ss : List Sl) (S : List Dat) (r : Dat) (S' : List Dat) : Prop := ∃ (n : Nat) (L : Lays) (last row : List Int), ss = [.d (.int n), .d (laysD L), .d (rowD row)] ∧ Rw row n ∧ Wf n L last ∧ r = .lst ((vals L row).map Dat.int) ∧ S' = S
def gLVal (ss : List Sl) (S : List Dat) (r : Dat) (S' : List Dat) : Prop := ∃ (n : Nat) (L : Lays) (last row : List Int), ss = [.d (.int n), .d (laysD L), .d (rowD last), .d (rowD row)] ∧ Rw row n ∧ Wf n L last ∧ r = .int (dot last (vals L row)) ∧ S' = S
def gOn (ss : List Sl) (S : List Dat) (r : Dat) (S' : List Dat) : Prop := ∃ (n : Nat) (L : Lays) (last row : List Int), ss = [.d (.int n), .d (laysD L), .d (rowD row)] ∧ Rw row n ∧ Wf n L last ∧ r = .lst ((onF n L row).map Dat.bl) ∧ S' = S
theorem take_snoc {α : Type} {xs : List α} {i : Nat} {a : α} (h : xs[i]? = some a) : xs.take (i + 1) = xs.take i ++ [a] := by
  obtain ⟨hl, e⟩ := List.getElem?_eq_some_iff.mp h
  rw [List.take_succ_eq_append_getElem hl, e]
theorem sg_last {A : List Dat} {b : Dat} : (A ++ [b])[A.length]? = some b := by simp
theorem sg_set {A : List Dat} {b c : Dat} : (A ++ [b]).set A.length c = A ++ [c] := by simp
section
variable {P : Program} {w : World} {K : PySem.W.Frag} {mg : Str → Option Value} {base : Heap}

theorem ok__law_told (T : Txt K mg) : FnOk P w K mg base CX0 1 T.a__law_told T.d__law_told ["row", "numbers"] (SpD K (gLTold)) := by
  refine T.F__law_told.ok sc__law_told (spd_len (k := 2) fun ss S r S' hg => ?_) (fun cdv A outer s H vs Q E hr h => ⟨_, (pss_one (ps_ret (pe_callB (cr_sumK K) (by rfl) T.n_sum (by decide +kernel) (pa_cons (pe_lc (own := [("one", 2), ("other", 3)]) (g := gTup K 2 (gCons (gName 2) (gCons (gName 3) gNil))) rfl sc__law_told.nd (pi_zipGK K (by rfl) T.n_zip (pa_cons (pv 0) (pa_cons (pv 1) pa_nil))) (blkOk_by (own := [("one", 2), ("other", 3)]) (N := ["row", "numbers", "one", "other"]) (sc := (defScope s__law_told)) (by decide +kernel)) (fun _ _ _ _ _ => (pg_tup rfl (pgs_cons (pg_name (i := 2) sc__law_told.nd rfl (by first | exact Or.inl rfl | exact Or.inr rfl)) (pgs_cons (pg_name (i := 3) sc__law_told.nd rfl (by first | exact Or.inl rfl | exact Or.inr rfl)) pgs_nil)))) (fun _ _ _ _ _ => pts_nil) (fun _ _ _ _ _ => (pe_op op_mulW (pv 2) (pv 3)))) pa_nil)))), sp_body h fun ss S r S' hg => ?_⟩)
  · obtain ⟨i, n, y, rfl, _⟩ := hg; rfl
  · obtain ⟨u, v, y, rfl, hy, hc, hl, rfl, rfl⟩ := hg
    have hzz : (u.zip v).length ≤ sizeLine := size_1000 (by rw [List.length_zip]; omega)
    have hs : Seq S' (.d y) (v.map Dat.int) := by
      rcases hy with rfl | rfl
      · exact .lst
      · exact .tup
    refine sp_ret (d := .int (dot u v)) (ev_cb (ea_cons (EvN.ev (en_mapA (xs := u.zip v) (g := fun p => Dat.tup [.int p.1, .int p.2]) (is := [2, 3]) (fun p => Dat.int (p.1 * p.2)) (it_zipA (ea_cons (ev_var rfl) (ea_cons (ev_var rfl) ea_nil)) .tup hs) hzz (fun _ _ => trivial) (by decide) (fun p env => (env.set 2 (some (.d (.int p.1)))).set 3 (some (.d (.int p.2)))) fun a ha => ⟨tg_pair, ?_⟩)) ea_nil) (cd_sum (ns := (u.zip v).map fun p => p.1 * p.2) ?_)) ⟨rfl, List.take_length⟩
    · exact ev_op (ev_var rfl) (ev_var rfl) (o_mulW (hc a ha))
    · rw [List.map_map]; exact .lst
theorem ok__law_numbers (T : Txt K mg) : FnOk P w K mg base CX0 2 T.a__law_numbers T.d__law_numbers ["inputs", "layers", "row"] (SpD K (gNums)) := by
  have G__law_told := ok__law_told (P := P) (w := w) (base := base) T
  have b__law_told := T.b__law_told
  refine T.F__law_numbers.ok sc__law_numbers (spd_len (k := 3) fun ss S r S' hg => ?_) (fun cdv A outer s H vs Q E hr h => ⟨_, (pss_cons (ps_set (i := 3) sc__law_numbers.nd rfl (by first | exact Or.inl rfl | exact Or.inr rfl) (pe_callTy (call_lstD rfl) (by rfl) T.n_list (by decide +kernel) (pa_cons (pv 2) pa_nil))) (pss_cons (ps_for PassesOwn.never rfl (pi_seqK K (pv 1)) (pg_name (i := 4) sc__law_numbers.nd rfl (by first | exact Or.inl rfl | exact Or.inr rfl)) (pss_cons (ps_set (i := 5) sc__law_numbers.nd rfl (by first | exact Or.inl rfl | exact Or.inr rfl) (pe_lst pa_nil)) (pss_cons (ps_for PassesOwn.never rfl (pi_seqK K (pv 4)) (pg_name (i := 6) sc__law_numbers.nd rfl (by first | exact Or.inl rfl | exact Or.inr rfl)) (pss_cons (ps_set (i := 7) sc__law_numbers.nd rfl (by first | exact Or.inl rfl | exact Or.inr rfl) (pe_call G__law_told (hr.mono (by decide)) rfl T.m__law_told T.k__law_told b__law_told .nil pass0 (pa_cons (pv 6) (pa_cons (pv 3) pa_nil)))) (pss_one (ps_expr (pe_bm PySem.F.plainAttrs_list PySem.F.slot_list_append PySem.F.type_list_append mt_append (pv 5) (pa_cons (pe_ifExp (pt_cmpR op_gt (pv 7) pe_int (nomark _)) (pv 7) pe_int) pa_nil)))))) (pss_one (ps_set (i := 3) sc__law_numbers.nd rfl (by first | exact Or.inl rfl | exact Or.inr rfl) (pe_op op_cat (pv 3) (pv 5))))))) (pss_one (ps_ret (pv 3))))), sp_body h fun ss S r S' hg => ?_⟩)
  · obtain ⟨i, n, l, r, rfl, _⟩ := hg; rfl
  · obtain ⟨n, L, last, row, rfl, hrw, hw, rfl, eS⟩ := hg
    subst eS
    refine sp_set (EvN.ev (en_list (ea_cons (ev_var rfl) ea_nil) .tup)) ?_
    refine sp_seq (P' := { nx := fun env' S2 => (∃ G, S2 = S' ++ G) ∧ ∃ o1 o2 o3 o4, env' = [some (.d (.int n)), some (.d (laysD L)), some (.d (rowD row)), some (.d (.lst ((vals L row).map Dat.int))), o1, o2, o3, o4] })
      (sp_forA (xs := L) (g := layD) (it_tup (ev_var rfl)) (fun i env' S2 => (∃ G, S2 = S' ++ G) ∧ ∃ o1 o2 o3 o4, env' = [some (.d (.int n)), some (.d (laysD L)), some (.d (rowD row)), some (.d (.lst ((vals (L.take i) row).map Dat.int))), o1, o2, o3, o4]) ⟨⟨[], by simp⟩, none, none, none, none, rfl⟩ (fun _ _ _ _ _ _ _ _ _ => trivial) ?_ ?_) ?_
    · rintro i l env' S2 hl ⟨⟨G, rfl⟩, o1, o2, o3, o4, rfl⟩
      obtain ⟨h1, h2, h3⟩ := hw.wl.get hl
      have hlen := vals_len (L.take i) row
      rw [hrw.1] at hlen
      have hall := hw.all i
      have hbig := hw.big hrw i
      rw [vals_take hl]
      obtain ⟨F, hF⟩ : ∃ F, vals (L.take i) row = F := ⟨_, rfl⟩
      rw [hF] at hlen hbig ⊢
      refine ⟨[4], fun env => env.set 4 (some (.d (layD l))), tg_name, ?_⟩
      refine sp_setC (S1 := S' ++ G) (ds := []) (en_lst ea_nil (Nat.zero_le _)) ?_
      refine sp_seq (P' := { nx := fun env' S3 => S3 = S' ++ G ++ [.lst ((l.map fun u => max 0 (dot u F)).map Dat.int)] ∧ ∃ o3 o4, env' = [some (.d (.int n)), some (.d (laysD L)), some (.d (rowD row)), some (.d (.lst (F.map Dat.int))), some (.d (layD l)), some (.c (S' ++ G).length), o3, o4] })
        (sp_forA (xs := l) (g := rowD) (it_tup (ev_var rfl)) (fun j env' S3 => S3 = S' ++ G ++ [.lst (((l.take j).map fun u => max 0 (dot u F)).map Dat.int)] ∧ ∃ o3 o4, env' = [some (.d (.int n)), some (.d (laysD L)), some (.d (rowD row)), some (.d (.lst (F.map Dat.int))), some (.d (layD l)), some (.c (S' ++ G).length), o3, o4]) ⟨rfl, o3, o4, rfl⟩ (fun _ _ _ _ _ _ _ _ _ => trivial) ?_ ?_) ?_
      · rintro j u env' S3 hu ⟨rfl, o3, o4, rfl⟩
        obtain ⟨hul, hus⟩ := h3 u (List.mem_of_getElem? hu)
        refine ⟨[6], fun env => env.set 6 (some (.d (rowD u))), tg_name, ?_⟩
        refine sp_set (ev_call (ea_cons (ev_var rfl) (ea_cons (ev_var rfl) ea_nil)) ⟨u, F, _, rfl, .inl rfl, cm_sh hus hbig, by omega, rfl, rfl⟩) ?_
        refine sp_drop1 (ev_append (d := .int (max 0 (dot u F))) (ev_var rfl) (ev_if (b := decide (0 < dot u F)) (S1 := S' ++ G ++ [.lst (((l.take j).map fun u => max 0 (dot u F)).map Dat.int)]) (et_test (ev_op (ev_var rfl) ev_int o_gt)) (fun h => (ev_var rfl).to ?_) fun h => ev_int.to ?_) ⟨_, sg_last⟩ sg_last (by rw [List.length_map, List.length_map, List.length_take]; exact Nat.lt_of_le_of_lt (by omega : _ ≤ 64) (by decide))) ⟨?_, _, _, rfl⟩
        · have := of_decide_eq_true h; congr 2; omega
        · have := of_decide_eq_false h; congr 2; omega
        · rw [sg_set, take_snoc hu]; simp
      · rintro env' S3 ⟨rfl, o3, o4, rfl⟩
        rw [List.take_length]
        exact ⟨rfl, o3, o4, rfl⟩
      · rintro env' S3 ⟨rfl, o3, o4, rfl⟩
        refine sp_set1 (x := .d (.lst ((F ++ l.map fun u => max 0 (dot u F)).map Dat.int))) (S1 := S' ++ G ++ [.lst ((l.map fun u => max 0 (dot u F)).map Dat.int)]) ((EvN.ev (en_cat (ev_var rfl) (ev_var rfl) .lst (.cell sg_last) ?_)).to (by rw [List.map_append])) ⟨⟨G ++ [.lst ((l.map fun u => max 0 (dot u F)).map Dat.int)], by rw [List.append_assoc]⟩, _, _, _, _, rfl⟩
        rw [List.length_map, List.length_map, List.length_map, hlen]
        exact size_1000 (by omega)
    · rintro env' S2 ⟨⟨G, rfl⟩, o1, o2, o3, o4, rfl⟩
      rw [List.take_length]
      exact ⟨⟨G, rfl⟩, o1, o2, o3, o4, rfl⟩
    · rintro env' S2 ⟨⟨G, rfl⟩, o1, o2, o3, o4, rfl⟩
      exact sp_ret (ev_var rfl) ⟨rfl, by simp⟩
theorem ok__law_value (T : Txt K mg) : FnOk P w K mg base CX0 3 T.a__law_value T.d__law_value ["inputs", "layers", "last", "row"] (SpD K (gLVal)) := by
  have G__law_told := ok__law_told (P := P) (w := w) (base := base) T
  have b__law_told := T.b__law_told
  have G__law_numbers := ok__law_numbers (P := P) (w := w) (base := base) T
  have b__law_numbers := T.b__law_numbers
  refine T.F__law_value.ok sc__law_value (spd_len (k := 4) fun ss S r S' hg => ?_) (fun cdv A outer s H vs Q E hr h => ⟨_, (pss_one (ps_ret (pe_call G__law_told (hr.mono (by decide)) rfl T.m__law_told T.k__law_told b__law_told .nil pass0 (pa_cons (pv 2) (pa_cons (pe_call G__law_numbers (hr.mono (by decide)) rfl T.m__law_numbers T.k__law_numbers b__law_numbers .nil pass0 (pa_cons (pv 0) (pa_cons (pv 1) (pa_cons (pv 3) pa_nil)))) pa_nil))))), sp_body h fun ss S r S' hg => ?_⟩)
  · obtain ⟨i, n, l, r, rfl, _⟩ := hg; rfl
  · obtain ⟨n, L, last, row, rfl, hrw, hw, rfl, rfl⟩ := hg
    have hb := hw.big hrw L.length
    rw [List.take_length] at hb
    have := hw.u
    have := hw.n8
    exact sp_ret (ev_call (ea_cons (ev_var rfl) (ea_cons (ev_call (ea_cons (ev_var rfl) (ea_cons (ev_var rfl) (ea_cons (ev_var rfl) ea_nil))) ⟨n, L, last, row, rfl, hrw, hw, rfl, rfl⟩) ea_nil)) ⟨last, vals L row, _, rfl, .inl rfl, cm_sh hw.la.2 hb, by rw [hw.la.1]; omega, rfl, rfl⟩) ⟨rfl, List.take_length⟩
end
end N20

set_option Elab.async false
set_option linter.all false
set_option maxRecDepth 100000
set_option maxHeartbeats 4000000
namespace N20
open PySem PySem.Spec PyProof.Rows L2 RW

def layerF (wd : Nat) (sz : Int) (v : Vt) (seen : Nat) : List (List Int) × Vt := foldF (fun v (_ : Nat) => rowF v seen sz) (List.range (1 + (drawF v wd).1).toNat) (drawF v wd).2
def PF (wd : Nat) (sz : Int) (n : Nat) (v : Vt) : Nat → Lays × Vt
  | 0 => ([], v)
  | i + 1 => ((PF wd sz n v i).1 ++ [(layerF wd sz (PF wd sz n v i).2 (n + (PF wd sz n v i).1.flatten.length)).1], (layerF wd sz (PF wd sz n v i).2 (n + (PF wd sz n v i).1.flatten.length)).2)
def partsF (wd : Nat) (sz : Int) (v : Vt) (n depth : Nat) : (Lays × List Int) × Vt := (((PF wd sz n v depth).1, (rowF (PF wd sz n v depth).2 (n + (PF wd sz n v depth).1.flatten.length) sz).1), (rowF (PF wd sz n v depth).2 (n + (PF wd sz n v depth).1.flatten.length) sz).2)
def Sm (b : Int) (r : List Int) : Prop := ∀ x ∈ r, -b ≤ x ∧ x ≤ b
theorem layer_len {wd : Nat} {sz : Int} (hd : 1 ≤ wd) (v : Vt) (seen : Nat) : 1 ≤ (layerF wd sz v seen).1.length ∧ (layerF wd sz v seen).1.length ≤ wd := by
  have h1 := draw_nn v (t := (wd : Int)) (by omega)
  have h2 := draw_lt v (t := (wd : Int)) (by omega)
  unfold layerF
  rw [foldF_len, List.length_range]
  omega
theorem layer_mem {wd : Nat} {sz : Int} (hz : 1 ≤ sz) (v : Vt) (seen : Nat) : ∀ u ∈ (layerF wd sz v seen).1, u.length = seen ∧ Sm sz u :=
  foldF_mem (p := fun u : List Int => u.length = seen ∧ Sm sz u) _ _ fun v a _ => ⟨rowF_len .., rowF_b v seen hz⟩
/-- widths and sizes -/
def WLs (wd : Nat) (sz : Int) : Nat → Lays → Prop
  | _, [] => True
  | w, l :: L => (1 ≤ l.length ∧ l.length ≤ wd ∧ ∀ u ∈ l, u.length = w ∧ Sm sz u) ∧ WLs wd sz (w + l.length) L
theorem WLs.snoc {wd : Nat} {sz : Int} : ∀ {L : Lays} {w : Nat} {l : List (List Int)}, WLs wd sz w L → (1 ≤ l.length ∧ l.length ≤ wd ∧ ∀ u ∈ l, u.length = w + L.flatten.length ∧ Sm sz u) → WLs wd sz w (L ++ [l])
  | [], w, l, _, h => ⟨by simpa using h, trivial⟩
  | m :: L, w, l, h, q => ⟨h.1, WLs.snoc h.2 (by rw [List.flatten_cons, List.length_append, ← Nat.add_assoc] at q; exact q)⟩
theorem PF_ok {wd : Nat} {sz : Int} (hd : 1 ≤ wd) (hz : 1 ≤ sz) (n : Nat) (v : Vt) : ∀ i, (PF wd sz n v i).1.length = i ∧ WLs wd sz n (PF wd sz n v i).1 ∧ (PF wd sz n v i).1.flatten.length ≤ wd * i
  | 0 => ⟨rfl, trivial, Nat.le_refl _⟩
  | i + 1 => by
    obtain ⟨h1, h2, h3⟩ := PF_ok hd hz n v i
    have hl := layer_len (sz := sz) hd (PF wd sz n v i).2 (n + (PF wd sz n v i).1.flatten.length)
    refine ⟨by rw [PF, List.length_append, h1]; rfl, ?_, ?_⟩
    · rw [PF]
      exact h2.snoc ⟨hl.1, hl.2, layer_mem hz _ _⟩
    · rw [PF, List.flatten_append, List.length_append]
      simp only [List.flatten_cons, List.flatten_nil, List.append_nil]
      rw [Nat.mul_succ]
      omega
def gLParts (ss : List Sl) (S : List Dat) (r : Dat) (S' : List Dat) : Prop := ∃ (wd : Nat) (sz : Int) (k : Nat) (v : Vt) (n depth : Nat), ss = [.c k, .d (.int n), .d (.int depth), .d (.int (wd : Nat)), .d (.int sz)] ∧ S[k]? = some (vatD v) ∧ n ≤ 8 ∧ depth ≤ 4 ∧ 1 ≤ wd ∧ wd ≤ 8 ∧ 1 ≤ sz ∧ sz ≤ 2 ^ 98 ∧
  r = .tup [laysD (partsF wd sz v n depth).1.1, rowD (partsF wd sz v n depth).1.2] ∧ S' = S.set k (vatD (partsF wd sz v n depth).2)
theorem sa_set {S : List Dat} {k : Nat} {a b x : Dat} (h : k < S.length) : (S.set k a ++ [b]).set k x = S.set k x ++ [b] := by
  rw [List.set_append, if_pos (by simpa using h), List.set_set]
theorem sa_get {S : List Dat} {k : Nat} {a b : Dat} (h : k < S.length) : (S.set k a ++ [b])[k]? = some a := by
  rw [List.getElem?_append_left (by simpa using h)]; exact List.getElem?_set_self h
theorem sa_last {S : List Dat} {k : Nat} {a b : Dat} : (S.set k a ++ [b])[S.length]? = some b := by
  rw [List.getElem?_append_right (by simp)]; simp
theorem sa_setl {S : List Dat} {k : Nat} {a b x : Dat} : (S.set k a ++ [b]).set S.length x = S.set k a ++ [x] := by
  rw [List.set_append, if_neg (by simp)]; simp
theorem sa_take {S : List Dat} {k : Nat} {a b : Dat} : (S.set k a ++ [b]).take S.length = S.set k a := by
  rw [List.take_append_of_le_length (by simp)]
  exact List.take_of_length_le (by simp)
def sizes : List Int := [1, 3, 9, 10 ^ (9 : Int).toNat]
def drow (v : Vt) (s : Int) (n : Nat) : List Int × Vt := foldF (fun v (_ : Nat) => ((drawF v (2 * s + 1)).1 - s, (drawF v (2 * s + 1)).2)) (List.range n) v
def RF (n : Nat) (v : Vt) : Nat → List (List Int) × Vt
  | 0 => ([List.replicate n 0], v)
  | i + 1 => ((RF n v i).1 ++ [(drow (pickF (RF n v i).2 sizes).2 (pickF (RF n v i).2 sizes).1 n).1], (drow (pickF (RF n v i).2 sizes).2 (pickF (RF n v i).2 sizes).1 n).2)
theorem size_in (v : Vt) : 1 ≤ (pickF v sizes).1 ∧ (pickF v sizes).1 ≤ 1000000000 := by
  have := pick_in v (ns := sizes) (by simp [sizes])
  have e : ∀ x ∈ sizes, 1 ≤ x ∧ x ≤ 1000000000 := by decide
  exact e _ this
theorem drow_ok (v : Vt) {s : Int} (n : Nat) (h1 : 1 ≤ s) (h2 : s ≤ 1000000000) : Rw (drow v s n).1 n := by
  refine ⟨by unfold drow; rw [foldF_len, List.length_range], foldF_mem (p := fun x => Sh x) _ _ fun v a _ => ?_⟩
  have h3 := draw_nn v (t := 2 * s + 1) (by omega)
  have h4 := draw_lt v (t := 2 * s + 1) (by omega)
  unfold Sh
  omega
theorem RF_ok (n : Nat) (v : Vt) : ∀ i, (RF n v i).1.length = i + 1 ∧ ∀ r ∈ (RF n v i).1, Rw r n
  | 0 => ⟨rfl, fun r hr => by
    rw [RF, List.mem_singleton] at hr
    subst hr
    exact ⟨List.length_replicate, fun x hx => by rw [List.eq_of_mem_replicate hx]; exact ⟨by decide, by decide⟩⟩⟩
  | i + 1 => by
    obtain ⟨h1, h2⟩ := RF_ok n v i
    refine ⟨by rw [RF, List.length_append, h1]; rfl, fun r hr => ?_⟩
    rw [RF] at hr
    rcases List.mem_append.mp hr with hr | hr
    · exact h2 r hr
    · rw [List.mem_singleton.mp hr]
      have hs := size_in (RF n v i).2
      exact drow_ok _ n hs.1 hs.2
theorem rep_flat1 {α : Type} (a : α) : ∀ n : Nat, (List.replicate n [a]).flatten = List.replicate n a
  | 0 => rfl
  | n + 1 => by rw [List.replicate_succ, List.flatten_cons, rep_flat1 a n, List.replicate_succ]; rfl
def gRows (ss : List Sl) (S : List Dat) (r : Dat) (S' : List Dat) : Prop := ∃ (k : Nat) (v : Vt) (n tn : Nat), ss = [.c k, .d (.int n), .d (.int (tn : Nat))] ∧ tn ≤ 100 ∧ S[k]? = some (vatD v) ∧ 1 ≤ n ∧ n ≤ 8 ∧
  r = .lst ((RF n v tn).1.map rowD) ∧ S' = S.set k (vatD (RF n v tn).2)
section
variable {P : Program} {w : World} {K : PySem.W.Frag} {mg : Str → Option Value} {base : Heap}

theorem ok__law_parts (T : Txt K mg) : FnOk P w K mg base CX0 4 T.a__law_parts T.d__law_parts ["vat", "inputs", "depth", "wide", "size"] (SpD K (gLParts)) := by
  have G__law_draw := ok__law_draw (P := P) (w := w) (base := base) T
  have b__law_draw := T.b__law_draw
  have G__law_row := ok__law_row (P := P) (w := w) (base := base) T
  have b__law_row := T.b__law_row
  refine T.F__law_parts.ok sc__law_parts (spd_len (k := 5) fun ss S r S' hg => ?_) (fun cdv A outer s H vs Q E hr h => ⟨_, (pss_cons (ps_asg (pe_tup (pa_cons (pe_lst pa_nil) (pa_cons (pv 1) pa_nil))) (pg_tup rfl (pgs_cons (pg_name (i := 5) sc__law_parts.nd rfl (by first | exact Or.inl rfl | exact Or.inr rfl)) (pgs_cons (pg_name (i := 6) sc__law_parts.nd rfl (by first | exact Or.inl rfl | exact Or.inr rfl)) pgs_nil)))) (pss_cons (ps_for PassesOwn.never rfl (pi_range1 (by rfl) T.n_range (pa_cons (pv 2) pa_nil)) (pg_name (i := 7) sc__law_parts.nd rfl (by first | exact Or.inl rfl | exact Or.inr rfl)) (pss_cons (ps_set (i := 8) sc__law_parts.nd rfl (by first | exact Or.inl rfl | exact Or.inr rfl) (pe_callTy (call_tupK K rfl) (by rfl) T.n_tuple (by decide +kernel) (pa_cons (pe_lc (own := [("unit", 9)]) rfl sc__law_parts.nd (pi_range1 (by rfl) T.n_range (pa_cons (pe_op op_add pe_int (pe_call G__law_draw (hr.mono (by decide)) rfl T.m__law_draw T.k__law_draw b__law_draw .nil pass0 (pa_cons (pv 0) (pa_cons (pv 3) pa_nil)))) pa_nil)) (blkOk_by (own := [("unit", 9)]) (N := ["vat", "inputs", "depth", "wide", "size", "layers", "seen", "turn", "layer", "unit"]) (sc := (defScope s__law_parts)) (by decide +kernel)) (fun _ _ _ _ _ => (pg_name (i := 9) sc__law_parts.nd rfl (by first | exact Or.inl rfl | exact Or.inr rfl))) (fun _ _ _ _ _ => pts_nil) (fun _ _ _ _ _ => (pe_call G__law_row (hr.mono (by decide)) rfl T.m__law_row T.k__law_row b__law_row .nil pass0 (pa_cons (pv 0) (pa_cons (pv 6) (pa_cons (pv 4) pa_nil)))))) pa_nil))) (pss_cons (ps_expr (pe_bm PySem.F.plainAttrs_list PySem.F.slot_list_append PySem.F.type_list_append mt_append (pv 5) (pa_cons (pv 8) pa_nil))) (pss_one (ps_set (i := 6) sc__law_parts.nd rfl (by first | exact Or.inl rfl | exact Or.inr rfl) (pe_op op_add (pv 6) (pe_callB (call_lenK K) (by rfl) T.n_len (by decide +kernel) (pa_cons (pv 8) pa_nil)))))))) (pss_one (ps_ret (pe_tup (pa_cons (pe_callTy (call_tupK K rfl) (by rfl) T.n_tuple (by decide +kernel) (pa_cons (pv 5) pa_nil)) (pa_cons (pe_call G__law_row (hr.mono (by decide)) rfl T.m__law_row T.k__law_row b__law_row .nil pass0 (pa_cons (pv 0) (pa_cons (pv 6) (pa_cons (pv 4) pa_nil)))) pa_nil))))))), sp_body h fun ss S r S' hg => ?_⟩)
  · obtain ⟨i, n, l, s, a, b, rfl, _⟩ := hg; rfl
  · obtain ⟨wd, sz, k, v, n, depth, rfl, hk, hn, hd, hw1, hw8, hs1, hsz2, rfl, rfl⟩ := hg
    have hwi : ∀ i, i ≤ 4 → wd * i ≤ 32 := fun i hi => Nat.le_trans (Nat.mul_le_mul hw8 hi) (by decide)
    have hkl : k < S.length := (List.getElem?_eq_some_iff.mp hk).1
    refine sp_pairC (ds := []) (en_lst ea_nil (Nat.zero_le _)) (ev_var rfl) ?_
    refine sp_seq (P' := { nx := fun env' S2 => ∃ o1 o2, S2 = S.set k (vatD (PF wd sz n v depth).2) ++ [.lst ((PF wd sz n v depth).1.map layD)] ∧ env' = [some (.c k), some (.d (.int n)), some (.d (.int depth)), some (.d (.int (wd : Nat))), some (.d (.int sz)), some (.c S.length), some (.d (.int ((n + (PF wd sz n v depth).1.flatten.length : Nat) : Int))), o1, o2, none] })
      (sp_forA (xs := List.range depth) (g := fun i => Dat.int (0 + (i : Nat))) (it_rangeN (ea_cons (ev_var rfl) ea_nil) (by omega)) (fun i env' S2 => ∃ o1 o2, S2 = S.set k (vatD (PF wd sz n v i).2) ++ [.lst ((PF wd sz n v i).1.map layD)] ∧ env' = [some (.c k), some (.d (.int n)), some (.d (.int depth)), some (.d (.int (wd : Nat))), some (.d (.int sz)), some (.c S.length), some (.d (.int ((n + (PF wd sz n v i).1.flatten.length : Nat) : Int))), o1, o2, none]) ⟨none, none, ?_, rfl⟩ (fun _ _ _ _ _ _ _ _ _ => trivial) ?_ ?_) ?_
    · show S ++ [Dat.lst []] = S.set k (vatD v) ++ [Dat.lst []]
      rw [set_id hk]
    · rintro i a env' S2 ha ⟨o1, o2, rfl, rfl⟩
      have hi : i < depth := by
        have := (List.getElem?_eq_some_iff.mp ha).1
        rwa [List.length_range] at this
      obtain ⟨hp1, hp2, hp3⟩ := PF_ok hw1 hs1 n v i
      have := hwi i (by omega)
      refine ⟨[7], fun env => env.set 7 (some (.d (.int (0 + (a : Nat))))), tg_name, ?_⟩
      rw [PF]
      generalize (PF wd sz n v i).2 = vi
      generalize hL : (PF wd sz n v i).1 = L at hp1 hp2 hp3
      generalize hsn : n + L.flatten.length = seen
      have hseen : seen ≤ 1000 := by omega
      have d1 := draw_nn vi (t := (wd : Int)) (by omega)
      have d2 := draw_lt vi (t := (wd : Int)) (by omega)
      obtain ⟨c, hc⟩ : ∃ c : Nat, 1 + (drawF vi wd).1 = (c : Int) := ⟨(1 + (drawF vi wd).1).toNat, by omega⟩
      have hlay : layerF wd sz vi seen = foldF (fun v (_ : Nat) => rowF v seen sz) (List.range c) (drawF vi wd).2 := by unfold layerF; rw [hc]; rfl
      have hcc : c ≤ 8 := by omega
      have hN := en_fold (K := K) (te := tCall (SpD K gRow) [] E0 (tCons (tVar 0) (tCons (tVar 6) (tCons (tVar 4) tNil))))
        (env := [some (.c k), some (.d (.int n)), some (.d (.int depth)), some (.d (.int (wd : Nat))), some (.d (.int sz)), some (.c S.length), some (.d (.int (seen : Int))), some (.d (.int (0 + (a : Nat)))), o2, none]) (S := S.set k (vatD vi) ++ [.lst (L.map layD)]) (xs := List.range c) (g := fun i => Dat.int (0 + (i : Nat))) (es := (layerF wd sz vi seen).1) rowD (fun i => S.set k (vatD (foldF (fun v (_ : Nat) => rowF v seen sz) ((List.range c).take i) (drawF vi wd).2).2) ++ [.lst (L.map layD)]) (wi := iRng1 (tCons (tOp (rI0 fun i j => V.int (i + j)) (tC (.int 1)) (tCall (SpD K gDraw) [] E0 (tCons (tVar 0) (tCons (tVar 3) tNil)))) tNil)) (tg := gName 9) (vs := [9]) (G := G0) (is := [9]) ?_ (size_1000 (by rw [List.length_range]; omega)) (by rw [hlay, foldF_len]) (fun _ _ _ => trivial) (fun i => by simp) (by decide) (fun w env => env.set 9 (some (.d (.int (0 + (w : Nat)))))) (fun i a b ha hb => ⟨tg_name, ?_⟩)
      · rw [List.take_of_length_le (Nat.le_refl _), ← hlay] at hN
        refine sp_set (ev_cb (ea_cons hN.ev ea_nil) (cd_tup .lst)) ?_
        refine sp_drop (ev_append (d := layD (layerF wd sz vi seen).1) (ev_var rfl) (ev_var rfl) ⟨_, sa_last⟩ sa_last (by rw [List.length_map]; exact Nat.lt_of_le_of_lt (by omega : _ ≤ 4) (by decide))) ?_
        rw [sa_setl]
        refine sp_set1 ((ev_op (ev_var rfl) (ev_cb (ea_cons (ev_var rfl) ea_nil) (cd_len .tup)) o_add).to (r' := .d (.int ((seen + (layerF wd sz vi seen).1.length : Nat) : Int))) ?_) ⟨some (.d (.int (0 + (a : Nat)))), some (.d (layD (layerF wd sz vi seen).1)), ?_, ?_⟩
        · rw [List.length_map, Int.natCast_add]
        · rw [List.map_append]; rfl
        · rw [List.flatten_append, List.length_append, ← Nat.add_assoc, hsn]
          simp only [List.flatten_cons, List.flatten_nil, List.append_nil]
          rfl
      · show IterD K _ _ _ G0 _ (S.set k (vatD (drawF vi wd).2) ++ [.lst (L.map layD)])
        refine it_rangeN (ea_cons ((ev_op ev_int (ev_call (ea_cons (ev_var rfl) (ea_cons (ev_var rfl) ea_nil)) ⟨k, vi, (wd : Int), rfl, sa_get hkl, by omega, by omega, rfl, (sa_set hkl).symm⟩) o_add).to ?_) ea_nil) (by omega)
        rw [hc]
      · rw [hlay] at hb
        have hb2 := foldF_get (fun v (_ : Nat) => rowF v seen sz) (List.range c) (drawF vi wd).2 i a ha
        have hs2 := foldF_step (fun v (_ : Nat) => rowF v seen sz) (List.range c) (drawF vi wd).2 i a ha
        rw [hs2]
        have e := Option.some.inj (hb.symm.trans hb2)
        subst e
        generalize (foldF (fun v (_ : Nat) => rowF v seen sz) ((List.range c).take i) (drawF vi wd).2).2 = vj
        exact ev_call (ea_cons (ev_var rfl) (ea_cons (ev_var rfl) (ea_cons (ev_var rfl) ea_nil))) ⟨k, vj, seen, sz, rfl, sa_get hkl, hseen, hs1, hsz2, rfl, (sa_set hkl).symm⟩
    · rintro env' S2 ⟨o1, o2, rfl, rfl⟩
      rw [List.length_range]
      exact ⟨o1, o2, rfl, rfl⟩
    · rintro env' S2 ⟨o1, o2, rfl, rfl⟩
      obtain ⟨hp1, hp2, hp3⟩ := PF_ok hw1 hs1 n v depth
      have := hwi depth hd
      refine sp_ret (ev_tup (ds := [laysD (partsF wd sz v n depth).1.1, rowD (partsF wd sz v n depth).1.2]) (ea_cons (ev_cb (ea_cons (ev_var rfl) ea_nil) (cd_tup (.cell sa_last))) (ea_cons (ev_call (ea_cons (ev_var rfl) (ea_cons (ev_var rfl) (ea_cons (ev_var rfl) ea_nil))) ⟨k, (PF wd sz n v depth).2, n + (PF wd sz n v depth).1.flatten.length, sz, rfl, sa_get hkl, by omega, hs1, hsz2, rfl, (sa_set hkl).symm⟩) ea_nil)) (by show 2 ≤ sizeLine; decide)) ⟨rfl, sa_take⟩
theorem ok__law_rows (T : Txt K mg) : FnOk P w K mg base CX0 3 T.a__law_rows T.d__law_rows ["vat", "many", "turns"] (SpD K (gRows)) := by
  have G__law_pick := ok__law_pick (P := P) (w := w) (base := base) T
  have b__law_pick := T.b__law_pick
  have G__law_draw := ok__law_draw (P := P) (w := w) (base := base) T
  have b__law_draw := T.b__law_draw
  refine T.F__law_rows.ok sc__law_rows (spd_len (k := 3) fun ss S r S' hg => ?_) (fun cdv A outer s H vs Q E hr h => ⟨_, (pss_cons (ps_set (i := 3) sc__law_rows.nd rfl (by first | exact Or.inl rfl | exact Or.inr rfl) (pe_lst (pa_cons (pe_op RwT.op_repA (pe_tup (pa_cons pe_int pa_nil)) (pv 1)) pa_nil))) (pss_cons (ps_for PassesOwn.never rfl (pi_range1 (by rfl) T.n_range (pa_cons (pv 2) pa_nil)) (pg_name (i := 4) sc__law_rows.nd rfl (by first | exact Or.inl rfl | exact Or.inr rfl)) (pss_cons (ps_set (i := 5) sc__law_rows.nd rfl (by first | exact Or.inl rfl | exact Or.inr rfl) (pe_call G__law_pick (hr.mono (by decide)) rfl T.m__law_pick T.k__law_pick b__law_pick .nil pass0 (pa_cons (pv 0) (pa_cons (pe_lst (pa_cons pe_int (pa_cons pe_int (pa_cons pe_int (pa_cons (pe_op op_powW pe_int pe_int) pa_nil))))) pa_nil)))) (pss_one (ps_expr (pe_bm PySem.F.plainAttrs_list PySem.F.slot_list_append PySem.F.type_list_append mt_append (pv 3) (pa_cons (pe_callTy (call_tupK K rfl) (by rfl) T.n_tuple (by decide +kernel) (pa_cons (pe_lc (own := [("place", 6)]) rfl sc__law_rows.nd (pi_range1 (by rfl) T.n_range (pa_cons (pv 1) pa_nil)) (blkOk_by (own := [("place", 6)]) (N := ["vat", "many", "turns", "found", "turn", "size", "place"]) (sc := (defScope s__law_rows)) (by decide +kernel)) (fun _ _ _ _ _ => (pg_name (i := 6) sc__law_rows.nd rfl (by first | exact Or.inl rfl | exact Or.inr rfl))) (fun _ _ _ _ _ => pts_nil) (fun _ _ _ _ _ => (pe_op op_sub (pe_call G__law_draw (hr.mono (by decide)) rfl T.m__law_draw T.k__law_draw b__law_draw .nil pass0 (pa_cons (pv 0) (pa_cons (pe_op op_add (pe_op op_mul pe_int (pv 5)) pe_int) pa_nil))) (pv 5)))) pa_nil)) pa_nil)))))) (pss_one (ps_ret (pv 3))))), sp_body h fun ss S r S' hg => ?_⟩)
  · obtain ⟨i, n, l, m, rfl, _⟩ := hg; rfl
  · obtain ⟨k, v, n, tn, rfl, htn, hk, hn1, hn, rfl, rfl⟩ := hg
    have hkl : k < S.length := (List.getElem?_eq_some_iff.mp hk).1
    refine sp_setC (S1 := S) (ds := [rowD (List.replicate n 0)]) (en_lst (ea_cons ((ev_op (ev_tup (ds := [Dat.int 0]) (ea_cons ev_int ea_nil) (by show 1 ≤ sizeLine; decide)) (ev_var rfl) (o_repA (by simp) (by omega) (by omega) (by show 1 ≤ 1000; decide))).to ?_) ea_nil) (by show 1 ≤ sizeLine; decide)) ?_
    · rw [Int.toNat_natCast, rep_flat1, ← List.map_replicate]; rfl
    refine sp_seq (P' := { nx := fun env' S2 => ∃ o1 o2, S2 = S.set k (vatD (RF n v tn).2) ++ [.lst ((RF n v tn).1.map rowD)] ∧ env' = [some (.c k), some (.d (.int n)), some (.d (.int (tn : Nat))), some (.c S.length), o1, o2, none] })
      (sp_forA (xs := List.range tn) (g := fun i => Dat.int (0 + (i : Nat))) (it_rangeN (m := tn) (ea_cons (ev_var rfl) ea_nil) (by omega)) (fun i env' S2 => ∃ o1 o2, S2 = S.set k (vatD (RF n v i).2) ++ [.lst ((RF n v i).1.map rowD)] ∧ env' = [some (.c k), some (.d (.int n)), some (.d (.int (tn : Nat))), some (.c S.length), o1, o2, none]) ⟨none, none, ?_, rfl⟩ (fun _ _ _ _ _ _ _ _ _ => trivial) ?_ ?_) ?_
    · show S ++ [Dat.lst [rowD (List.replicate n 0)]] = S.set k (vatD v) ++ [Dat.lst [rowD (List.replicate n 0)]]
      rw [set_id hk]
    · rintro i a env' S2 ha ⟨o1, o2, rfl, rfl⟩
      have hi : i < tn := by
        have := (List.getElem?_eq_some_iff.mp ha).1
        rwa [List.length_range] at this
      obtain ⟨hp1, hp2⟩ := RF_ok n v i
      have hs := size_in (RF n v i).2
      refine ⟨[4], fun env => env.set 4 (some (.d (.int (0 + (a : Nat))))), tg_name, ?_⟩
      rw [RF]
      generalize (RF n v i).2 = vi at hs
      generalize hL : (RF n v i).1 = L at hp1 hp2
      generalize hpp : pickF vi sizes = pp at hs
      refine sp_set (x := .d (.int pp.1)) (S1 := S.set k (vatD pp.2) ++ [.lst (L.map rowD)]) (ev_call (ea_cons (ev_var rfl) (ea_cons (EvN.ev (en_lst (ds := [1, 3, 9, 10 ^ (9 : Int).toNat].map Dat.int) (ea_cons ev_int (ea_cons ev_int (ea_cons ev_int (ea_cons (ev_op ev_int ev_int (o_powW ⟨by decide, by decide⟩)) ea_nil)))) (by show 4 ≤ sizeLine; decide))) ea_nil)) ⟨k, vi, sizes, rfl, sa_get hkl, by simp [sizes], by decide, by rw [hpp], by rw [hpp, sa_set hkl]⟩) ?_
      have hN := en_fold (K := K) (te := tOp (rI0 fun i j => V.int (i - j)) (tCall (SpD K gDraw) [] E0 (tCons (tVar 0) (tCons (tOp (rI0 fun i j => V.int (i + j)) (tOp (rI CMul fun i j => V.int (i * j)) (tC (.int 2)) (tVar 5)) (tC (.int 1))) tNil))) (tVar 5))
        (env := [some (.c k), some (.d (.int n)), some (.d (.int (tn : Nat))), some (.c S.length), some (.d (.int (0 + (a : Nat)))), some (.d (.int pp.1)), none]) (S := S.set k (vatD pp.2) ++ [.lst (L.map rowD)]) (xs := List.range n) (g := fun i => Dat.int (0 + (i : Nat))) (es := (drow pp.2 pp.1 n).1) Dat.int (fun i => S.set k (vatD (foldF (fun v (_ : Nat) => ((drawF v (2 * pp.1 + 1)).1 - pp.1, (drawF v (2 * pp.1 + 1)).2)) ((List.range n).take i) pp.2).2) ++ [.lst (L.map rowD)]) (wi := iRng1 (tCons (tVar 1) tNil)) (tg := gName 6) (vs := [6]) (G := G0) (is := [6]) (it_rangeN (ea_cons (ev_var rfl) ea_nil) (by omega)) (size_1000 (by rw [List.length_range]; omega)) (by unfold drow; rw [foldF_len]) (fun _ _ _ => trivial) (fun i => by simp) (by decide) (fun w env => env.set 6 (some (.d (.int (0 + (w : Nat)))))) (fun i a b ha hb => ⟨tg_name, ?_⟩)
      · rw [List.take_of_length_le (Nat.le_refl _)] at hN
        refine sp_drop1 (ev_append (d := rowD (drow pp.2 pp.1 n).1) (ev_var rfl) (ev_cb (ea_cons hN.ev ea_nil) (cd_tup .lst)) ⟨_, sa_last⟩ sa_last (by rw [List.length_map]; exact Nat.lt_of_le_of_lt (by omega : _ ≤ 101) (by decide))) ⟨some (.d (.int (0 + (a : Nat)))), some (.d (.int pp.1)), ?_, rfl⟩
        rw [sa_setl, List.map_append]; rfl
      · unfold drow at hb
        have hb2 := foldF_get (fun v (_ : Nat) => ((drawF v (2 * pp.1 + 1)).1 - pp.1, (drawF v (2 * pp.1 + 1)).2)) (List.range n) pp.2 i a ha
        have hs2 := foldF_step (fun v (_ : Nat) => ((drawF v (2 * pp.1 + 1)).1 - pp.1, (drawF v (2 * pp.1 + 1)).2)) (List.range n) pp.2 i a ha
        rw [hs2]
        have e := Option.some.inj (hb.symm.trans hb2)
        subst e
        generalize (foldF (fun v (_ : Nat) => ((drawF v (2 * pp.1 + 1)).1 - pp.1, (drawF v (2 * pp.1 + 1)).2)) ((List.range n).take i) pp.2).2 = vj
        exact ev_op (ev_call (ea_cons (ev_var rfl) (ea_cons (ev_op (ev_op ev_int (ev_var rfl) (o_mul (cm_l (by decide) (by decide)))) ev_int o_add) ea_nil)) ⟨k, vj, 2 * pp.1 + 1, rfl, sa_get hkl, by omega, by omega, rfl, (sa_set hkl).symm⟩) (ev_var rfl) o_sub
    · rintro env' S2 ⟨o1, o2, rfl, rfl⟩
      rw [List.length_range]
      exact ⟨o1, o2, rfl, rfl⟩
    · rintro env' S2 ⟨o1, o2, rfl, rfl⟩
      exact sp_retC rfl sa_last (Nat.le_refl _) ⟨rfl, sa_take⟩
end
end N20

set_option Elab.async false
set_option linter.all false
set_option maxRecDepth 100000
set_option maxHeartbeats 4000000
namespace N20
open PySem PySem.Spec PyProof.Rows L2 RW

/-! masks: which of the units side by side are whose -/
def fill : List Bool → List Int → List Int
  | [], _ => []
  | true :: m, x :: r => x :: fill m r
  | true :: m, [] => 0 :: fill m []
  | false :: m, r => 0 :: fill m r
def cntT (m : List Bool) : Nat := m.count true
theorem cntT_app (a b : List Bool) : cntT (a ++ b) = cntT a + cntT b := List.count_append ..
theorem cntT_t (k : Nat) : cntT (List.replicate k true) = k := by unfold cntT; simp
theorem cntT_f (k : Nat) : cntT (List.replicate k false) = 0 := by unfold cntT; rw [List.count_replicate]; rfl
theorem fill_len : ∀ (m : List Bool) (r : List Int), (fill m r).length = m.length
  | [], _ => rfl
  | true :: m, x :: r => by rw [fill, List.length_cons, List.length_cons, fill_len m r]
  | true :: m, [] => by rw [fill, List.length_cons, List.length_cons, fill_len m []]
  | false :: m, r => by rw [fill, List.length_cons, List.length_cons, fill_len m r]
theorem fill_app : ∀ (m m' : List Bool) (r : List Int), fill (m ++ m') r = fill m r ++ fill m' (r.drop (cntT m))
  | [], m', r => by simp [fill, cntT]
  | true :: m, m', x :: r => by
    have e : cntT (true :: m) = cntT m + 1 := by unfold cntT; simp
    rw [List.cons_append, fill, fill, fill_app m m' r, e, List.drop_succ_cons, List.cons_append]
  | true :: m, m', [] => by
    rw [List.cons_append, fill, fill, fill_app m m' [], List.drop_nil, List.drop_nil, List.cons_append]
  | false :: m, m', r => by
    have e : cntT (false :: m) = cntT m := by unfold cntT; simp
    cases r with
    | nil => rw [List.cons_append, fill, fill, fill_app m m' [], e, List.cons_append]
    | cons x r => rw [List.cons_append, fill, fill, fill_app m m' (x :: r), e, List.cons_append]
theorem fill_t : ∀ (k : Nat) (r : List Int), fill (List.replicate k true) r = r.take k ++ List.replicate (k - r.length) 0
  | 0, r => by simp [fill]
  | k + 1, [] => by
    have ih := fill_t k []
    rw [List.take_nil, List.length_nil, Nat.sub_zero, List.nil_append] at ih
    rw [List.replicate_succ, fill, ih, List.take_nil, List.length_nil, Nat.sub_zero, List.nil_append, List.replicate_succ]
  | k + 1, x :: r => by rw [List.replicate_succ, fill, fill_t k r, List.take_succ_cons, List.length_cons, Nat.add_sub_add_right]; rfl
theorem fill_f : ∀ (k : Nat) (r : List Int), fill (List.replicate k false) r = List.replicate k 0
  | 0, r => by simp [fill]
  | k + 1, r => by cases r <;> rw [List.replicate_succ, fill, fill_f k, List.replicate_succ]
theorem fill_take (m m' : List Bool) (r : List Int) : (fill (m ++ m') r).take m.length = fill m r := by
  rw [fill_app, List.take_append_of_le_length (by rw [fill_len]; exact Nat.le_refl _), ← fill_len m r, List.take_length]
theorem fill_mem : ∀ (m : List Bool) (r : List Int), ∀ x ∈ fill m r, x = 0 ∨ x ∈ r
  | [], _, x, h => by simp [fill] at h
  | true :: m, y :: r, x, h => by
    rw [fill] at h
    rcases List.mem_cons.mp h with rfl | h
    · exact .inr List.mem_cons_self
    · rcases fill_mem m r x h with h | h
      · exact .inl h
      · exact .inr (List.mem_cons_of_mem _ h)
  | true :: m, [], x, h => by
    rw [fill] at h
    rcases List.mem_cons.mp h with rfl | h
    · exact .inl rfl
    · exact fill_mem m [] x h
  | false :: m, r, x, h => by
    cases r <;>
    · rw [fill] at h
      rcases List.mem_cons.mp h with rfl | h
      · exact .inl rfl
      · exact fill_mem m _ x h
theorem fill_sh {m : List Bool} {r : List Int} (h : ∀ x ∈ r, Sh x) : ∀ x ∈ fill m r, Sh x := fun x hx => by
  rcases fill_mem m r x hx with rfl | hx
  · exact ⟨by decide, by decide⟩
  · exact h x hx
/-- the members of a row at the places that are mine -/
def sel : List Bool → List Int → List Int
  | [], _ => []
  | _ :: _, [] => []
  | true :: m, x :: v => x :: sel m v
  | false :: m, _ :: v => sel m v
theorem sel_app : ∀ (m m' : List Bool) (v v' : List Int), m.length = v.length → sel (m ++ m') (v ++ v') = sel m v ++ sel m' v'
  | [], m', [], v', _ => by simp [sel]
  | true :: m, m', x :: v, v', h => by rw [List.cons_append, List.cons_append, sel, sel, sel_app m m' v v' (by simpa using h), List.cons_append]
  | false :: m, m', x :: v, v', h => by rw [List.cons_append, List.cons_append, sel, sel, sel_app m m' v v' (by simpa using h)]
theorem sel_t : ∀ (k : Nat) (v : List Int), v.length = k → sel (List.replicate k true) v = v
  | 0, [], _ => rfl
  | k + 1, x :: v, h => by rw [List.replicate_succ, sel, sel_t k v (by simpa using h)]
theorem sel_f : ∀ (k : Nat) (v : List Int), v.length = k → sel (List.replicate k false) v = []
  | 0, [], _ => rfl
  | k + 1, x :: v, h => by rw [List.replicate_succ, sel, sel_f k v (by simpa using h)]
theorem dot_fill : ∀ (m : List Bool) (u v : List Int), m.length = v.length → u.length ≤ cntT m → dot (fill m u) v = dot u (sel m v)
  | [], u, [], _, h => by
    have : u = [] := by cases u with
      | nil => rfl
      | cons x u => simp [cntT] at h
    subst this; simp [fill, sel, dotN]
  | true :: m, x :: u, y :: v, h1, h2 => by
    have e : cntT (true :: m) = cntT m + 1 := by unfold cntT; simp
    rw [e, List.length_cons] at h2
    rw [fill, sel, dotC, dotC, dot_fill m u v (by simpa using h1) (by omega)]
  | true :: m, [], y :: v, h1, h2 => by
    have := dot_fill m [] v (by simpa using h1) (Nat.zero_le _)
    rw [dotN] at this
    rw [fill, sel, dotC, this, dotN]; omega
  | false :: m, u, y :: v, h1, h2 => by
    have e : cntT (false :: m) = cntT m := by unfold cntT; simp
    rw [e] at h2
    have ih := dot_fill m u v (by simpa using h1) h2
    cases u with
    | nil => rw [fill, sel, dotC, ih]; omega
    | cons x u => rw [fill, sel, dotC, ih]; omega
/-- sizes of the layers of both -/
def szs (L1 L2 : Lays) (d : Nat) : List (Nat × Nat) := (List.range d).map fun i => ((L1.getD i []).length, (L2.getD i []).length)
def seg (s : Bool) (p : Nat × Nat) : List Bool := if s = true then List.replicate p.1 true ++ List.replicate p.2 false else List.replicate p.1 false ++ List.replicate p.2 true
def mask (s : Bool) (n : Nat) (z : List (Nat × Nat)) : List Bool := List.replicate n true ++ z.flatMap (seg s)
def own (s : Bool) (p : Nat × Nat) : Nat := if s = true then p.1 else p.2
theorem seg_len (s : Bool) (p : Nat × Nat) : (seg s p).length = p.1 + p.2 := by unfold seg; split <;> simp
theorem seg_cnt (s : Bool) (p : Nat × Nat) : cntT (seg s p) = own s p := by
  unfold seg own; split <;> rw [cntT_app, cntT_t, cntT_f] <;> omega
theorem mask_snoc (s : Bool) (n : Nat) (z : List (Nat × Nat)) (p : Nat × Nat) : mask s n (z ++ [p]) = mask s n z ++ seg s p := by
  unfold mask; rw [List.flatMap_append, List.append_assoc]; simp
def wid (n : Nat) (z : List (Nat × Nat)) : Nat := n + (z.map fun p => p.1 + p.2).sum
theorem mask_len (s : Bool) (n : Nat) (z : List (Nat × Nat)) : (mask s n z).length = wid n z := by
  unfold mask wid
  rw [List.length_append, List.length_replicate, List.length_flatMap]
  congr 2
  apply List.map_congr_left
  intro p _
  exact seg_len s p
theorem mask_cnt (s : Bool) (n : Nat) : ∀ (z : List (Nat × Nat)), cntT (mask s n z) = n + (z.map (own s)).sum
  | [] => by unfold mask; simp [cntT_t]
  | p :: z => by
    have ih := mask_cnt s n z
    unfold mask at ih ⊢
    rw [cntT_app, cntT_t] at ih
    rw [cntT_app, cntT_t, List.flatMap_cons, cntT_app, seg_cnt, List.map_cons, List.sum_cons]
    omega
theorem szs_succ (L1 L2 : Lays) (d : Nat) : szs L1 L2 (d + 1) = szs L1 L2 d ++ [((L1.getD d []).length, (L2.getD d []).length)] := by
  unfold szs; rw [List.range_succ, List.map_append]; rfl
theorem szs_len (L1 L2 : Lays) (d : Nat) : (szs L1 L2 d).length = d := by unfold szs; simp
theorem szs_take (L1 L2 : Lays) (d i : Nat) (h : i ≤ d) : (szs L1 L2 d).take i = szs L1 L2 i := by
  unfold szs
  rw [← List.map_take, List.take_range, Nat.min_eq_left h]
theorem own_sum1 (L1 L2 : Lays) : ∀ d, ((szs L1 L2 d).map (own true)).sum = (L1.take d).flatten.length
  | 0 => by simp [szs]
  | d + 1 => by
    rw [szs_succ, List.map_append, List.sum_append, own_sum1 L1 L2 d]
    by_cases h : d < L1.length
    · rw [List.take_succ_eq_append_getElem h, List.flatten_append, List.length_append, List.getD_eq_getElem?_getD, List.getElem?_eq_getElem h]
      simp [own]
    · rw [List.take_of_length_le (by omega), List.take_of_length_le (by omega), List.getD_eq_getElem?_getD, List.getElem?_eq_none (by omega)]
      simp [own]
theorem own_sum2 (L1 L2 : Lays) : ∀ d, ((szs L1 L2 d).map (own false)).sum = (L2.take d).flatten.length
  | 0 => by simp [szs]
  | d + 1 => by
    rw [szs_succ, List.map_append, List.sum_append, own_sum2 L1 L2 d]
    by_cases h : d < L2.length
    · rw [List.take_succ_eq_append_getElem h, List.flatten_append, List.length_append]
      have e : L2.getD d [] = L2[d] := by rw [List.getD_eq_getElem?_getD, List.getElem?_eq_getElem h]; rfl
      rw [e]
      simp [own]
    · have e : L2.getD d [] = [] := by rw [List.getD_eq_getElem?_getD, List.getElem?_eq_none (by omega)]; rfl
      rw [List.take_of_length_le (by omega : L2.length ≤ d + 1), List.take_of_length_le (by omega : L2.length ≤ d), e]
      simp [own]
/-- side by side -/
def layB (n : Nat) (L1 L2 : Lays) (i : Nat) : List (List Int) := (L1.getD i []).map (fill (mask true n (szs L1 L2 i))) ++ (L2.getD i []).map (fill (mask false n (szs L1 L2 i)))
def both (n : Nat) (L1 L2 : Lays) (d : Nat) : Lays := (List.range d).map (layB n L1 L2)
theorem both_succ (n : Nat) (L1 L2 : Lays) (d : Nat) : both n L1 L2 (d + 1) = both n L1 L2 d ++ [layB n L1 L2 d] := by
  unfold both; rw [List.range_succ, List.map_append]; rfl
theorem both_len (n : Nat) (L1 L2 : Lays) (d : Nat) : (both n L1 L2 d).length = d := by unfold both; simp
theorem layB_len (n : Nat) (L1 L2 : Lays) (i : Nat) : (layB n L1 L2 i).length = (L1.getD i []).length + (L2.getD i []).length := by
  unfold layB; rw [List.length_append, List.length_map, List.length_map]
theorem both_flat (n : Nat) (L1 L2 : Lays) : ∀ d, n + (both n L1 L2 d).flatten.length = wid n (szs L1 L2 d)
  | 0 => by simp [both, szs, wid]
  | d + 1 => by
    have ih := both_flat n L1 L2 d
    unfold wid at ih ⊢
    rw [both_succ, List.flatten_append, List.length_append, szs_succ, List.map_append, List.sum_append]
    simp only [List.flatten_cons, List.flatten_nil, List.append_nil, List.map_cons, List.map_nil, List.sum_cons, List.sum_nil]
    rw [layB_len]
    omega
theorem vals_snoc (L : Lays) (l : List (List Int)) (row : List Int) : vals (L ++ [l]) row = vals L row ++ l.map fun u => max 0 (dot u (vals L row)) := by
  unfold vals; rw [List.foldl_append]; rfl
theorem WL_getD {L : Lays} {w : Nat} (h : WL w L) (i : Nat) : ∀ u ∈ L.getD i [], Rw u (w + (L.take i).flatten.length) := fun u hu => by
  by_cases hi : i < L.length
  · rw [List.getD_eq_getElem?_getD, List.getElem?_eq_getElem hi] at hu
    exact (h.get (List.getElem?_eq_getElem hi)).2.2 u hu
  · rw [List.getD_eq_getElem?_getD, List.getElem?_eq_none (by omega)] at hu
    simp at hu
theorem vals_takeD (L : Lays) (row : List Int) (i : Nat) : vals (L.take (i + 1)) row = vals (L.take i) row ++ (L.getD i []).map fun u => max 0 (dot u (vals (L.take i) row)) := by
  by_cases hi : i < L.length
  · have e : L.getD i [] = L[i] := by rw [List.getD_eq_getElem?_getD, List.getElem?_eq_getElem hi]; rfl
    rw [e]; exact vals_take (List.getElem?_eq_getElem hi)
  · have e : L.getD i [] = [] := by rw [List.getD_eq_getElem?_getD, List.getElem?_eq_none (by omega)]; rfl
    rw [e, List.take_of_length_le (by omega), List.take_of_length_le (by omega), List.map_nil, List.append_nil]
theorem both_vals {n : Nat} {L1 L2 : Lays} {row : List Int} (h1 : WL n L1) (h2 : WL n L2) (hr : row.length = n) : ∀ d,
    sel (mask true n (szs L1 L2 d)) (vals (both n L1 L2 d) row) = vals (L1.take d) row ∧ sel (mask false n (szs L1 L2 d)) (vals (both n L1 L2 d) row) = vals (L2.take d) row
  | 0 => by
    have e : both n L1 L2 0 = [] := rfl
    have e2 : ∀ s, mask s n (szs L1 L2 0) = List.replicate n true := fun s => by unfold mask szs; simp
    rw [e, e2, e2]
    exact ⟨sel_t n row hr, sel_t n row hr⟩
  | d + 1 => by
    obtain ⟨i1, i2⟩ := both_vals h1 h2 hr d
    have hlen : (vals (both n L1 L2 d) row).length = wid n (szs L1 L2 d) := by rw [vals_len, hr, both_flat]
    have hm : ∀ s, (mask s n (szs L1 L2 d)).length = (vals (both n L1 L2 d) row).length := fun s => by rw [mask_len, hlen]
    have c1 : cntT (mask true n (szs L1 L2 d)) = n + (L1.take d).flatten.length := by rw [mask_cnt, own_sum1]
    have c2 : cntT (mask false n (szs L1 L2 d)) = n + (L2.take d).flatten.length := by rw [mask_cnt, own_sum2]
    have key : (layB n L1 L2 d).map (fun u => max 0 (dot u (vals (both n L1 L2 d) row))) = ((L1.getD d []).map fun u => max 0 (dot u (vals (L1.take d) row))) ++ ((L2.getD d []).map fun u => max 0 (dot u (vals (L2.take d) row))) := by
      unfold layB
      rw [List.map_append, List.map_map, List.map_map]
      congr 1
      · apply List.map_congr_left
        intro u hu
        show max 0 (dot (fill _ u) _) = _
        rw [dot_fill _ u _ (hm true) (by rw [c1, (WL_getD h1 d u hu).1]; exact Nat.le_refl _), i1]
      · apply List.map_congr_left
        intro u hu
        show max 0 (dot (fill _ u) _) = _
        rw [dot_fill _ u _ (hm false) (by rw [c2, (WL_getD h2 d u hu).1]; exact Nat.le_refl _), i2]
    rw [both_succ, vals_snoc, key, szs_succ, mask_snoc, mask_snoc, vals_takeD, vals_takeD]
    refine ⟨?_, ?_⟩
    · rw [sel_app _ _ _ _ (hm true), i1]
      congr 1
      show sel (List.replicate _ true ++ List.replicate _ false) _ = _
      rw [sel_app _ _ _ _ (by simp), sel_t _ _ (by simp), sel_f _ _ (by simp), List.append_nil]
    · rw [sel_app _ _ _ _ (hm false), i2]
      congr 1
      show sel (List.replicate _ false ++ List.replicate _ true) _ = _
      rw [sel_app _ _ _ _ (by simp), sel_t _ _ (by simp), sel_f _ _ (by simp), List.nil_append]
def lastB (s : Bool) (n : Nat) (L1 L2 : Lays) (d : Nat) (last : List Int) : List Int := fill (mask s n (szs L1 L2 d)) last
theorem side_value {n : Nat} {L1 L2 : Lays} {l1 l2 row : List Int} (h1 : Wf n L1 l1) (h2 : Wf n L2 l2) (hr : row.length = n) {d : Nat} (hd : max L1.length L2.length = d) :
    dot (lastB true n L1 L2 d l1) (vals (both n L1 L2 d) row) = dot l1 (vals L1 row) ∧ dot (lastB false n L1 L2 d l2) (vals (both n L1 L2 d) row) = dot l2 (vals L2 row) := by
  obtain ⟨i1, i2⟩ := both_vals h1.wl h2.wl hr d
  have hlen : (vals (both n L1 L2 d) row).length = wid n (szs L1 L2 d) := by rw [vals_len, hr, both_flat]
  have e1 : L1.take d = L1 := List.take_of_length_le (by omega)
  have e2 : L2.take d = L2 := List.take_of_length_le (by omega)
  rw [e1] at i1
  rw [e2] at i2
  unfold lastB
  refine ⟨?_, ?_⟩
  · rw [dot_fill _ l1 _ (by rw [mask_len, hlen]) (by rw [mask_cnt, own_sum1, e1, h1.la.1]; exact Nat.le_refl _), i1]
  · rw [dot_fill _ l2 _ (by rw [mask_len, hlen]) (by rw [mask_cnt, own_sum2, e2, h2.la.1]; exact Nat.le_refl _), i2]
def addR (a b : List Int) : List Int := (a.zip b).map fun p => p.1 + p.2
def subR (a b : List Int) : List Int := (a.zip b).map fun p => p.1 - p.2
theorem dot_add : ∀ (a b v : List Int), a.length = b.length → dot (addR a b) v = dot a v + dot b v
  | [], [], v, _ => by simp [addR, dotN]
  | x :: a, y :: b, [], _ => by simp [dotN2]
  | x :: a, y :: b, z :: v, h => by
    have := dot_add a b v (by simpa using h)
    unfold addR at this ⊢
    rw [List.zip_cons_cons, List.map_cons, dotC, dotC, dotC, this]
    show (x + y) * z + _ = _
    rw [Int.add_mul]; omega
theorem dot_sub : ∀ (a b v : List Int), a.length = b.length → dot (subR a b) v = dot a v - dot b v
  | [], [], v, _ => by simp [subR, dotN]
  | x :: a, y :: b, [], _ => by simp [dotN2]
  | x :: a, y :: b, z :: v, h => by
    have := dot_sub a b v (by simpa using h)
    unfold subR at this ⊢
    rw [List.zip_cons_cons, List.map_cons, dotC, dotC, dotC, this]
    show (x - y) * z + _ = _
    rw [Int.sub_mul]; omega
theorem dot_snoc : ∀ (u v : List Int) (x y : Int), u.length = v.length → dot (u ++ [x]) (v ++ [y]) = dot u v + x * y
  | [], [], x, y, _ => by simp [dot]
  | a :: u, b :: v, x, y, h => by rw [List.cons_append, List.cons_append, dotC, dotC, dot_snoc u v x y (by simpa using h)]; omega
theorem dot_cmul (c : Int) : ∀ (u v : List Int), dot (u.map fun x => c * x) v = c * dot u v
  | [], v => by simp [dotN]
  | x :: u, [] => by simp [dotN2]
  | x :: u, y :: v => by rw [List.map_cons, dotC, dotC, dot_cmul c u v, Int.mul_add, Int.mul_assoc]
/-- well-formedness of what is put together -/
theorem WL_snoc : ∀ {L : Lays} {w : Nat} {l : List (List Int)}, WL w L → (1 ≤ l.length ∧ l.length ≤ 64 ∧ ∀ u ∈ l, Rw u (w + L.flatten.length)) → WL w (L ++ [l])
  | [], w, l, _, h => ⟨by simpa using h, trivial⟩
  | m :: L, w, l, h, q => ⟨h.1, WL_snoc h.2 (by rw [List.flatten_cons, List.length_append, ← Nat.add_assoc] at q; exact q)⟩
theorem getD_lenD {L : Lays} {w : Nat} (h : WL w L) (i : Nat) (hi : i < L.length) : 1 ≤ (L.getD i []).length ∧ (L.getD i []).length ≤ 64 := by
  have e : L.getD i [] = L[i] := by rw [List.getD_eq_getElem?_getD, List.getElem?_eq_getElem hi]; rfl
  rw [e]
  have := h.get (List.getElem?_eq_getElem hi)
  exact ⟨this.1, this.2.1⟩
theorem both_WL {n : Nat} {L1 L2 : Lays} (h1 : WL n L1) (h2 : WL n L2) (hs : ∀ i, (layB n L1 L2 i).length ≤ 64) : ∀ d, d ≤ max L1.length L2.length → WL n (both n L1 L2 d)
  | 0, _ => trivial
  | d + 1, hd => by
    rw [both_succ]
    refine WL_snoc (both_WL h1 h2 hs d (by omega)) ⟨?_, hs d, fun u hu => ?_⟩
    · rw [layB_len]
      by_cases h : d < L1.length
      · have := (getD_lenD h1 d h).1; omega
      · have := (getD_lenD h2 d (by omega)).1; omega
    · unfold layB at hu
      rw [both_flat]
      rcases List.mem_append.mp hu with hu | hu
      · obtain ⟨r, hr, rfl⟩ := List.mem_map.mp hu
        exact ⟨by rw [fill_len, mask_len], fill_sh (WL_getD h1 d r hr).2⟩
      · obtain ⟨r, hr, rfl⟩ := List.mem_map.mp hu
        exact ⟨by rw [fill_len, mask_len], fill_sh (WL_getD h2 d r hr).2⟩
end N20

set_option Elab.async false
set_option linter.all false
set_option maxRecDepth 100000
set_option maxHeartbeats 4000000
namespace N20
open PySem PySem.Spec PyProof.Rows L2 RW

/-! places -/
def plsF : Nat → List Bool → List Nat
  | _, [] => []
  | o, true :: m => o :: plsF (o + 1) m
  | o, false :: m => plsF (o + 1) m
theorem plsF_app : ∀ (m m' : List Bool) (o : Nat), plsF o (m ++ m') = plsF o m ++ plsF (o + m.length) m'
  | [], m', o => by simp [plsF]
  | true :: m, m', o => by rw [List.cons_append, plsF, plsF, plsF_app m m' (o + 1), List.length_cons, List.cons_append, Nat.add_assoc, Nat.add_comm 1]
  | false :: m, m', o => by rw [List.cons_append, plsF, plsF, plsF_app m m' (o + 1), List.length_cons, Nat.add_assoc, Nat.add_comm 1]
theorem plsF_t : ∀ (k o : Nat), plsF o (List.replicate k true) = List.range' o k
  | 0, o => rfl
  | k + 1, o => by rw [List.replicate_succ, plsF, plsF_t k (o + 1), List.range'_succ]
theorem plsF_f : ∀ (k o : Nat), plsF o (List.replicate k false) = []
  | 0, o => rfl
  | k + 1, o => by rw [List.replicate_succ, plsF, plsF_f k (o + 1)]
theorem plsF_lt : ∀ (m : List Bool) (o p : Nat), p ∈ plsF o m → p < o + m.length
  | [], o, p, h => by simp [plsF] at h
  | true :: m, o, p, h => by
    rw [plsF] at h
    rw [List.length_cons]
    rcases List.mem_cons.mp h with rfl | h
    · omega
    · have := plsF_lt m (o + 1) p h; omega
  | false :: m, o, p, h => by
    rw [plsF] at h
    rw [List.length_cons]
    have := plsF_lt m (o + 1) p h; omega
theorem plsF_len : ∀ (m : List Bool) (o : Nat), (plsF o m).length ≤ m.length
  | [], o => Nat.le_refl _
  | true :: m, o => by rw [plsF, List.length_cons, List.length_cons]; have := plsF_len m (o + 1); omega
  | false :: m, o => by rw [plsF, List.length_cons]; have := plsF_len m (o + 1); omega
theorem fill_nil : ∀ m : List Bool, fill m [] = List.replicate m.length 0
  | [] => rfl
  | true :: m => by rw [fill, fill_nil m, List.length_cons, List.replicate_succ]
  | false :: m => by rw [fill, fill_nil m, List.length_cons, List.replicate_succ]
def puts (A : List Int) (ps : List (Nat × Int)) : List Int := ps.foldl (fun f p => f.set p.1 p.2) A
theorem puts_len (ps : List (Nat × Int)) : ∀ A : List Int, (puts A ps).length = A.length := by
  induction ps with
  | nil => intro A; rfl
  | cons p ps ih => intro A; exact (ih (A.set p.1 p.2)).trans (List.length_set ..)
theorem puts_fill : ∀ (m : List Bool) (A u : List Int), puts (A ++ List.replicate m.length 0) ((plsF A.length m).zip u) = A ++ fill m u
  | [], A, u => by simp [plsF, puts, fill]
  | true :: m, A, [] => by rw [List.zip_nil_right, fill_nil]; rfl
  | true :: m, A, x :: u => by
    have ih := puts_fill m (A ++ [x]) u
    rw [List.length_append, List.length_singleton] at ih
    have e : (A ++ List.replicate (true :: m).length 0).set A.length x = (A ++ [x]) ++ List.replicate m.length 0 := by
      rw [List.length_cons, List.replicate_succ, List.set_append_right _ _ (Nat.le_refl _), Nat.sub_self]; simp
    rw [plsF, List.zip_cons_cons, fill]
    show puts ((A ++ List.replicate (true :: m).length 0).set A.length x) _ = _
    rw [e, ih, List.append_assoc]; rfl
  | false :: m, A, u => by
    have ih := puts_fill m (A ++ [0]) u
    rw [List.length_append, List.length_singleton] at ih
    have e : A ++ List.replicate (false :: m).length (0 : Int) = (A ++ [0]) ++ List.replicate m.length 0 := by
      rw [List.length_cons, List.replicate_succ]; simp
    have f : fill (false :: m) u = 0 :: fill m u := by cases u <;> rfl
    rw [plsF, e, ih, f, List.append_assoc]; rfl
theorem ev0 {K : PySem.W.Frag} {te : TE} {env : Env1} {S S1 : List Dat} {a : Nat} (h : Ev K te env S (.d (.int (0 + (a : Nat)))) S1) : Ev K te env S (.d (.int ((a : Nat) : Int))) S1 := h.to (by rw [Int.zero_add])
def natL (ps : List Nat) : Dat := .lst (ps.map fun p => Dat.int (p : Nat))
def gSum (ss : List Sl) (S : List Dat) (r : Dat) (S' : List Dat) : Prop := ∃ (u v : List Int), ss = [.d (rowD u), .d (rowD v)] ∧ u.length ≤ 1000 ∧ r = rowD (addR u v) ∧ S' = S
def gDiff (ss : List Sl) (S : List Dat) (r : Dat) (S' : List Dat) : Prop := ∃ (u v : List Int), ss = [.d (rowD u), .d (rowD v)] ∧ u.length ≤ 1000 ∧ r = rowD (subR u v) ∧ S' = S
def gTimes (ss : List Sl) (S : List Dat) (r : Dat) (S' : List Dat) : Prop := ∃ (u : List Int) (c : Int), ss = [.d (rowD u), .d (.int c)] ∧ u.length ≤ 1000 ∧ (∀ x ∈ u, CMulW c x) ∧ r = rowD (u.map fun x => c * x) ∧ S' = S
def gNum (ss : List Sl) (S : List Dat) (r : Dat) (S' : List Dat) : Prop := ∃ (c : Int), ss = [.d (.int c)] ∧ Sh c ∧ r = .non ∧ S' = S
def gNets (C : Addr) (ss : List Sl) (S : List Dat) (r : Dat) (S' : List Dat) : Prop := ∃ (n : Nat) (L1 L2 : Lays) (l1 l2 : List Int), ss = [.d (netD C n L1 l1), .d (netD C n L2 l2)] ∧ r = .non ∧ S' = S
def gWid (ss : List Sl) (S : List Dat) (r : Dat) (S' : List Dat) : Prop := ∃ (u : List Int) (m : List Bool) (w : Nat), ss = [.d (rowD u), .d (natL (plsF 0 m)), .d (.int (w : Nat))] ∧ m.length = w ∧ w ≤ 1000 ∧ r = rowD (fill m u) ∧ S' = S
def gLayAt (C : Addr) (ss : List Sl) (S : List Dat) (r : Dat) (S' : List Dat) : Prop := ∃ (n : Nat) (L : Lays) (last : List Int) (i : Nat), ss = [.d (netD C n L last), .d (.int (i : Nat))] ∧ r = layD (L.getD i []) ∧ S' = S
section
variable {P : Program} {w : World} {K : PySem.W.Frag} {mg : Str → Option Value} {base : Heap}

theorem ok_sum_of (T : Txt K mg) : FnOk P w K mg base CX0 1 T.a_sum_of T.d_sum_of ["one", "other"] (SpD K (gSum)) := by
  refine T.F_sum_of.ok sc_sum_of (spd_len (k := 2) fun ss S r S' hg => ?_) (fun cdv A outer s H vs Q E hr h => ⟨_, (pss_one (ps_ret (pe_callTy (call_tupK K rfl) (by rfl) T.n_tuple (by decide +kernel) (pa_cons (pe_lc (own := [("x", 2), ("y", 3)]) (g := gTup K 2 (gCons (gName 2) (gCons (gName 3) gNil))) rfl sc_sum_of.nd (pi_zipGK K (by rfl) T.n_zip (pa_cons (pv 0) (pa_cons (pv 1) pa_nil))) (blkOk_by (own := [("x", 2), ("y", 3)]) (N := ["one", "other", "x", "y"]) (sc := (defScope s_sum_of)) (by decide +kernel)) (fun _ _ _ _ _ => (pg_tup rfl (pgs_cons (pg_name (i := 2) sc_sum_of.nd rfl (by first | exact Or.inl rfl | exact Or.inr rfl)) (pgs_cons (pg_name (i := 3) sc_sum_of.nd rfl (by first | exact Or.inl rfl | exact Or.inr rfl)) pgs_nil)))) (fun _ _ _ _ _ => pts_nil) (fun _ _ _ _ _ => (pe_op op_add (pv 2) (pv 3)))) pa_nil)))), sp_body h fun ss S r S' hg => ?_⟩)
  · obtain ⟨u, v, rfl, _⟩ := hg; rfl
  · obtain ⟨u, v, rfl, hl, rfl, rfl⟩ := hg
    refine sp_ret (d := rowD (addR u v)) (ev_cb (ea_cons (EvN.ev (en_mapA (xs := u.zip v) (g := fun p => Dat.tup [.int p.1, .int p.2]) (is := [2, 3]) (fun p => Dat.int (p.1 + p.2)) (it_zipA (ea_cons (ev_var rfl) (ea_cons (ev_var rfl) ea_nil)) .tup .tup) (size_1000 (by rw [List.length_zip]; omega)) (fun _ _ => trivial) (by decide) (fun p env => (env.set 2 (some (.d (.int p.1)))).set 3 (some (.d (.int p.2)))) fun a ha => ⟨tg_pair, ev_op (ev_var rfl) (ev_var rfl) o_add⟩)) ea_nil) (cd_tup ?_)) ⟨rfl, List.take_length⟩
    unfold addR; rw [List.map_map]; exact .lst
theorem ok_difference_of (T : Txt K mg) : FnOk P w K mg base CX0 1 T.a_difference_of T.d_difference_of ["one", "other"] (SpD K (gDiff)) := by
  refine T.F_difference_of.ok sc_difference_of (spd_len (k := 2) fun ss S r S' hg => ?_) (fun cdv A outer s H vs Q E hr h => ⟨_, (pss_one (ps_ret (pe_callTy (call_tupK K rfl) (by rfl) T.n_tuple (by decide +kernel) (pa_cons (pe_lc (own := [("x", 2), ("y", 3)]) (g := gTup K 2 (gCons (gName 2) (gCons (gName 3) gNil))) rfl sc_difference_of.nd (pi_zipGK K (by rfl) T.n_zip (pa_cons (pv 0) (pa_cons (pv 1) pa_nil))) (blkOk_by (own := [("x", 2), ("y", 3)]) (N := ["one", "other", "x", "y"]) (sc := (defScope s_difference_of)) (by decide +kernel)) (fun _ _ _ _ _ => (pg_tup rfl (pgs_cons (pg_name (i := 2) sc_difference_of.nd rfl (by first | exact Or.inl rfl | exact Or.inr rfl)) (pgs_cons (pg_name (i := 3) sc_difference_of.nd rfl (by first | exact Or.inl rfl | exact Or.inr rfl)) pgs_nil)))) (fun _ _ _ _ _ => pts_nil) (fun _ _ _ _ _ => (pe_op op_sub (pv 2) (pv 3)))) pa_nil)))), sp_body h fun ss S r S' hg => ?_⟩)
  · obtain ⟨u, v, rfl, _⟩ := hg; rfl
  · obtain ⟨u, v, rfl, hl, rfl, rfl⟩ := hg
    refine sp_ret (d := rowD (subR u v)) (ev_cb (ea_cons (EvN.ev (en_mapA (xs := u.zip v) (g := fun p => Dat.tup [.int p.1, .int p.2]) (is := [2, 3]) (fun p => Dat.int (p.1 - p.2)) (it_zipA (ea_cons (ev_var rfl) (ea_cons (ev_var rfl) ea_nil)) .tup .tup) (size_1000 (by rw [List.length_zip]; omega)) (fun _ _ => trivial) (by decide) (fun p env => (env.set 2 (some (.d (.int p.1)))).set 3 (some (.d (.int p.2)))) fun a ha => ⟨tg_pair, ev_op (ev_var rfl) (ev_var rfl) o_sub⟩)) ea_nil) (cd_tup ?_)) ⟨rfl, List.take_length⟩
    unfold subR; rw [List.map_map]; exact .lst
theorem ok_times (T : Txt K mg) : FnOk P w K mg base CX0 1 T.a_times T.d_times ["row", "number"] (SpD K (gTimes)) := by
  refine T.F_times.ok sc_times (spd_len (k := 2) fun ss S r S' hg => ?_) (fun cdv A outer s H vs Q E hr h => ⟨_, (pss_one (ps_ret (pe_callTy (call_tupK K rfl) (by rfl) T.n_tuple (by decide +kernel) (pa_cons (pe_lc (own := [("x", 2)]) rfl sc_times.nd (pi_seqK K (pv 0)) (blkOk_by (own := [("x", 2)]) (N := ["row", "number", "x"]) (sc := (defScope s_times)) (by decide +kernel)) (fun _ _ _ _ _ => (pg_name (i := 2) sc_times.nd rfl (by first | exact Or.inl rfl | exact Or.inr rfl))) (fun _ _ _ _ _ => pts_nil) (fun _ _ _ _ _ => (pe_op op_mulW (pv 1) (pv 2)))) pa_nil)))), sp_body h fun ss S r S' hg => ?_⟩)
  · obtain ⟨u, c, rfl, _⟩ := hg; rfl
  · obtain ⟨u, c, rfl, hl, hc, rfl, rfl⟩ := hg
    refine sp_ret (d := rowD (u.map fun x => c * x)) (ev_cb (ea_cons (EvN.ev (en_mapA (xs := u) (g := Dat.int) (is := [2]) (fun x => Dat.int (c * x)) (it_tup (ev_var rfl)) (size_1000 hl) (fun _ _ => trivial) (by decide) (fun x env => env.set 2 (some (.d (.int x)))) fun x hx => ⟨tg_name, ev_op (ev_var rfl) (ev_var rfl) (o_mulW (hc x hx))⟩)) ea_nil) (cd_tup ?_)) ⟨rfl, List.take_length⟩
    rw [List.map_map]; exact .lst
theorem ok_need_number (T : Txt K mg) : FnOk P w K mg base CX0 3 T.a_need_number T.d_need_number ["number"] (SpD K (gNum)) := by
  have G_is_short := ok_is_short (P := P) (w := w) (base := base) T
  have b_is_short := T.b_is_short
  refine T.F_need_number.ok sc_need_number (spd_len (k := 1) fun ss S r S' hg => ?_) (fun cdv A outer s H vs Q E hr h => ⟨_, (pss_one (ps_if (pt_not (pt_truK K (pe_call G_is_short (hr.mono (by decide)) rfl T.m_is_short T.k_is_short b_is_short .nil pass0 (pa_cons (pv 0) pa_nil)))) (pss_one ps_never) pss_nil)), sp_body h fun ss S r S' hg => ?_⟩)
  · obtain ⟨c, rfl, _⟩ := hg; rfl
  · obtain ⟨c, rfl, hc, rfl, rfl⟩ := hg
    exact sp_if (b := false) (et_not (a := true) (et_bl (ev_call (ea_cons (ev_var rfl) ea_nil) ⟨c, rfl, hc, rfl, rfl⟩))) (fun h => by cases h) fun _ => sp_next ⟨rfl, List.take_length⟩
theorem ok_need_networks (T : Txt K mg) : FnOk P w K mg base CX0 2 T.a_need_networks T.d_need_networks ["one", "other"] (SpD K (gNets T.C)) := by
  have G_need_network := ok_need_network (P := P) (w := w) (base := base) T
  have b_need_network := T.b_need_network
  refine T.F_need_networks.ok sc_need_networks (spd_len (k := 2) fun ss S r S' hg => ?_) (fun cdv A outer s H vs Q E hr h => ⟨_, (pss_cons (ps_expr (pe_call G_need_network (hr.mono (by decide)) rfl T.m_need_network T.k_need_network b_need_network .nil pass0 (pa_cons (pv 0) pa_nil))) (pss_cons (ps_expr (pe_call G_need_network (hr.mono (by decide)) rfl T.m_need_network T.k_need_network b_need_network .nil pass0 (pa_cons (pv 1) pa_nil))) (pss_one (ps_if (pt_cmpR op_ne (pe_fld (pv 0) rfl) (pe_fld (pv 1) rfl) (nomark _)) (pss_one ps_never) pss_nil)))), sp_body h fun ss S r S' hg => ?_⟩)
  · obtain ⟨n, L1, L2, l1, l2, rfl, _⟩ := hg; rfl
  · obtain ⟨n, L1, L2, l1, l2, rfl, rfl, rfl⟩ := hg
    refine sp_drop (ev_call (ea_cons (ev_var rfl) ea_nil) ⟨n, L1, l1, rfl, rfl, rfl⟩) ?_
    refine sp_drop (ev_call (ea_cons (ev_var rfl) ea_nil) ⟨n, L2, l2, rfl, rfl, rfl⟩) ?_
    exact sp_if (b := false) (et_test ((ev_op (ev_fld (ev_var rfl) T.cl T.na_inputs rfl) (ev_fld (ev_var rfl) T.cl T.na_inputs rfl) op2_ne_int).to (by simp))) (fun h => by cases h) fun _ => sp_next ⟨rfl, List.take_length⟩
theorem ok_widened (T : Txt K mg) : FnOk P w K mg base CX0 1 T.a_widened T.d_widened ["row", "places", "width"] (SpD K (gWid)) := by
  refine T.F_widened.ok sc_widened (spd_len (k := 3) fun ss S r S' hg => ?_) (fun cdv A outer s H vs Q E hr h => ⟨_, (pss_cons (ps_set (i := 3) sc_widened.nd rfl (by first | exact Or.inl rfl | exact Or.inr rfl) (pe_op op_rep (pe_lst (pa_cons pe_int pa_nil)) (pv 2))) (pss_cons (ps_for PassesOwn.never rfl (pi_zipGK K (by rfl) T.n_zip (pa_cons (pv 1) (pa_cons (pv 0) pa_nil))) (pg_tup rfl (pgs_cons (pg_name (i := 4) sc_widened.nd rfl (by first | exact Or.inl rfl | exact Or.inr rfl)) (pgs_cons (pg_name (i := 5) sc_widened.nd rfl (by first | exact Or.inl rfl | exact Or.inr rfl)) pgs_nil))) (pss_one (ps_asg (pv 5) (pg_sub (pv 3) (pv 4) set_list)))) (pss_one (ps_ret (pe_callTy (call_tupK K rfl) (by rfl) T.n_tuple (by decide +kernel) (pa_cons (pv 3) pa_nil)))))), sp_body h fun ss S r S' hg => ?_⟩)
  · obtain ⟨u, m, w, rfl, _⟩ := hg; rfl
  · obtain ⟨u, m, w, rfl, hm, hw, rfl, rfl⟩ := hg
    have hpl := plsF_len m 0
    refine sp_setC (S1 := S') (ds := (List.replicate w (0 : Int)).map Dat.int) ?_ ?_
    · have := en_rep (k := (w : Int)) (K := K) (env := [some (.d (rowD u)), some (.d (natL (plsF 0 m))), some (.d (.int (w : Nat))), none, none, none]) (S := S') (ds := [Dat.int 0]) (en_lst (ea_cons ev_int ea_nil : EvA K _ _ S' ([Dat.int 0].map Sl.d) S') (by show 1 ≤ sizeLine; decide)).ev (ev_var (i := 2) rfl) .lst ⟨by omega, by omega⟩ (by simp; exact size_1000 (by omega))
      rw [Int.toNat_natCast, rep_flatP] at this
      rw [List.map_replicate]
      exact this
    refine sp_seq (P' := { nx := fun env' S2 => S2 = S' ++ [.lst ((fill m u).map Dat.int)] ∧ ∃ o1 o2, env' = [some (.d (rowD u)), some (.d (natL (plsF 0 m))), some (.d (.int (w : Nat))), some (.c S'.length), o1, o2] })
      (sp_forA (xs := (plsF 0 m).zip u) (g := fun p => Dat.tup [.int (p.1 : Nat), .int p.2]) (it_zipA (f := fun p : Nat => Dat.int (p : Nat)) (ea_cons (ev_var rfl) (ea_cons (ev_var rfl) ea_nil)) .lst .tup) (fun i env' S2 => S2 = S' ++ [.lst ((puts (List.replicate w 0) (((plsF 0 m).zip u).take i)).map Dat.int)] ∧ ∃ o1 o2, env' = [some (.d (rowD u)), some (.d (natL (plsF 0 m))), some (.d (.int (w : Nat))), some (.c S'.length), o1, o2]) ⟨rfl, none, none, rfl⟩ (fun _ _ _ _ _ _ _ _ _ => trivial) ?_ ?_) ?_
    · rintro i ⟨p, x⟩ env' S2 ha ⟨rfl, o1, o2, rfl⟩
      have hp := plsF_lt m 0 p (List.of_mem_zip (List.mem_of_getElem? ha)).1
      have hlen := puts_len (((plsF 0 m).zip u).take i) (List.replicate w 0)
      rw [List.length_replicate] at hlen
      have hst : puts (List.replicate w 0) (((plsF 0 m).zip u).take (i + 1)) = (puts (List.replicate w 0) (((plsF 0 m).zip u).take i)).set p x := by
        unfold puts
        exact foldl_take _ _ ha
      rw [hst]
      refine ⟨[4, 5], fun env => (env.set 4 (some (.d (.int (p : Nat))))).set 5 (some (.d (.int x))), tg_pair, ?_⟩
      refine sp_setitem1 (d := .int x) (iv := (p : Int)) (j := p) (ev_var rfl) (ev_var rfl) (ev_var rfl) sg_last (ixN_nat (by rw [List.length_map, hlen]; omega)) ⟨?_, _, _, rfl⟩
      rw [sg_set, List.map_set]
    · rintro env' S2 ⟨rfl, o1, o2, rfl⟩
      rw [List.take_length]
      have := puts_fill m [] u
      rw [List.nil_append, List.nil_append, List.length_nil, hm] at this
      rw [this]
      exact ⟨rfl, o1, o2, rfl⟩
    · rintro env' S2 ⟨rfl, o1, o2, rfl⟩
      exact sp_ret (d := rowD (fill m u)) (ev_cb (ea_cons (ev_var rfl) ea_nil) (cd_tup (.cell sg_last))) ⟨rfl, by simp⟩
theorem ok_layer_at (T : Txt K mg) : FnOk P w K mg base CX0 1 T.a_layer_at T.d_layer_at ["network", "at"] (SpD K (gLayAt T.C)) := by
  refine T.F_layer_at.ok sc_layer_at (spd_len (k := 2) fun ss S r S' hg => ?_) (fun cdv A outer s H vs Q E hr h => ⟨_, (pss_one (ps_ret (pe_ifExp (pt_cmpR op_lt (pv 1) (pe_fld (pv 0) rfl) (nomark _)) (pe_ix (ix_seqK K) (pe_fld (pv 0) rfl) (pv 1) (fun _ _ => rfl)) (pe_tup pa_nil)))), sp_body h fun ss S r S' hg => ?_⟩)
  · obtain ⟨n, L, l, i, rfl, _⟩ := hg; rfl
  · obtain ⟨n, L, last, i, rfl, rfl, rfl⟩ := hg
    refine sp_ret (ev_if (b := decide ((i : Int) < (L.length : Int))) (et_test (ev_op (ev_var rfl) (ev_fld (ev_var rfl) T.cl T.na_depth rfl) o_lt)) (fun h => ?_) fun h => ?_) ⟨rfl, List.take_length⟩
    · have hi : i < L.length := by have := of_decide_eq_true h; omega
      refine (ev_op (ev_fld (ev_var rfl) T.cl T.na_layers rfl) (ev_var rfl) (op2_ix .tup (atI_map (List.getElem?_eq_getElem hi)))).to ?_
      rw [List.getD_eq_getElem?_getD, List.getElem?_eq_getElem hi]; rfl
    · have hi : ¬ i < L.length := by have := of_decide_eq_false h; omega
      refine (ev_tup (ds := []) ea_nil (Nat.zero_le _)).to ?_
      rw [List.getD_eq_getElem?_getD, List.getElem?_eq_none (by omega)]; rfl
end
end N20

set_option Elab.async false
set_option linter.all false
set_option maxRecDepth 100000
set_option maxHeartbeats 4000000
namespace N20
open PySem PySem.Spec PyProof.Rows L2 RW

theorem wid_eq (n : Nat) : ∀ z : List (Nat × Nat), wid n z = n + (z.map (own true)).sum + (z.map (own false)).sum
  | [] => by simp [wid]
  | p :: z => by
    have ih := wid_eq n z
    unfold wid at ih ⊢
    simp only [List.map_cons, List.sum_cons] at ih ⊢
    unfold own at ih ⊢
    simp only [if_true, Bool.false_eq_true, if_false] at ih ⊢
    omega
theorem flat_take_le (L : Lays) (i : Nat) : (L.take i).flatten.length ≤ L.flatten.length := by
  conv => rhs; rw [← List.take_append_drop i L, List.flatten_append, List.length_append]
  omega
theorem wid_le (n : Nat) (L1 L2 : Lays) (i : Nat) : wid n (szs L1 L2 i) ≤ n + L1.flatten.length + L2.flatten.length := by
  have h1 := flat_take_le L1 i
  have h2 := flat_take_le L2 i
  rw [wid_eq, own_sum1, own_sum2]
  omega
theorem pls_left (M : List Bool) (a b w : Nat) (h : M.length = w) : plsF 0 (M ++ (List.replicate a true ++ List.replicate b false)) = plsF 0 M ++ List.range' w a := by
  rw [plsF_app, plsF_app, plsF_t, plsF_f, List.append_nil, h, Nat.zero_add]
theorem pls_right (M : List Bool) (a b w : Nat) (h : M.length = w) : plsF 0 (M ++ (List.replicate a false ++ List.replicate b true)) = plsF 0 M ++ List.range' (w + a) b := by
  rw [plsF_app, plsF_app, plsF_f, plsF_t, List.nil_append, h, Nat.zero_add, List.length_replicate]
def gSide (C : Addr) (ss : List Sl) (S : List Dat) (r : Dat) (S' : List Dat) : Prop := ∃ (n : Nat) (L1 L2 : Lays) (l1 l2 : List Int) (d : Nat), ss = [.d (netD C n L1 l1), .d (netD C n L2 l2)] ∧ Wf n L1 l1 ∧ Wf n L2 l2 ∧ max L1.length L2.length = d ∧ r = .tup [laysD (both n L1 L2 d), rowD (lastB true n L1 L2 d l1), rowD (lastB false n L1 L2 d l2)] ∧ S' = S
theorem getD_len {L : Lays} {n : Nat} {last : List Int} (hw : Wf n L last) (i : Nat) : (L.getD i []).length ≤ 64 := by
  by_cases hi : i < L.length
  · exact (getD_lenD hw.wl i hi).2
  · rw [List.getD_eq_getElem?_getD, List.getElem?_eq_none (by omega)]; exact Nat.zero_le _
section
variable {P : Program} {w : World} {K : PySem.W.Frag} {mg : Str → Option Value} {base : Heap}

theorem ok_side_by_side (T : Txt K mg) : FnOk P w K mg base CX0 2 T.a_side_by_side T.d_side_by_side ["one", "other"] (SpD K (gSide T.C)) := by
  have G_layer_at := ok_layer_at (P := P) (w := w) (base := base) T
  have b_layer_at := T.b_layer_at
  have G_widened := ok_widened (P := P) (w := w) (base := base) T
  have b_widened := T.b_widened
  refine T.F_side_by_side.ok sc_side_by_side (spd_len (k := 2) fun ss S r S' hg => ?_) (fun cdv A outer s H vs Q E hr h => ⟨_, (pss_cons (ps_asg (pe_tup (pa_cons (pe_fld (pv 0) rfl) (pa_cons (pe_lst pa_nil) pa_nil))) (pg_tup rfl (pgs_cons (pg_name (i := 2) sc_side_by_side.nd rfl (by first | exact Or.inl rfl | exact Or.inr rfl)) (pgs_cons (pg_name (i := 3) sc_side_by_side.nd rfl (by first | exact Or.inl rfl | exact Or.inr rfl)) pgs_nil)))) (pss_cons (ps_asg (pe_tup (pa_cons (pe_listRg rfl rfl T.n_list (prg_1 rfl T.n_range (pv 2))) (pa_cons (pe_listRg rfl rfl T.n_list (prg_1 rfl T.n_range (pv 2))) pa_nil))) (pg_tup rfl (pgs_cons (pg_name (i := 4) sc_side_by_side.nd rfl (by first | exact Or.inl rfl | exact Or.inr rfl)) (pgs_cons (pg_name (i := 5) sc_side_by_side.nd rfl (by first | exact Or.inl rfl | exact Or.inr rfl)) pgs_nil)))) (pss_cons (ps_for PassesOwn.never rfl (pi_range1 (by rfl) T.n_range (pa_cons (pe_callB (call_max2D rfl) (by rfl) T.n_max (by decide +kernel) (pa_cons (pe_fld (pv 0) rfl) (pa_cons (pe_fld (pv 1) rfl) pa_nil))) pa_nil)) (pg_name (i := 6) sc_side_by_side.nd rfl (by first | exact Or.inl rfl | exact Or.inr rfl)) (pss_cons (ps_setLc (own := [("unit", 8)]) (i := 7) rfl sc_side_by_side.nd rfl rfl (sw_true rfl rfl rfl (by decide +kernel)) (pi_seqK K (pe_call G_layer_at (hr.mono (by decide)) rfl T.m_layer_at T.k_layer_at b_layer_at .nil pass0 (pa_cons (pv 0) (pa_cons (pv 6) pa_nil)))) (blkOk_by (own := [("unit", 8)]) (N := ["one", "other", "width", "layers", "left", "right", "at", "units", "unit", "others"]) (sc := (defScope s_side_by_side)) (by decide +kernel)) (fun _ _ _ _ _ => (pg_name (i := 8) sc_side_by_side.nd rfl (by first | exact Or.inl rfl | exact Or.inr rfl))) (fun _ _ _ _ _ => pts_nil) (fun _ _ _ _ _ => (pe_call G_widened (hr.mono (by decide)) rfl T.m_widened T.k_widened b_widened .nil pass0 (pa_cons (pv 8) (pa_cons (pv 4) (pa_cons (pv 2) pa_nil)))))) (pss_cons (ps_setLc (own := [("unit", 8)]) (i := 9) rfl sc_side_by_side.nd rfl rfl (sw_true rfl rfl rfl (by decide +kernel)) (pi_seqK K (pe_call G_layer_at (hr.mono (by decide)) rfl T.m_layer_at T.k_layer_at b_layer_at .nil pass0 (pa_cons (pv 1) (pa_cons (pv 6) pa_nil)))) (blkOk_by (own := [("unit", 8)]) (N := ["one", "other", "width", "layers", "left", "right", "at", "units", "unit", "others"]) (sc := (defScope s_side_by_side)) (by decide +kernel)) (fun _ _ _ _ _ => (pg_name (i := 8) sc_side_by_side.nd rfl (by first | exact Or.inl rfl | exact Or.inr rfl))) (fun _ _ _ _ _ => pts_nil) (fun _ _ _ _ _ => (pe_call G_widened (hr.mono (by decide)) rfl T.m_widened T.k_widened b_widened .nil pass0 (pa_cons (pv 8) (pa_cons (pv 5) (pa_cons (pv 2) pa_nil)))))) (pss_cons (ps_set (i := 4) sc_side_by_side.nd rfl (by first | exact Or.inl rfl | exact Or.inr rfl) (pe_op op_cat (pv 4) (pe_listRg rfl rfl T.n_list (prg_2 rfl T.n_range (pv 2) (pe_op op_add (pv 2) (pe_callB (call_lenK K) (by rfl) T.n_len (by decide +kernel) (pa_cons (pv 7) pa_nil))))))) (pss_cons (ps_aug (i := 2) sc_side_by_side.nd rfl (by first | exact Or.inl rfl | exact Or.inr rfl) (pe_callB (call_lenK K) (by rfl) T.n_len (by decide +kernel) (pa_cons (pv 7) pa_nil)) ip_add) (pss_cons (ps_set (i := 5) sc_side_by_side.nd rfl (by first | exact Or.inl rfl | exact Or.inr rfl) (pe_op op_cat (pv 5) (pe_listRg rfl rfl T.n_list (prg_2 rfl T.n_range (pv 2) (pe_op op_add (pv 2) (pe_callB (call_lenK K) (by rfl) T.n_len (by decide +kernel) (pa_cons (pv 9) pa_nil))))))) (pss_cons (ps_aug (i := 2) sc_side_by_side.nd rfl (by first | exact Or.inl rfl | exact Or.inr rfl) (pe_callB (call_lenK K) (by rfl) T.n_len (by decide +kernel) (pa_cons (pv 9) pa_nil)) ip_add) (pss_one (ps_expr (pe_bm PySem.F.plainAttrs_list PySem.F.slot_list_append PySem.F.type_list_append mt_append (pv 3) (pa_cons (pe_callTy (call_tupK K rfl) (by rfl) T.n_tuple (by decide +kernel) (pa_cons (pe_op op_cat (pv 7) (pv 9)) pa_nil)) pa_nil))))))))))) (pss_one (ps_ret (pe_tup (pa_cons (pe_callTy (call_tupK K rfl) (by rfl) T.n_tuple (by decide +kernel) (pa_cons (pv 3) pa_nil)) (pa_cons (pe_call G_widened (hr.mono (by decide)) rfl T.m_widened T.k_widened b_widened .nil pass0 (pa_cons (pe_fld (pv 0) rfl) (pa_cons (pv 4) (pa_cons (pv 2) pa_nil)))) (pa_cons (pe_call G_widened (hr.mono (by decide)) rfl T.m_widened T.k_widened b_widened .nil pass0 (pa_cons (pe_fld (pv 1) rfl) (pa_cons (pv 5) (pa_cons (pv 2) pa_nil)))) pa_nil))))))))), sp_body h fun ss S r S' hg => ?_⟩)
  · obtain ⟨n, L1, L2, l1, l2, d, rfl, _⟩ := hg; rfl
  · obtain ⟨n, L1, L2, l1, l2, d, rfl, hw1, hw2, hd, rfl, rfl⟩ := hg
    have hn8 := hw1.n8
    have hu1 := hw1.u
    have hu2 := hw2.u
    have hd1 := hw1.l4
    have hd2 := hw2.l4
    refine sp_pairVC (y := .d (.int n)) (ds := []) (ev_fld (ev_var rfl) T.cl T.na_inputs rfl) (en_lst ea_nil (Nat.zero_le _)) ?_
    refine sp_asg (d := .tup [natL (plsF 0 (mask true n (szs L1 L2 0))), natL (plsF 0 (mask false n (szs L1 L2 0)))]) (S1 := S' ++ [.lst []]) (ev_tup (ds := [natL (plsF 0 (mask true n (szs L1 L2 0))), natL (plsF 0 (mask false n (szs L1 L2 0)))]) (ea_cons (S1 := S' ++ [.lst []]) ?_ (ea_cons (S1 := S' ++ [.lst []]) ?_ ea_nil)) (by show 2 ≤ sizeLine; decide)) tg_pair ?_
    · refine (EvN.ev (en_rg1 (m := n) (ev_var rfl) (by omega))).to ?_
      have e2 : mask true n (szs L1 L2 0) = List.replicate n true := by unfold mask szs; simp
      rw [e2, plsF_t, ← List.range_eq_range']; rfl
    · refine (EvN.ev (en_rg1 (m := n) (ev_var rfl) (by omega))).to ?_
      have e2 : mask false n (szs L1 L2 0) = List.replicate n true := by unfold mask szs; simp
      rw [e2, plsF_t, ← List.range_eq_range']; rfl
    refine sp_seq (P' := { nx := fun env' S2 => S2 = S' ++ [.lst ((both n L1 L2 d).map layD)] ∧ ∃ o1 o2 o3, env' = [some (.d (netD T.C n L1 l1)), some (.d (netD T.C n L2 l2)), some (.d (.int (wid n (szs L1 L2 d) : Nat))), some (.c S'.length), some (.d (natL (plsF 0 (mask true n (szs L1 L2 d))))), some (.d (natL (plsF 0 (mask false n (szs L1 L2 d))))), o1, o2, none, o3] })
      (sp_forA (xs := List.range d) (g := fun i => Dat.int (0 + (i : Nat))) (it_rangeN (m := d) (ea_cons ((ev_cb (ea_cons (ev_fld (ev_var rfl) T.cl T.na_depth rfl) (ea_cons (ev_fld (ev_var rfl) T.cl T.na_depth rfl) ea_nil)) cd_max2).to (by rw [← hd]; congr 2; omega)) ea_nil) (by omega)) (fun i env' S2 => S2 = S' ++ [.lst ((both n L1 L2 i).map layD)] ∧ ∃ o1 o2 o3, env' = [some (.d (netD T.C n L1 l1)), some (.d (netD T.C n L2 l2)), some (.d (.int (wid n (szs L1 L2 i) : Nat))), some (.c S'.length), some (.d (natL (plsF 0 (mask true n (szs L1 L2 i))))), some (.d (natL (plsF 0 (mask false n (szs L1 L2 i))))), o1, o2, none, o3]) ⟨rfl, none, none, none, rfl⟩ (fun _ _ _ _ _ _ _ _ _ => trivial) ?_ ?_) ?_
    · rintro i a env' S2 ha ⟨rfl, o1, o2, o3, rfl⟩
      have hi : i < d ∧ a = i := by
        obtain ⟨h1, h2⟩ := List.getElem?_eq_some_iff.mp ha
        rw [List.length_range] at h1
        rw [List.getElem_range] at h2
        exact ⟨h1, h2.symm⟩
      obtain ⟨hi, rfl⟩ := hi
      have hwi := wid_le n L1 L2 a
      have hm1 := mask_len true n (szs L1 L2 a)
      have hm2 := mask_len false n (szs L1 L2 a)
      have g1 := getD_len hw1 a
      have g2 := getD_len hw2 a
      have hlb : layB n L1 L2 a = (L1.getD a []).map (fill (mask true n (szs L1 L2 a))) ++ (L2.getD a []).map (fill (mask false n (szs L1 L2 a))) := rfl
      have hws : wid n (szs L1 L2 (a + 1)) = wid n (szs L1 L2 a) + (L1.getD a []).length + (L2.getD a []).length := by
        rw [← both_flat, ← both_flat, both_succ, List.flatten_append, List.length_append]
        simp only [List.flatten_cons, List.flatten_nil, List.append_nil]
        rw [layB_len]; omega
      rw [hws, szs_succ, mask_snoc, mask_snoc, both_succ]
      have s1 : seg true ((L1.getD a []).length, (L2.getD a []).length) = List.replicate (L1.getD a []).length true ++ List.replicate (L2.getD a []).length false := rfl
      have s2 : seg false ((L1.getD a []).length, (L2.getD a []).length) = List.replicate (L1.getD a []).length false ++ List.replicate (L2.getD a []).length true := rfl
      rw [s1, s2, pls_left _ _ _ _ hm1, pls_right _ _ _ _ hm2, hlb]
      have hbl : (both n L1 L2 a).length = a := both_len ..
      generalize both n L1 L2 a = X at hbl ⊢
      have p1 := plsF_len (mask true n (szs L1 L2 a)) 0
      have p2 := plsF_len (mask false n (szs L1 L2 a)) 0
      generalize wid n (szs L1 L2 a) = W at hwi hm1 hm2 ⊢
      generalize mask true n (szs L1 L2 a) = M1 at hm1 p1 ⊢
      generalize mask false n (szs L1 L2 a) = M2 at hm2 p2 ⊢
      refine ⟨[6], fun env => env.set 6 (some (.d (.int (0 + (a : Nat))))), tg_name, ?_⟩
      refine sp_set (x := .d (.lst ((L1.getD a []).map fun u => rowD (fill M1 u)))) (S1 := S' ++ [.lst (X.map layD)]) (EvN.ev (en_mapA (xs := L1.getD a []) (g := rowD) (is := [8]) (fun u => rowD (fill M1 u)) (it_tup (ev_call (ea_cons (ev_var rfl) (ea_cons (ev0 (ev_var rfl)) ea_nil)) ⟨n, L1, l1, a, rfl, rfl, rfl⟩)) (size_1000 (by omega)) (fun _ _ => trivial) (by decide) (fun u env => env.set 8 (some (.d (rowD u)))) fun u hu => ⟨tg_name, ev_call (ea_cons (ev_var rfl) (ea_cons (ev_var rfl) (ea_cons (ev_var rfl) ea_nil))) ⟨u, M1, W, rfl, hm1, by omega, rfl, rfl⟩⟩)) ?_
      refine sp_set (x := .d (.lst ((L2.getD a []).map fun u => rowD (fill M2 u)))) (S1 := S' ++ [.lst (X.map layD)]) (EvN.ev (en_mapA (xs := L2.getD a []) (g := rowD) (is := [8]) (fun u => rowD (fill M2 u)) (it_tup (ev_call (ea_cons (ev_var rfl) (ea_cons (ev0 (ev_var rfl)) ea_nil)) ⟨n, L2, l2, a, rfl, rfl, rfl⟩)) (size_1000 (by omega)) (fun _ _ => trivial) (by decide) (fun u env => env.set 8 (some (.d (rowD u)))) fun u hu => ⟨tg_name, ev_call (ea_cons (ev_var rfl) (ea_cons (ev_var rfl) (ea_cons (ev_var rfl) ea_nil))) ⟨u, M2, W, rfl, hm2, by omega, rfl, rfl⟩⟩)) ?_
      have len1 : ∀ {te : TE} {env : Env1} {S : List Dat} {j : Nat} {l : Lays} {M : List Bool} {l : List (List Int)}, env[j]? = some (some (.d (.lst (l.map fun u => rowD (fill M u))))) → Ev K (tCB (rLenD K) (tCons (tVar j) tNil)) env S (.d (.int (l.length : Nat))) S := fun h => (ev_cb (ea_cons (ev_var h) ea_nil) (cd_len .lst)).to (by rw [List.length_map])
      refine sp_set (x := .d (natL (plsF 0 M1 ++ List.range' W (L1.getD a []).length))) (S1 := S' ++ [.lst (X.map layD)]) ((EvN.ev (en_cat (ev_var rfl) (EvN.ev (en_rg2 (a := W) (k := (L1.getD a []).length) (ev_var rfl) (ev_op (ev_var rfl) (ev_cb (ea_cons (ev_var rfl) ea_nil) (cd_len .lst)) o_add) (by rw [List.length_map]) (by omega))) .lst .lst ?_)).to (by rw [← List.map_append]; rfl)) ?_
      · rw [List.length_map, List.length_map, List.length_range']; exact size_1000 (by omega)
      refine sp_aug rfl (ev_cb (ea_cons (ev_var rfl) ea_nil) (cd_len .lst)) ?_
      rw [List.length_map, ← Int.natCast_add]
      refine sp_set (x := .d (natL (plsF 0 M2 ++ List.range' (W + (L1.getD a []).length) (L2.getD a []).length))) (S1 := S' ++ [.lst (X.map layD)]) ((EvN.ev (en_cat (ev_var rfl) (EvN.ev (en_rg2 (a := W + (L1.getD a []).length) (k := (L2.getD a []).length) (ev_var rfl) (ev_op (ev_var rfl) (ev_cb (ea_cons (ev_var rfl) ea_nil) (cd_len .lst)) o_add) (by rw [List.length_map]) (by omega))) .lst .lst ?_)).to (by rw [← List.map_append]; rfl)) ?_
      · rw [List.length_map, List.length_map, List.length_range']; exact size_1000 (by omega)
      refine sp_aug rfl (ev_cb (ea_cons (ev_var rfl) ea_nil) (cd_len .lst)) ?_
      rw [List.length_map, ← Int.natCast_add]
      refine sp_drop1 (ev_append (d := layD ((L1.getD a []).map (fill M1) ++ (L2.getD a []).map (fill M2))) (ev_var rfl) ((ev_cb (ea_cons (EvN.ev (en_cat (ev_var rfl) (ev_var rfl) .lst .lst ?_)) ea_nil) (cd_tup .lst)).to ?_) ⟨_, sg_last⟩ sg_last (by rw [List.length_map, hbl]; exact Nat.lt_of_le_of_lt (by omega : _ ≤ 4) (by decide))) ⟨?_, _, _, _, rfl⟩
      · rw [List.length_map, List.length_map]; exact size_1000 (by omega)
      · show _ = Sl.d (Dat.tup (((L1.getD a []).map (fill M1) ++ (L2.getD a []).map (fill M2)).map rowD))
        rw [List.map_append, List.map_map, List.map_map]; rfl
      · rw [sg_set, List.map_append]; rfl
    · rintro env' S2 ⟨rfl, o1, o2, o3, rfl⟩
      rw [List.length_range]
      exact ⟨rfl, o1, o2, o3, rfl⟩
    · rintro env' S2 ⟨rfl, o1, o2, o3, rfl⟩
      have hwi := wid_le n L1 L2 d
      have hm1 := mask_len true n (szs L1 L2 d)
      have hm2 := mask_len false n (szs L1 L2 d)
      exact sp_ret (ev_tup (ds := [laysD (both n L1 L2 d), rowD (lastB true n L1 L2 d l1), rowD (lastB false n L1 L2 d l2)]) (ea_cons (ev_cb (ea_cons (ev_var rfl) ea_nil) (cd_tup (.cell sg_last))) (ea_cons (ev_call (ea_cons (ev_fld (ev_var rfl) T.cl T.na_last rfl) (ea_cons (ev_var rfl) (ea_cons (ev_var rfl) ea_nil))) ⟨l1, mask true n (szs L1 L2 d), _, rfl, hm1, by omega, rfl, rfl⟩) (ea_cons (ev_call (ea_cons (ev_fld (ev_var rfl) T.cl T.na_last rfl) (ea_cons (ev_var rfl) (ea_cons (ev_var rfl) ea_nil))) ⟨l2, mask false n (szs L1 L2 d), _, rfl, hm2, by omega, rfl, rfl⟩) ea_nil))) (by show 3 ≤ sizeLine; decide)) ⟨rfl, by simp⟩
end
end N20

set_option Elab.async false
set_option linter.all false
set_option maxRecDepth 100000
set_option maxHeartbeats 4000000
namespace N20
open PySem PySem.Spec PyProof.Rows L2 RW

open StX
def gBnd (C : Addr) (ss : List Sl) (S : List Dat) (r : Dat) (S' : List Dat) : Prop := ∃ (n : Nat) (L : Lays) (last : List Int), ss = [.d (.int n), .d (laysD L), .d (rowD last)] ∧ Wf n L last ∧ r = netD C n L last ∧ S' = S
def gAdd (C : Addr) (ss : List Sl) (S : List Dat) (r : Dat) (S' : List Dat) : Prop := ∃ (n : Nat) (L1 L2 : Lays) (l1 l2 : List Int) (d : Nat), ss = [.d (netD C n L1 l1), .d (netD C n L2 l2)] ∧ Wf n L1 l1 ∧ Wf n L2 l2 ∧ max L1.length L2.length = d ∧ Wf n (both n L1 L2 d) (addR (lastB true n L1 L2 d l1) (lastB false n L1 L2 d l2)) ∧ r = netD C n (both n L1 L2 d) (addR (lastB true n L1 L2 d l1) (lastB false n L1 L2 d l2)) ∧ S' = S
def gMul (C : Addr) (ss : List Sl) (S : List Dat) (r : Dat) (S' : List Dat) : Prop := ∃ (n : Nat) (L : Lays) (last : List Int) (c : Int), ss = [.d (netD C n L last), .d (.int c)] ∧ Wf n L last ∧ Sh c ∧ Wf n L (last.map fun x => c * x) ∧ r = netD C n L (last.map fun x => c * x) ∧ S' = S
def rampL (L : Lays) (last : List Int) : Lays := L ++ [[last]]
def gRamp (C : Addr) (ss : List Sl) (S : List Dat) (r : Dat) (S' : List Dat) : Prop := ∃ (n : Nat) (L : Lays) (last : List Int), ss = [.d (netD C n L last)] ∧ Wf n L last ∧ Wf n (rampL L last) (List.replicate last.length 0 ++ [1]) ∧ r = netD C n (rampL L last) (List.replicate last.length 0 ++ [1]) ∧ S' = S
def gGr (C : Addr) (ss : List Sl) (S : List Dat) (r : Dat) (S' : List Dat) : Prop := ∃ (n : Nat) (L1 L2 : Lays) (l1 l2 : List Int) (d : Nat), ss = [.d (netD C n L1 l1), .d (netD C n L2 l2)] ∧ Wf n L1 l1 ∧ Wf n L2 l2 ∧ max L1.length L2.length = d ∧ Wf n (rampL (both n L1 L2 d) (subR (lastB true n L1 L2 d l1) (lastB false n L1 L2 d l2))) (lastB false n L1 L2 d l2 ++ [1]) ∧ r = netD C n (rampL (both n L1 L2 d) (subR (lastB true n L1 L2 d l1) (lastB false n L1 L2 d l2))) (lastB false n L1 L2 d l2 ++ [1]) ∧ S' = S
theorem flat_bound {xs : List (List Int)} {b : Nat} (h : ∀ r ∈ xs, r.length ≤ b) : (xs.flatMap fun r => r).length ≤ xs.length * b := by
  rw [List.length_flatMap]
  have := sum_le (xs := xs.map fun r => r.length) (b := b) fun x hx => by
    obtain ⟨r, hr, rfl⟩ := List.mem_map.mp hx
    exact h r hr
  rwa [List.length_map] at this
theorem flat_true (xs : List (List Int)) : ((xs.map rowD).flatMap fun d => (inn d).map fun _ => Dat.bl true) = ((xs.flatMap fun r => r).map fun _ => true).map Dat.bl := by
  induction xs with
  | nil => rfl
  | cons r xs ih =>
    rw [List.map_cons, List.flatMap_cons, ih, List.flatMap_cons, List.map_append, List.map_append]
    congr 1
    show ((r.map Dat.int).map fun _ => Dat.bl true) = _
    rw [List.map_map, List.map_map]; rfl
theorem laysD_len (L : Lays) : (L.map layD).length = L.length := List.length_map ..
theorem sum_lens : ∀ L : Lays, (L.map fun l => ((l.length : Nat) : Int)).sum = ((L.flatten.length : Nat) : Int)
  | [] => rfl
  | l :: L => by rw [List.map_cons, List.sum_cons, sum_lens L, List.flatten_cons, List.length_append, Int.natCast_add]
section
variable {P : Program} {w : World} {K : PySem.W.Frag} {mg : Str → Option Value} {base : Heap}

theorem ok_bounded (T : Txt K mg) : FnOk P w K mg base CX0 7 T.a_bounded T.d_bounded ["inputs", "layers", "last"] (SpD K (gBnd T.C)) := by
  have G_Networku_initu := ok_Networku_initu (P := P) (w := w) (base := base) T
  have b_Networku_initu := T.b_Networku_initu
  have M_Network := T.M_Network
  refine T.F_bounded.ok sc_bounded (spd_len (k := 3) fun ss S r S' hg => ?_) (fun cdv A outer s H vs Q E hr h => ⟨_, (pss_cons (ps_if (pt_cmpR op_gt (pe_callB (call_lenK K) (by rfl) T.n_len (by decide +kernel) (pa_cons (pv 1) pa_nil)) (pe_glob (v := .int 4) rfl T.m_MOST_LAYERS ⟨_, rfl⟩) (nomark _)) (pss_one ps_never) pss_nil) (pss_cons (ps_if (pt_truK K (pe_callB (cr_anyK K) (by rfl) T.n_any (by decide +kernel) (pa_cons (pe_lc (own := [("layer", 3)]) rfl sc_bounded.nd (pi_seqK K (pv 1)) (blkOk_by (own := [("layer", 3)]) (N := ["inputs", "layers", "last", "layer", "rows", "unit", "row", "x"]) (sc := (defScope s_bounded)) (by decide +kernel)) (fun _ _ _ _ _ => (pg_name (i := 3) sc_bounded.nd rfl (by first | exact Or.inl rfl | exact Or.inr rfl))) (fun _ _ _ _ _ => pts_nil) (fun _ _ _ _ _ => (pe_cmpR op_gt (pe_callB (call_lenK K) (by rfl) T.n_len (by decide +kernel) (pa_cons (pv 3) pa_nil)) (pe_glob (v := .int 64) rfl T.m_MOST_IN_LAYER ⟨_, rfl⟩) (nomark _)))) pa_nil))) (pss_one ps_never) pss_nil) (pss_cons (ps_if (pt_cmpR op_gt (pe_callB (cr_sumK K) (by rfl) T.n_sum (by decide +kernel) (pa_cons (pe_lc (own := [("layer", 3)]) rfl sc_bounded.nd (pi_seqK K (pv 1)) (blkOk_by (own := [("layer", 3)]) (N := ["inputs", "layers", "last", "layer", "rows", "unit", "row", "x"]) (sc := (defScope s_bounded)) (by decide +kernel)) (fun _ _ _ _ _ => (pg_name (i := 3) sc_bounded.nd rfl (by first | exact Or.inl rfl | exact Or.inr rfl))) (fun _ _ _ _ _ => pts_nil) (fun _ _ _ _ _ => (pe_callB (call_lenK K) (by rfl) T.n_len (by decide +kernel) (pa_cons (pv 3) pa_nil)))) pa_nil)) (pe_glob (v := .int 128) rfl T.m_MOST_UNITS ⟨_, rfl⟩) (nomark _)) (pss_one ps_never) pss_nil) (pss_cons (ps_set (i := 4) sc_bounded.nd rfl (by first | exact Or.inl rfl | exact Or.inr rfl) (pe_op op_cat (pe_lc2 (own := [("layer", 3), ("unit", 5)]) (vs1 := [5]) rfl sc_bounded.nd (pi_seqK K (pv 1)) (blkOk_by (own := [("layer", 3), ("unit", 5)]) (N := ["inputs", "layers", "last", "layer", "rows", "unit", "row", "x"]) (sc := (defScope s_bounded)) (by decide +kernel)) (by decide) (fun _ _ _ _ _ => (pg_name (i := 3) sc_bounded.nd rfl (by first | exact Or.inl rfl | exact Or.inr rfl))) (fun _ _ _ _ _ => pts_nil) (fun _ _ _ _ _ => (pi_seqK K (pv 3))) (fun _ _ _ _ _ => (pg_name (i := 5) sc_bounded.nd rfl (by first | exact Or.inl rfl | exact Or.inr rfl))) (fun _ _ _ _ _ => pts_nil) (fun _ _ _ _ _ => (pv 5))) (pe_lst (pa_cons (pv 2) pa_nil)))) (pss_cons (ps_if (pt_not (pt_truK K (pe_callB (cr_allK K) (by rfl) T.n_all (by decide +kernel) (pa_cons (pe_lc2 (own := [("row", 6), ("x", 7)]) (vs1 := [7]) rfl sc_bounded.nd (pi_seqK K (pv 4)) (blkOk_by (own := [("row", 6), ("x", 7)]) (N := ["inputs", "layers", "last", "layer", "rows", "unit", "row", "x"]) (sc := (defScope s_bounded)) (by decide +kernel)) (by decide) (fun _ _ _ _ _ => (pg_name (i := 6) sc_bounded.nd rfl (by first | exact Or.inl rfl | exact Or.inr rfl))) (fun _ _ _ _ _ => pts_nil) (fun _ _ _ _ _ => (pi_seqK K (pv 6))) (fun _ _ _ _ _ => (pg_name (i := 7) sc_bounded.nd rfl (by first | exact Or.inl rfl | exact Or.inr rfl))) (fun _ _ _ _ _ => pts_nil) (fun _ _ _ _ _ => (pe_chain op_lt op_lt (pe_un un_neg (pe_glob (v := .int (10 ^ 60)) rfl T.m_BEYOND ⟨_, rfl⟩)) (pv 7) (pe_glob (v := .int (10 ^ 60)) rfl T.m_BEYOND ⟨_, rfl⟩)))) pa_nil)))) (pss_one ps_never) pss_nil) (pss_one (ps_ret (pe_make M_Network G_Networku_initu (hr.mono (by decide)) rfl T.m_Network b_Networku_initu .nil pass0 (pa_cons (pv 0) (pa_cons (pv 1) (pa_cons (pv 2) pa_nil))))))))))), sp_body h fun ss S r S' hg => ?_⟩)
  · obtain ⟨n, L, l, rfl, _⟩ := hg; rfl
  · obtain ⟨n, L, last, rfl, hw, rfl, rfl⟩ := hg
    have hu := hw.u
    have hn8 := hw.n8
    have h4 := hw.l4
    refine sp_ifq (b := false) (et_test (ev_op (ev_cb (ea_cons (ev_var rfl) ea_nil) (cd_len .tup)) ev_int (o_gtF (by rw [List.length_map]; omega)))) (fun h => by cases h) fun _ => sp_nextq ?_
    refine sp_ifq (b := false) (et_bl ((ev_cb (ea_cons (EvN.ev (en_mapA (xs := L) (g := layD) (is := [3]) (fun _ => Dat.bl false) (it_tup (ev_var rfl)) (size_1000 (by omega)) (fun _ _ => trivial) (by decide) (fun l env => env.set 3 (some (.d (layD l)))) fun l hl => ⟨tg_name, ev_op (ev_cb (ea_cons (ev_var rfl) ea_nil) (cd_len .tup)) ev_int (o_gtF ?_)⟩)) ea_nil) (cd_any (bs := L.map fun _ => false) ?_)).to ?_)) (fun h => by cases h) fun _ => sp_nextq ?_
    · rw [List.length_map]
      have := hw.l64 l hl
      omega
    · rw [List.map_map]; exact .lst
    · congr 2; simp
    refine sp_ifq (b := false) (et_test (ev_op (ev_cb (ea_cons (EvN.ev (en_mapA (xs := L) (g := layD) (is := [3]) (fun l => Dat.int (l.length : Nat)) (it_tup (ev_var rfl)) (size_1000 (by omega)) (fun _ _ => trivial) (by decide) (fun l env => env.set 3 (some (.d (layD l)))) fun l hl => ⟨tg_name, (ev_cb (ea_cons (ev_var rfl) ea_nil) (cd_len .tup)).to (by rw [List.length_map])⟩)) ea_nil) (cd_sum (ns := L.map fun l => ((l.length : Nat) : Int)) ?_)) ev_int (o_gtF ?_))) (fun h => by cases h) fun _ => sp_nextq ?_
    · rw [List.map_map]; exact .lst
    · rw [sum_lens]; omega
    refine sp_set (x := .d (.lst ((L.flatten ++ [last]).map rowD))) (S1 := S') ((EvN.ev (en_cat (ds := L.flatten.map rowD) (es := [rowD last]) (EvN.ev (EvN.toD (en_flat (G := G0) (G1 := G0) (ds := L.map layD) (is := [3]) (is1 := [5]) (it_tup (ev_var rfl)) inn (fun _ e => e) ?_ (fun _ _ => trivial) (fun _ _ => trivial) (by decide) (by decide) (by decide) (fun d env => env.set 3 (some (.d d))) (fun d e env => env.set 5 (some (.d e))) fun i d hd => ⟨tg_name, ?_, fun j e he => ⟨tg_name, ev_var rfl⟩⟩) (flat_lays L))) (EvN.ev (en_lst (ea_cons (ev_var rfl) ea_nil) (by show 1 ≤ sizeLine; decide))) .lst .lst ?_)).to (by rw [List.map_append]; rfl)) ?_
    · rw [flat_lays, List.length_map]
      exact size_1000 (by omega)
    · rw [List.getElem?_map, Option.map_eq_some_iff] at hd
      obtain ⟨l, _, rfl⟩ := hd
      exact it_tup (ev_var rfl)
    · rw [List.length_map]
      exact size_1000 (by show L.flatten.length + 1 ≤ 1000; omega)
    have hrows : ∀ r ∈ L.flatten ++ [last], r.length ≤ 136 ∧ ∀ x ∈ r, Sh x := fun r hr => by
      rcases List.mem_append.mp hr with hr | hr
      · have := WL_all L n hw.wl r hr
        exact ⟨by omega, this.2⟩
      · rw [List.mem_singleton.mp hr]
        exact ⟨by rw [hw.la.1]; omega, hw.la.2⟩
    have hcnt := flat_bound fun r hr => (hrows r hr).1
    rw [List.length_append, List.length_singleton] at hcnt
    refine sp_ifq (b := false) (et_not (a := true) (et_bl ((ev_cb (ea_cons (EvN.ev (EvN.toD (en_flat (G := G0) (G1 := G0) (ds := (L.flatten ++ [last]).map rowD) (is := [6]) (is1 := [7]) (it_lst (ev_var rfl)) inn (fun _ _ => Dat.bl true) ?_ (fun _ _ => trivial) (fun _ _ => trivial) (by decide) (by decide) (by decide) (fun d env => env.set 6 (some (.d d))) (fun d e env => env.set 7 (some (.d e))) fun i d hd => ⟨tg_name, ?_, fun j e he => ⟨tg_name, ?_⟩⟩) (flat_true _))) ea_nil) (cd_all .lst)).to ?_))) (fun h => by cases h) fun _ => sp_nextq ?_
    · rw [flat_true, List.length_map, List.length_map]
      have : (L.flatten.length + 1) * 136 ≤ 129 * 136 := Nat.mul_le_mul_right _ (by omega)
      exact Nat.le_trans (Nat.le_trans hcnt this) (by decide)
    · rw [List.getElem?_map, Option.map_eq_some_iff] at hd
      obtain ⟨l, _, rfl⟩ := hd
      exact it_tup (ev_var rfl)
    · rw [List.getElem?_map, Option.map_eq_some_iff] at hd
      obtain ⟨r, hr, rfl⟩ := hd
      have he' : (r.map Dat.int)[j]? = some e := he
      rw [List.getElem?_map, Option.map_eq_some_iff] at he'
      obtain ⟨x, hx, rfl⟩ := he'
      have hs := (hrows r (List.mem_of_getElem? hr)).2 x (List.mem_of_getElem? hx)
      exact ev_chain (a := true) (b := true) (ev_un ev_int o_neg) (ev_var rfl) (o_ltT hs.1) (fun _ => ev_int) fun _ => o_ltT hs.2
    · congr 2; simp
    exact sp_ret (ev_make (S2 := S') (ea_cons (ev_var rfl) (ea_cons (ev_var rfl) (ea_cons (ev_var rfl) ea_nil))) ⟨_, n, L, last, rfl, (by simp : (S' ++ [Dat.ins T.C []])[S'.length]? = some (Dat.ins T.C [])), hw, rfl, (by simp [List.set_append] : S' ++ [netD T.C n L last] = (S' ++ [Dat.ins T.C []]).set S'.length (netD T.C n L last))⟩ rfl) ⟨rfl, List.take_length⟩
theorem ok_added (T : Txt K mg) : FnOk P w K mg base CX0 8 T.a_added T.d_added ["one", "other"] (SpD K (gAdd T.C)) := by
  have G_need_networks := ok_need_networks (P := P) (w := w) (base := base) T
  have b_need_networks := T.b_need_networks
  have G_side_by_side := ok_side_by_side (P := P) (w := w) (base := base) T
  have b_side_by_side := T.b_side_by_side
  have G_bounded := ok_bounded (P := P) (w := w) (base := base) T
  have b_bounded := T.b_bounded
  have G_sum_of := ok_sum_of (P := P) (w := w) (base := base) T
  have b_sum_of := T.b_sum_of
  refine T.F_added.ok sc_added (spd_len (k := 2) fun ss S r S' hg => ?_) (fun cdv A outer s H vs Q E hr h => ⟨_, (pss_cons (ps_expr (pe_call G_need_networks (hr.mono (by decide)) rfl T.m_need_networks T.k_need_networks b_need_networks .nil pass0 (pa_cons (pv 0) (pa_cons (pv 1) pa_nil)))) (pss_cons (ps_asg (pe_call G_side_by_side (hr.mono (by decide)) rfl T.m_side_by_side T.k_side_by_side b_side_by_side .nil pass0 (pa_cons (pv 0) (pa_cons (pv 1) pa_nil))) (pg_tup rfl (pgs_cons (pg_name (i := 2) sc_added.nd rfl (by first | exact Or.inl rfl | exact Or.inr rfl)) (pgs_cons (pg_name (i := 3) sc_added.nd rfl (by first | exact Or.inl rfl | exact Or.inr rfl)) (pgs_cons (pg_name (i := 4) sc_added.nd rfl (by first | exact Or.inl rfl | exact Or.inr rfl)) pgs_nil))))) (pss_one (ps_ret (pe_call G_bounded (hr.mono (by decide)) rfl T.m_bounded T.k_bounded b_bounded .nil pass0 (pa_cons (pe_fld (pv 0) rfl) (pa_cons (pv 2) (pa_cons (pe_call G_sum_of (hr.mono (by decide)) rfl T.m_sum_of T.k_sum_of b_sum_of .nil pass0 (pa_cons (pv 3) (pa_cons (pv 4) pa_nil))) pa_nil)))))))), sp_body h fun ss S r S' hg => ?_⟩)
  · obtain ⟨n, L1, L2, l1, l2, d, rfl, _⟩ := hg; rfl
  · obtain ⟨n, L1, L2, l1, l2, d, rfl, hw1, hw2, hd, hw, rfl, rfl⟩ := hg
    refine sp_drop (ev_call (ea_cons (ev_var rfl) (ea_cons (ev_var rfl) ea_nil)) ⟨n, L1, L2, l1, l2, rfl, rfl, rfl⟩) ?_
    refine sp_asg (ev_call (ea_cons (ev_var rfl) (ea_cons (ev_var rfl) ea_nil)) ⟨n, L1, L2, l1, l2, d, rfl, hw1, hw2, hd, rfl, rfl⟩) tg_three ?_
    refine sp_ret (ev_call (ea_cons (ev_fld (ev_var rfl) T.cl T.na_inputs rfl) (ea_cons (ev_var rfl) (ea_cons (ev_call (ea_cons (ev_var rfl) (ea_cons (ev_var rfl) ea_nil)) ⟨lastB true n L1 L2 d l1, lastB false n L1 L2 d l2, rfl, ?_, rfl, rfl⟩) ea_nil))) ⟨n, both n L1 L2 d, addR (lastB true n L1 L2 d l1) (lastB false n L1 L2 d l2), rfl, hw, rfl, rfl⟩) ⟨rfl, List.take_length⟩
    have := wid_le n L1 L2 d
    have := hw1.u
    have := hw2.u
    have := hw1.n8
    unfold lastB
    rw [fill_len, mask_len]; omega
theorem ok_multiplied (T : Txt K mg) : FnOk P w K mg base CX0 8 T.a_multiplied T.d_multiplied ["network", "number"] (SpD K (gMul T.C)) := by
  have G_need_network := ok_need_network (P := P) (w := w) (base := base) T
  have b_need_network := T.b_need_network
  have G_need_number := ok_need_number (P := P) (w := w) (base := base) T
  have b_need_number := T.b_need_number
  have G_bounded := ok_bounded (P := P) (w := w) (base := base) T
  have b_bounded := T.b_bounded
  have G_times := ok_times (P := P) (w := w) (base := base) T
  have b_times := T.b_times
  refine T.F_multiplied.ok sc_multiplied (spd_len (k := 2) fun ss S r S' hg => ?_) (fun cdv A outer s H vs Q E hr h => ⟨_, (pss_cons (ps_expr (pe_call G_need_network (hr.mono (by decide)) rfl T.m_need_network T.k_need_network b_need_network .nil pass0 (pa_cons (pv 0) pa_nil))) (pss_cons (ps_expr (pe_call G_need_number (hr.mono (by decide)) rfl T.m_need_number T.k_need_number b_need_number .nil pass0 (pa_cons (pv 1) pa_nil))) (pss_one (ps_ret (pe_call G_bounded (hr.mono (by decide)) rfl T.m_bounded T.k_bounded b_bounded .nil pass0 (pa_cons (pe_fld (pv 0) rfl) (pa_cons (pe_fld (pv 0) rfl) (pa_cons (pe_call G_times (hr.mono (by decide)) rfl T.m_times T.k_times b_times .nil pass0 (pa_cons (pe_fld (pv 0) rfl) (pa_cons (pv 1) pa_nil))) pa_nil)))))))), sp_body h fun ss S r S' hg => ?_⟩)
  · obtain ⟨n, L, l, c, rfl, _⟩ := hg; rfl
  · obtain ⟨n, L, last, c, rfl, hw, hc, hw', rfl, rfl⟩ := hg
    have := hw.u
    have := hw.n8
    refine sp_drop (ev_call (ea_cons (ev_var rfl) ea_nil) ⟨n, L, last, rfl, rfl, rfl⟩) ?_
    refine sp_drop (ev_call (ea_cons (ev_var rfl) ea_nil) ⟨c, rfl, hc, rfl, rfl⟩) ?_
    exact sp_ret (ev_call (ea_cons (ev_fld (ev_var rfl) T.cl T.na_inputs rfl) (ea_cons (ev_fld (ev_var rfl) T.cl T.na_layers rfl) (ea_cons (ev_call (ea_cons (ev_fld (ev_var rfl) T.cl T.na_last rfl) (ea_cons (ev_var rfl) ea_nil)) ⟨last, c, rfl, by rw [hw.la.1]; omega, fun x hx => cmw hc (hw.la.2 x hx).bits (by decide), rfl, rfl⟩) ea_nil))) ⟨n, L, _, rfl, hw', rfl, rfl⟩) ⟨rfl, List.take_length⟩
theorem ok_ramped (T : Txt K mg) : FnOk P w K mg base CX0 8 T.a_ramped T.d_ramped ["network"] (SpD K (gRamp T.C)) := by
  have G_need_network := ok_need_network (P := P) (w := w) (base := base) T
  have b_need_network := T.b_need_network
  have G_bounded := ok_bounded (P := P) (w := w) (base := base) T
  have b_bounded := T.b_bounded
  refine T.F_ramped.ok sc_ramped (spd_len (k := 1) fun ss S r S' hg => ?_) (fun cdv A outer s H vs Q E hr h => ⟨_, (pss_cons (ps_expr (pe_call G_need_network (hr.mono (by decide)) rfl T.m_need_network T.k_need_network b_need_network .nil pass0 (pa_cons (pv 0) pa_nil))) (pss_cons (ps_set (i := 1) sc_ramped.nd rfl (by first | exact Or.inl rfl | exact Or.inr rfl) (pe_op op_catA (pe_op RwT.op_repA (pe_tup (pa_cons pe_int pa_nil)) (pe_callB (call_lenK K) (by rfl) T.n_len (by decide +kernel) (pa_cons (pe_fld (pv 0) rfl) pa_nil))) (pe_tup (pa_cons pe_int pa_nil)))) (pss_one (ps_ret (pe_call G_bounded (hr.mono (by decide)) rfl T.m_bounded T.k_bounded b_bounded .nil pass0 (pa_cons (pe_fld (pv 0) rfl) (pa_cons (pe_tup (pa_star (pe_fld (pv 0) rfl) (pa_cons (pe_tup (pa_cons (pe_fld (pv 0) rfl) pa_nil)) pa_nil))) (pa_cons (pv 1) pa_nil)))))))), sp_body h fun ss S r S' hg => ?_⟩)
  · obtain ⟨n, L, l, rfl, _⟩ := hg; rfl
  · obtain ⟨n, L, last, rfl, hw, hw', rfl, rfl⟩ := hg
    have h1 := hw.u
    have h2 := hw.n8
    have h3 := hw.n1
    have h4 := hw.l4
    have h5 := hw.la.1
    refine sp_drop (ev_call (ea_cons (ev_var rfl) ea_nil) ⟨n, L, last, rfl, rfl, rfl⟩) ?_
    refine sp_set (x := .d (rowD (List.replicate last.length 0 ++ [1]))) (S1 := S') ((ev_op ((ev_op (ev_tup (ds := [Dat.int 0]) (ea_cons ev_int ea_nil) (by show 1 ≤ sizeLine; decide)) ((ev_cb (ea_cons (ev_fld (ev_var rfl) T.cl T.na_last rfl) ea_nil) (cd_len .tup)).to (r' := .d (.int (last.length : Nat))) (by rw [List.length_map])) (o_repA (by simp) (by omega) (by omega) (by show 1 ≤ 1000; decide))).to (r' := .d (.tup ((List.replicate last.length (0 : Int)).map Dat.int))) (by rw [Int.toNat_natCast, rep_flatP, ← List.map_replicate])) (ev_tup (ds := [Dat.int 1]) (ea_cons ev_int ea_nil) (by show 1 ≤ sizeLine; decide)) (op2_catT ?_)).to ?_) ?_
    · rw [List.length_map, List.length_replicate]
      exact size_1000 (by show last.length + 1 ≤ 1000; omega)
    · unfold rowD; rw [List.map_append]; rfl
    have hst : EvA K (tStar K (tFld K (tVar 0) "layers") (tCons (tTup (tCons (tFld K (tVar 0) "last") tNil)) tNil)) [some (.d (netD T.C n L last)), some (.d (rowD (List.replicate last.length 0 ++ [1])))] S' (((L.map layD) ++ [layD [last]]).map Sl.d) S' := by
      rw [List.map_append]
      exact ea_star (ev_fld (ev_var rfl) T.cl T.na_layers rfl) (ea_cons (ev_tup (ds := [rowD last]) (ea_cons (ev_fld (ev_var rfl) T.cl T.na_last rfl) ea_nil) (by show 1 ≤ sizeLine; decide)) ea_nil)
    refine sp_ret (ev_call (ea_cons (ev_fld (ev_var rfl) T.cl T.na_inputs rfl) (ea_cons ((ev_tup hst ?_).to (r' := .d (laysD (rampL L last))) ?_) (ea_cons (ev_var rfl) ea_nil))) ⟨n, rampL L last, _, rfl, hw', rfl, rfl⟩) ⟨rfl, List.take_length⟩
    · rw [List.length_append, List.length_map]
      exact size_1000 (by show L.length + 1 ≤ 1000; omega)
    · unfold rampL laysD; rw [List.map_append]; rfl
theorem ok_greater (T : Txt K mg) : FnOk P w K mg base CX0 8 T.a_greater T.d_greater ["one", "other"] (SpD K (gGr T.C)) := by
  have G_need_networks := ok_need_networks (P := P) (w := w) (base := base) T
  have b_need_networks := T.b_need_networks
  have G_side_by_side := ok_side_by_side (P := P) (w := w) (base := base) T
  have b_side_by_side := T.b_side_by_side
  have G_bounded := ok_bounded (P := P) (w := w) (base := base) T
  have b_bounded := T.b_bounded
  have G_difference_of := ok_difference_of (P := P) (w := w) (base := base) T
  have b_difference_of := T.b_difference_of
  refine T.F_greater.ok sc_greater (spd_len (k := 2) fun ss S r S' hg => ?_) (fun cdv A outer s H vs Q E hr h => ⟨_, (pss_cons (ps_expr (pe_call G_need_networks (hr.mono (by decide)) rfl T.m_need_networks T.k_need_networks b_need_networks .nil pass0 (pa_cons (pv 0) (pa_cons (pv 1) pa_nil)))) (pss_cons (ps_asg (pe_call G_side_by_side (hr.mono (by decide)) rfl T.m_side_by_side T.k_side_by_side b_side_by_side .nil pass0 (pa_cons (pv 0) (pa_cons (pv 1) pa_nil))) (pg_tup rfl (pgs_cons (pg_name (i := 2) sc_greater.nd rfl (by first | exact Or.inl rfl | exact Or.inr rfl)) (pgs_cons (pg_name (i := 3) sc_greater.nd rfl (by first | exact Or.inl rfl | exact Or.inr rfl)) (pgs_cons (pg_name (i := 4) sc_greater.nd rfl (by first | exact Or.inl rfl | exact Or.inr rfl)) pgs_nil))))) (pss_one (ps_ret (pe_call G_bounded (hr.mono (by decide)) rfl T.m_bounded T.k_bounded b_bounded .nil pass0 (pa_cons (pe_fld (pv 0) rfl) (pa_cons (pe_tup (pa_star (pv 2) (pa_cons (pe_tup (pa_cons (pe_call G_difference_of (hr.mono (by decide)) rfl T.m_difference_of T.k_difference_of b_difference_of .nil pass0 (pa_cons (pv 3) (pa_cons (pv 4) pa_nil))) pa_nil)) pa_nil))) (pa_cons (pe_tup (pa_star (pv 4) (pa_cons pe_int pa_nil))) pa_nil)))))))), sp_body h fun ss S r S' hg => ?_⟩)
  · obtain ⟨n, L1, L2, l1, l2, d, rfl, _⟩ := hg; rfl
  · obtain ⟨n, L1, L2, l1, l2, d, rfl, hw1, hw2, hd, hw, rfl, rfl⟩ := hg
    have hwi := wid_le n L1 L2 d
    have h1 := hw1.u
    have h2 := hw2.u
    have h3 := hw1.n8
    have h4 := hw1.l4
    have h5 := hw2.l4
    have hl : ∀ s l, (lastB s n L1 L2 d l).length ≤ 300 := fun s l => by unfold lastB; rw [fill_len, mask_len]; omega
    refine sp_drop (ev_call (ea_cons (ev_var rfl) (ea_cons (ev_var rfl) ea_nil)) ⟨n, L1, L2, l1, l2, rfl, rfl, rfl⟩) ?_
    refine sp_asg (ev_call (ea_cons (ev_var rfl) (ea_cons (ev_var rfl) ea_nil)) ⟨n, L1, L2, l1, l2, d, rfl, hw1, hw2, hd, rfl, rfl⟩) tg_three ?_
    have hb := both_len n L1 L2 d
    have hl1 := hl true l1
    have hl2 := hl false l2
    generalize both n L1 L2 d = X at hb hw ⊢
    generalize lastB true n L1 L2 d l1 = A at hl1 hw ⊢
    generalize lastB false n L1 L2 d l2 = B at hl2 hw ⊢
    have hst : EvA K (tStar K (tVar 2) (tCons (tTup (tCons (tCall (SpD K gDiff) [] E0 (tCons (tVar 3) (tCons (tVar 4) tNil))) tNil)) tNil)) [some (.d (netD T.C n L1 l1)), some (.d (netD T.C n L2 l2)), some (.d (laysD X)), some (.d (rowD A)), some (.d (rowD B))] S' (((X.map layD) ++ [layD [subR A B]]).map Sl.d) S' := by
      rw [List.map_append]
      exact ea_star (ev_var rfl) (ea_cons (ev_tup (ds := [rowD (subR A B)]) (ea_cons (ev_call (ea_cons (ev_var rfl) (ea_cons (ev_var rfl) ea_nil)) ⟨A, B, rfl, by omega, rfl, rfl⟩) ea_nil) (by show 1 ≤ sizeLine; decide)) ea_nil)
    have hs2 : EvA K (tStar K (tVar 4) (tCons (tC (.int 1)) tNil)) [some (.d (netD T.C n L1 l1)), some (.d (netD T.C n L2 l2)), some (.d (laysD X)), some (.d (rowD A)), some (.d (rowD B))] S' (((B.map Dat.int) ++ [Dat.int 1]).map Sl.d) S' := by
      rw [List.map_append]
      exact ea_star (ev_var rfl) (ea_cons ev_int ea_nil)
    refine sp_ret (ev_call (ea_cons (ev_fld (ev_var rfl) T.cl T.na_inputs rfl) (ea_cons ((ev_tup hst ?_).to (r' := .d (laysD (rampL X (subR A B)))) ?_) (ea_cons ((ev_tup hs2 ?_).to (r' := .d (rowD (B ++ [1]))) ?_) ea_nil))) ⟨n, rampL X (subR A B), _, rfl, hw, rfl, rfl⟩) ⟨rfl, List.take_length⟩
    · rw [List.length_append, List.length_map]
      exact size_1000 (by show X.length + 1 ≤ 1000; omega)
    · unfold rampL laysD; rw [List.map_append]; rfl
    · rw [List.length_append, List.length_map]
      exact size_1000 (by show B.length + 1 ≤ 1000; omega)
    · unfold rowD; rw [List.map_append]; rfl
end
end N20

set_option Elab.async false
set_option linter.all false
set_option maxRecDepth 100000
set_option maxHeartbeats 4000000
namespace N20
open PySem PySem.Spec PyProof.Rows L2 RW

def pairD (p : Nat × Nat) : Dat := .lst [.int (p.1 : Nat), .int (p.2 : Nat)]
def sideI (s : Bool) : Int := if s = true then 0 else 1
def siz (p : Nat × Nat) (j : Nat) : Nat := if j = 0 then p.1 else p.2
def blk (s : Bool) (p : Nat × Nat) (j : Nat) : List Bool := List.replicate (siz p j) (decide ((j : Int) = sideI s))
def psg (s : Bool) (p : Nat × Nat) (j : Nat) : List Bool := (List.range j).flatMap (blk s p)
theorem psg_succ (s : Bool) (p : Nat × Nat) (j : Nat) : psg s p (j + 1) = psg s p j ++ blk s p j := by
  unfold psg; rw [List.range_succ, List.flatMap_append]; simp
theorem psg_two (s : Bool) (p : Nat × Nat) : psg s p 2 = seg s p := by
  rw [psg_succ, psg_succ]
  cases s <;> rfl
theorem psg_len (s : Bool) (p : Nat × Nat) : ∀ j, j ≤ 2 → (psg s p j).length ≤ p.1 + p.2
  | 0, _ => Nat.zero_le _
  | 1, _ => by rw [psg_succ, List.length_append]; unfold blk siz psg; simp
  | 2, _ => by rw [psg_two, seg_len]; exact Nat.le_refl _
def gSpread (ss : List Sl) (S : List Dat) (r : Dat) (S' : List Dat) : Prop := ∃ (u : List Int) (n k : Nat) (z : List (Nat × Nat)) (s : Bool), ss = [.d (rowD u), .d (.int (n : Nat)), .c k, .d (.int (sideI s))] ∧ S[k]? = some (.lst (z.map pairD)) ∧ n ≤ u.length ∧ u.length ≤ 1000 ∧ wid n z ≤ 1000 ∧ z.length ≤ 1000 ∧ r = rowD (fill (mask s n z) u) ∧ S' = S
theorem wid_take (n : Nat) (z : List (Nat × Nat)) (i : Nat) : wid n (z.take i) ≤ wid n z := by
  unfold wid
  conv => rhs; rw [← List.take_append_drop i z, List.map_append, List.sum_append]
  omega
theorem cut_mid {α : Type} (f : α → Dat) (xs : List α) (c k : Nat) (b : Int) (hb : b = (c : Int) + (k : Nat)) : RW.cutD (xs.map f) (some (c : Int)) (some b) = ((xs.drop c).take k).map f := by
  unfold RW.cutD
  rw [show b = ((c + k : Nat) : Int) by omega, HT.sIx_nat, HT.sIx_nat, List.length_map, List.map_take, List.map_drop]
  by_cases h : c ≤ xs.length
  · rw [Nat.min_eq_left h]
    by_cases h2 : c + k ≤ xs.length
    · rw [Nat.min_eq_left h2, Nat.add_sub_cancel_left]
    · rw [Nat.min_eq_right (by omega), List.take_of_length_le (by rw [List.length_drop, List.length_map]; omega), List.take_of_length_le (by rw [List.length_drop, List.length_map]; omega)]
  · rw [Nat.min_eq_right (by omega : xs.length ≤ c), List.drop_eq_nil_of_le (by rw [List.length_map]; omega), List.drop_eq_nil_of_le (by rw [List.length_map]; omega), List.take_nil, List.take_nil]
theorem get_pair (p : Nat × Nat) {j : Nat} (h : j < 2) : atI [Dat.int (p.1 : Nat), Dat.int (p.2 : Nat)] (j : Int) = some (.int (siz p j : Nat)) := by
  obtain rfl | rfl : j = 0 ∨ j = 1 := by omega
  · rfl
  · rfl
section
variable {P : Program} {w : World} {K : PySem.W.Frag} {mg : Str → Option Value} {base : Heap}

theorem ok__law_spread (T : Txt K mg) : FnOk P w K mg base CX0 1 T.a__law_spread T.d__law_spread ["row", "inputs", "sizes", "side"] (SpD K (gSpread)) := by
  refine T.F__law_spread.ok sc__law_spread (spd_len (k := 4) fun ss S r S' hg => ?_) (fun cdv A outer s H vs Q E hr h => ⟨_, (pss_cons (ps_par (i := 4) (j := 5) rfl sc__law_spread.nd rfl rfl (by decide) rfl rfl (pa_cons (pe_callTy (call_lstD rfl) (by rfl) T.n_list (by decide +kernel) (pa_cons (pe_slice sl_tupA (pv 0) po_none (po_some (pv 1))) pa_nil)) (pa_cons (pv 1) pa_nil)) (by rfl)) (pss_cons (ps_for PassesOwn.never rfl (pi_seqK K (pv 2)) (pg_name (i := 6) sc__law_spread.nd rfl (by first | exact Or.inl rfl | exact Or.inr rfl)) (pss_one (ps_for PassesOwn.never rfl (pi_seqK K (pe_tup (pa_cons pe_int (pa_cons pe_int pa_nil)))) (pg_name (i := 7) sc__law_spread.nd rfl (by first | exact Or.inl rfl | exact Or.inr rfl)) (pss_one (ps_if (pt_cmpR op_eq (pv 7) (pv 3) (nomark _)) (pss_cons (ps_set (i := 8) sc__law_spread.nd rfl (by first | exact Or.inl rfl | exact Or.inr rfl) (pe_callTy (call_lstD rfl) (by rfl) T.n_list (by decide +kernel) (pa_cons (pe_slice sl_tupA (pv 0) (po_some (pv 5)) (po_some (pe_op op_add (pv 5) (pe_ix (ix_seqK K) (pv 6) (pv 7) (fun _ _ => rfl))))) pa_nil))) (pss_cons (ps_set (i := 4) sc__law_spread.nd rfl (by first | exact Or.inl rfl | exact Or.inr rfl) (pe_op op_cat (pe_op op_cat (pv 4) (pv 8)) (pe_op op_rep (pe_lst (pa_cons pe_int pa_nil)) (pe_op op_sub (pe_ix (ix_seqK K) (pv 6) (pv 7) (fun _ _ => rfl)) (pe_callB (call_lenK K) (by rfl) T.n_len (by decide +kernel) (pa_cons (pv 8) pa_nil)))))) (pss_one (ps_set (i := 5) sc__law_spread.nd rfl (by first | exact Or.inl rfl | exact Or.inr rfl) (pe_op op_add (pv 5) (pe_ix (ix_seqK K) (pv 6) (pv 7) (fun _ _ => rfl))))))) (pss_one (ps_set (i := 4) sc__law_spread.nd rfl (by first | exact Or.inl rfl | exact Or.inr rfl) (pe_op op_cat (pv 4) (pe_op op_rep (pe_lst (pa_cons pe_int pa_nil)) (pe_ix (ix_seqK K) (pv 6) (pv 7) (fun _ _ => rfl))))))))))) (pss_one (ps_ret (pe_callTy (call_tupK K rfl) (by rfl) T.n_tuple (by decide +kernel) (pa_cons (pv 4) pa_nil)))))), sp_body h fun ss S r S' hg => ?_⟩)
  · obtain ⟨u, n, k, z, s, rfl, _⟩ := hg; rfl
  · obtain ⟨u, n, k, z, s, rfl, hk, hnu, hu, hw, hz, rfl, rfl⟩ := hg
    have hkl : k < S'.length := (List.getElem?_eq_some_iff.mp hk).1
    refine sp_par (x := .d (.lst ((u.take n).map Dat.int))) (y := .d (.int n)) (S1 := S') (ea_cons (EvN.ev (en_list (ea_cons ((ev_slT (ev_var rfl) eo_none (eo_some (ev_var rfl))).to (by rw [cut_take])) ea_nil) .tup)) (ea_cons (ev_var rfl) ea_nil)) ?_
    refine sp_seq (P' := { nx := fun env' S2 => S2 = S' ∧ ∃ o0 o1 o2 o3, env' = [some (.d (rowD u)), some (.d (.int (n : Nat))), some (.c k), some (.d (.int (sideI s))), some (.d (.lst ((fill (mask s n z) u).map Dat.int))), o0, o1, o2, o3] })
      (sp_forA (xs := z) (g := pairD) (it_cell (ev_var rfl) hk) (fun i env' S2 => S2 = S' ∧ ∃ o1 o2 o3, env' = [some (.d (rowD u)), some (.d (.int (n : Nat))), some (.c k), some (.d (.int (sideI s))), some (.d (.lst ((fill (mask s n (z.take i)) u).map Dat.int))), some (.d (.int (cntT (mask s n (z.take i)) : Nat))), o1, o2, o3]) ⟨rfl, none, none, none, ?_⟩ ?_ ?_ ?_) ?_
    · have e0 : mask s n (z.take 0) = List.replicate n true := by unfold mask; simp
      have e1 : fill (List.replicate n true) u = u.take n := by rw [fill_t, show n - u.length = 0 by omega]; simp
      rw [e0, e1, cntT_t]; rfl
    · rintro i env' S2 as as2 ⟨rfl, o1, o2, o3, rfl⟩ _ _ ht
      refine ⟨?_, hk⟩
      rw [← List.getElem?_take_of_lt hkl, ht, List.getElem?_take_of_lt hkl]
    · rintro i p env' S2 hp ⟨rfl, o1, o2, o3, rfl⟩
      have hwi := wid_take n z (i + 1)
      rw [take_snoc hp, mask_snoc, ← psg_two]
      rw [take_snoc hp] at hwi
      have hM : (mask s n (z.take i)).length + (p.1 + p.2) ≤ 1000 := by
        have : wid n (z.take i ++ [p]) = wid n (z.take i) + (p.1 + p.2) := by unfold wid; simp; omega
        rw [mask_len]; omega
      generalize mask s n (z.take i) = M at hM ⊢
      refine ⟨[6], fun env => env.set 6 (some (.d (pairD p))), tg_name, ?_⟩
      refine sp_forA (xs := [0, 1]) (g := Dat.int) (it_tup (ev_tup (ds := [Dat.int 0, Dat.int 1]) (ea_cons ev_int (ea_cons ev_int ea_nil)) (by show 2 ≤ sizeLine; decide))) (fun j env' S3 => S3 = S2 ∧ ∃ o2 o3, env' = [some (.d (rowD u)), some (.d (.int (n : Nat))), some (.c k), some (.d (.int (sideI s))), some (.d (.lst ((fill (M ++ psg s p j) u).map Dat.int))), some (.d (.int (cntT (M ++ psg s p j) : Nat))), some (.d (pairD p)), o2, o3]) ⟨rfl, o2, o3, ?_⟩ (fun _ _ _ _ _ _ _ _ _ => trivial) ?_ ?_
      · have e : M ++ psg s p 0 = M := by unfold psg; simp
        rw [e]; rfl
      · rintro j a env' S3 ha ⟨rfl, o2, o3, rfl⟩
        have hja : j < 2 ∧ a = (j : Int) := by
          match j, ha with
          | 0, h => cases h; exact ⟨by decide, rfl⟩
          | 1, h => cases h; exact ⟨by decide, rfl⟩
        obtain ⟨hj, rfl⟩ := hja
        have hpl := psg_len s p (j + 1) (by omega)
        rw [psg_succ, ← List.append_assoc]
        rw [psg_succ, List.length_append] at hpl
        have hbl : (blk s p j).length = siz p j := by unfold blk; simp
        have hN : (M ++ psg s p j).length + siz p j ≤ 1000 := by rw [List.length_append]; omega
        have hfl := fill_len (M ++ psg s p j) u
        have hfa := fill_app (M ++ psg s p j) (blk s p j) u
        have hca := cntT_app (M ++ psg s p j) (blk s p j)
        have hix := get_pair p hj
        unfold blk at hfa hca ⊢
        generalize M ++ psg s p j = N at hN hfl hfa hca ⊢
        generalize siz p j = q at hN hfa hca hix ⊢
        refine ⟨[7], fun env => env.set 7 (some (.d (.int (j : Nat)))), tg_name, ?_⟩
        refine sp_if (b := decide ((j : Int) = sideI s)) (S1 := S3) (et_test (ev_op (ev_var rfl) (ev_var rfl) op2_eq_int)) (fun h => ?_) fun h => ?_
        · rw [h, fill_t] at hfa
          rw [h, cntT_t] at hca
          rw [h, hfa, hca]
          generalize cntT N = c at hfa hca ⊢
          refine sp_set (x := .d (.lst (((u.drop c).take q).map Dat.int))) (S1 := S3) (EvN.ev (en_list (ea_cons ((ev_slT (ev_var rfl) (eo_some (ev_var rfl)) (eo_some (ev_op (ev_var rfl) (ev_op (ev_var rfl) (ev_var rfl) (op2_ix .lst hix)) o_add))).to (by rw [cut_mid _ _ _ _ _ rfl])) ea_nil) .tup)) ?_
          have hdl : (u.drop c).length ≤ 1000 := by rw [List.length_drop]; omega
          have hR := en_rep (k := (q : Int) - (((u.drop c).take q).map Dat.int).length) (K := K) (env := [some (.d (rowD u)), some (.d (.int (n : Nat))), some (.c k), some (.d (.int (sideI s))), some (.d (.lst ((fill N u).map Dat.int))), some (.d (.int (c : Nat))), some (.d (pairD p)), some (.d (.int (j : Nat))), some (.d (.lst (((u.drop c).take q).map Dat.int)))]) (S := S3) (ds := [Dat.int 0]) (en_lst (ea_cons ev_int ea_nil : EvA K _ _ S3 ([Dat.int 0].map Sl.d) S3) (by show 1 ≤ sizeLine; decide)).ev (ev_op (ev_op (ev_var (i := 6) rfl) (ev_var (i := 7) rfl) (op2_ix .lst hix)) (ev_cb (ea_cons (ev_var (i := 8) rfl) ea_nil) (cd_len .lst)) o_sub) .lst ⟨by rw [List.length_map, List.length_take]; omega, by rw [List.length_map, List.length_take]; omega⟩ (by rw [List.length_map, List.length_take]; exact size_1000 (by simp; omega))
          rw [rep_flatP] at hR
          have hkn : ((q : Int) - (((u.drop c).take q).map Dat.int).length).toNat = q - (u.drop c).length := by rw [List.length_map, List.length_take]; omega
          rw [hkn] at hR
          refine sp_set (x := .d (.lst ((fill N u ++ ((u.drop c).take q ++ List.replicate (q - (u.drop c).length) 0)).map Dat.int))) (S1 := S3) ((EvN.ev (en_cat (EvN.ev (en_cat (ev_var rfl) (ev_var rfl) .lst .lst ?_)) hR.ev .lst .lst ?_)).to ?_) ?_
          · rw [List.length_map, List.length_map, List.length_take, hfl]; exact size_1000 (by omega)
          · rw [List.length_append, List.length_map, List.length_map, List.length_take, hfl, List.length_replicate]; exact size_1000 (by omega)
          · rw [List.map_append, List.map_append, List.map_replicate, List.append_assoc]
          · exact sp_set1 (x := .d (.int ((c + q : Nat) : Int))) (S1 := S3) ((ev_op (ev_var rfl) (ev_op (ev_var rfl) (ev_var rfl) (op2_ix .lst hix)) o_add).to (by rw [Int.natCast_add])) ⟨rfl, _, _, rfl⟩
        · rw [h, fill_f] at hfa
          rw [h, cntT_f, Nat.add_zero] at hca
          rw [h, hfa, hca]
          have hR := en_rep (k := (q : Int)) (K := K) (env := [some (.d (rowD u)), some (.d (.int (n : Nat))), some (.c k), some (.d (.int (sideI s))), some (.d (.lst ((fill N u).map Dat.int))), some (.d (.int (cntT N : Nat))), some (.d (pairD p)), some (.d (.int (j : Nat))), o3]) (S := S3) (ds := [Dat.int 0]) (en_lst (ea_cons ev_int ea_nil : EvA K _ _ S3 ([Dat.int 0].map Sl.d) S3) (by show 1 ≤ sizeLine; decide)).ev (ev_op (ev_var (i := 6) rfl) (ev_var (i := 7) rfl) (op2_ix .lst hix)) .lst ⟨by omega, by omega⟩ (by exact size_1000 (by simp; omega))
          rw [Int.toNat_natCast, rep_flatP] at hR
          refine sp_set1 (x := .d (.lst ((fill N u ++ List.replicate q 0).map Dat.int))) (S1 := S3) ((EvN.ev (en_cat (ev_var rfl) hR.ev .lst .lst ?_)).to ?_) ⟨rfl, _, _, rfl⟩
          · rw [List.length_map, hfl, List.length_replicate]; exact size_1000 (by omega)
          · rw [List.map_append, List.map_replicate]
      · rintro env' S3 ⟨rfl, o2, o3, rfl⟩
        exact ⟨rfl, _, _, _, rfl⟩
    · rintro env' S2 ⟨rfl, o1, o2, o3, rfl⟩
      rw [List.take_length]
      exact ⟨rfl, _, _, _, _, rfl⟩
    · rintro env' S2 ⟨rfl, o0, o1, o2, o3, rfl⟩
      exact sp_ret (d := rowD (fill (mask s n z) u)) (ev_cb (ea_cons (ev_var rfl) ea_nil) (cd_tup .lst)) ⟨rfl, List.take_length⟩
end
end N20

set_option Elab.async false
set_option linter.all false
set_option maxRecDepth 100000
set_option maxHeartbeats 4000000
namespace N20
open PySem PySem.Spec PyProof.Rows L2 RW

def netT (n : Nat) (L : Lays) (last : List Int) : Dat := .tup [.int n, laysD L, rowD last]
def gBeside (ss : List Sl) (S : List Dat) (r : Dat) (S' : List Dat) : Prop := ∃ (n : Nat) (L1 L2 : Lays) (l1 l2 : List Int) (d : Nat), ss = [.d (netT n L1 l1), .d (netT n L2 l2)] ∧ Wf n L1 l1 ∧ Wf n L2 l2 ∧ max L1.length L2.length = d ∧ r = .tup [laysD (both n L1 L2 d), rowD (lastB true n L1 L2 d l1), rowD (lastB false n L1 L2 d l2)] ∧ S' = S
theorem mask_app (s : Bool) (n : Nat) (a b : List (Nat × Nat)) : mask s n (a ++ b) = mask s n a ++ b.flatMap (seg s) := by unfold mask; rw [List.flatMap_append, List.append_assoc]
theorem fill_cut (s : Bool) (n : Nat) (z : List (Nat × Nat)) (i : Nat) (u : List Int) : (fill (mask s n z) u).take (wid n (z.take i)) = fill (mask s n (z.take i)) u := by
  have e : mask s n z = mask s n (z.take i) ++ (z.drop i).flatMap (seg s) := by rw [← mask_app, List.take_append_drop]
  rw [e, ← mask_len s n (z.take i), fill_take]
def segD (M : List Bool) (l : List (List Int)) : Dat := .lst (l.map fun u => rowD (fill M u))
theorem pad (f : List (List Int) → Dat) {L : Lays} {d : Nat} (h : L.length ≤ d) : L.map f ++ List.replicate (d - L.length) (f []) = (List.range d).map fun j => f (L.getD j []) := by
  apply List.ext_getElem?
  intro i
  by_cases h1 : i < L.length
  · rw [List.getElem?_append_left (by rwa [List.length_map]), List.getElem?_map, List.getElem?_eq_getElem h1, List.getElem?_map, List.getElem?_range (by omega)]
    simp [h1, List.getD_eq_getElem?_getD]
  · rw [List.getElem?_append_right (by rw [List.length_map]; omega), List.length_map]
    by_cases h2 : i < d
    · rw [List.getElem?_replicate, if_pos (by omega), List.getElem?_map, List.getElem?_range h2]
      simp [List.getD_eq_getElem?_getD, List.getElem?_eq_none (by omega : L.length ≤ i)]
    · rw [List.getElem?_replicate, if_neg (by omega), List.getElem?_map, List.getElem?_eq_none (by rw [List.length_range]; omega)]; rfl
def rD (n : Nat) (z : List (Nat × Nat)) (d : Nat) (s : Bool) (L : Lays) (l : List Int) : Dat := .tup [.lst ((List.range d).map fun j => segD (mask s n z) (L.getD j [])), rowD (fill (mask s n z) l)]
theorem sum_cast {α : Type} (f : α → Nat) : ∀ xs : List α, (xs.map fun p => ((f p : Nat) : Int)).sum = (((xs.map f).sum : Nat) : Int)
  | [] => rfl
  | x :: xs => by rw [List.map_cons, List.sum_cons, sum_cast f xs, List.map_cons, List.sum_cons, Int.natCast_add]
theorem cc0 {S : List Dat} {a b : Dat} : (S ++ [a] ++ [b])[S.length]? = some a := by simp
theorem cc1 {S : List Dat} {a b : Dat} : (S ++ [a] ++ [b])[S.length + 1]? = some b := by simp
theorem cs1 {S : List Dat} {a b b' : Dat} : (S ++ [a] ++ [b]).set (S.length + 1) b' = S ++ [a] ++ [b'] := by simp [List.set_append]
theorem cc20 {S : List Dat} {a b c : Dat} : (S ++ [a] ++ [b] ++ [c])[S.length]? = some a := by simp
theorem cc21 {S : List Dat} {a b c : Dat} : (S ++ [a] ++ [b] ++ [c])[S.length + 1]? = some b := by simp
theorem cc22 {S : List Dat} {a b c : Dat} : (S ++ [a] ++ [b] ++ [c])[S.length + 2]? = some c := by simp
theorem cs22 {S : List Dat} {a b c c' : Dat} : (S ++ [a] ++ [b] ++ [c]).set (S.length + 2) c' = S ++ [a] ++ [b] ++ [c'] := by simp [List.set_append]
section
variable {P : Program} {w : World} {K : PySem.W.Frag} {mg : Str → Option Value} {base : Heap}

theorem ok__law_beside (T : Txt K mg) : FnOk P w K mg base CX0 2 T.a__law_beside T.d__law_beside ["one", "other"] (SpD K (gBeside)) := by
  have G__law_spread := ok__law_spread (P := P) (w := w) (base := base) T
  have b__law_spread := T.b__law_spread
  refine T.F__law_beside.ok sc__law_beside (spd_len (k := 2) fun ss S r S' hg => ?_) (fun cdv A outer s H vs Q E hr h => ⟨_, (pss_cons (ps_asg (pe_tup (pa_cons (pe_ix (ix_seqK K) (pv 0) pe_int (fun _ _ => rfl)) (pa_cons (pe_callB (call_max2D rfl) (by rfl) T.n_max (by decide +kernel) (pa_cons (pe_callB (call_lenK K) (by rfl) T.n_len (by decide +kernel) (pa_cons (pe_ix (ix_seqK K) (pv 0) pe_int (fun _ _ => rfl)) pa_nil)) (pa_cons (pe_callB (call_lenK K) (by rfl) T.n_len (by decide +kernel) (pa_cons (pe_ix (ix_seqK K) (pv 1) pe_int (fun _ _ => rfl)) pa_nil)) pa_nil))) pa_nil))) (pg_tup rfl (pgs_cons (pg_name (i := 2) sc__law_beside.nd rfl (by first | exact Or.inl rfl | exact Or.inr rfl)) (pgs_cons (pg_name (i := 3) sc__law_beside.nd rfl (by first | exact Or.inl rfl | exact Or.inr rfl)) pgs_nil)))) (pss_cons (ps_set (i := 4) sc__law_beside.nd rfl (by first | exact Or.inl rfl | exact Or.inr rfl) (pe_lst pa_nil)) (pss_cons (ps_for PassesOwn.never rfl (pi_range1 (by rfl) T.n_range (pa_cons (pv 3) pa_nil)) (pg_name (i := 5) sc__law_beside.nd rfl (by first | exact Or.inl rfl | exact Or.inr rfl)) (pss_one (ps_expr (pe_bm PySem.F.plainAttrs_list PySem.F.slot_list_append PySem.F.type_list_append mt_append (pv 4) (pa_cons (pe_lc (own := [("told", 6)]) rfl sc__law_beside.nd (pi_seqK K (pe_tup (pa_cons (pv 0) (pa_cons (pv 1) pa_nil)))) (blkOk_by (own := [("told", 6)]) (N := ["one", "other", "inputs", "depth", "sizes", "at", "told", "rows", "side", "mine", "unit", "layer", "layers", "seen", "pair", "row"]) (sc := (defScope s__law_beside)) (by decide +kernel)) (fun _ _ _ _ _ => (pg_name (i := 6) sc__law_beside.nd rfl (by first | exact Or.inl rfl | exact Or.inr rfl))) (fun _ _ _ _ _ => pts_nil) (fun _ _ _ _ _ => (pe_ifExp (pt_cmpR op_lt (pv 5) (pe_callB (call_lenK K) (by rfl) T.n_len (by decide +kernel) (pa_cons (pe_ix (ix_seqK K) (pv 6) pe_int (fun _ _ => rfl)) pa_nil)) (nomark _)) (pe_callB (call_lenK K) (by rfl) T.n_len (by decide +kernel) (pa_cons (pe_ix (ix_seqK K) (pe_ix (ix_seqK K) (pv 6) pe_int (fun _ _ => rfl)) (pv 5) (fun _ _ => rfl)) pa_nil)) pe_int))) pa_nil))))) (pss_cons (ps_set (i := 7) sc__law_beside.nd rfl (by first | exact Or.inl rfl | exact Or.inr rfl) (pe_lst pa_nil)) (pss_cons (ps_for PassesOwn.never rfl (pi_enumG (by rfl) T.n_enumerate (pa_cons (pe_tup (pa_cons (pv 0) (pa_cons (pv 1) pa_nil))) pa_nil)) (pg_tup rfl (pgs_cons (pg_name (i := 8) sc__law_beside.nd rfl (by first | exact Or.inl rfl | exact Or.inr rfl)) (pgs_cons (pg_name (i := 6) sc__law_beside.nd rfl (by first | exact Or.inl rfl | exact Or.inr rfl)) pgs_nil))) (pss_cons (ps_setLc (own := [("layer", 11)]) (i := 9) rfl sc__law_beside.nd rfl rfl (sw_true rfl rfl rfl (by decide +kernel)) (pi_seqK K (pe_ix (ix_seqK K) (pv 6) pe_int (fun _ _ => rfl))) (blkOk_by (own := [("layer", 11)]) (N := ["one", "other", "inputs", "depth", "sizes", "at", "told", "rows", "side", "mine", "unit", "layer", "layers", "seen", "pair", "row"]) (sc := (defScope s__law_beside)) (by decide +kernel)) (fun _ _ _ _ _ => (pg_name (i := 11) sc__law_beside.nd rfl (by first | exact Or.inl rfl | exact Or.inr rfl))) (fun _ _ _ _ _ => pts_nil) (fun _ _ _ _ _ => (pe_lc (own := [("unit", 10)]) rfl sc__law_beside.nd (pi_seqK K (pv 11)) (blkOk_by (own := [("unit", 10)]) (N := ["one", "other", "inputs", "depth", "sizes", "at", "told", "rows", "side", "mine", "unit", "layer", "layers", "seen", "pair", "row"]) (sc := scC__law_beside_layer) (by decide +kernel)) (fun _ _ _ _ _ => (pg_name (i := 10) sc__law_beside.nd rfl (by first | exact Or.inl rfl | exact Or.inr rfl))) (fun _ _ _ _ _ => pts_nil) (fun _ _ _ _ _ => (pe_call G__law_spread (hr.mono (by decide)) rfl T.m__law_spread T.k__law_spread b__law_spread .nil pass0 (pa_cons (pv 10) (pa_cons (pv 2) (pa_cons (pv 4) (pa_cons (pv 8) pa_nil))))))))) (pss_one (ps_expr (pe_bm PySem.F.plainAttrs_list PySem.F.slot_list_append PySem.F.type_list_append mt_append (pv 7) (pa_cons (pe_tup (pa_cons (pe_op op_cat (pv 9) (pe_op op_rep (pe_lst (pa_cons (pe_lst pa_nil) pa_nil)) (pe_op op_sub (pv 3) (pe_callB (call_lenK K) (by rfl) T.n_len (by decide +kernel) (pa_cons (pv 9) pa_nil))))) (pa_cons (pe_call G__law_spread (hr.mono (by decide)) rfl T.m__law_spread T.k__law_spread b__law_spread .nil pass0 (pa_cons (pe_ix (ix_seqK K) (pv 6) pe_int (fun _ _ => rfl)) (pa_cons (pv 2) (pa_cons (pv 4) (pa_cons (pv 8) pa_nil))))) pa_nil))) pa_nil)))))) (pss_cons (ps_set (i := 12) sc__law_beside.nd rfl (by first | exact Or.inl rfl | exact Or.inr rfl) (pe_lst pa_nil)) (pss_cons (ps_for PassesOwn.never rfl (pi_range1 (by rfl) T.n_range (pa_cons (pv 3) pa_nil)) (pg_name (i := 5) sc__law_beside.nd rfl (by first | exact Or.inl rfl | exact Or.inr rfl)) (pss_cons (ps_set (i := 13) sc__law_beside.nd rfl (by first | exact Or.inl rfl | exact Or.inr rfl) (pe_op op_add (pv 2) (pe_callB (cr_sumK K) (by rfl) T.n_sum (by decide +kernel) (pa_cons (pe_lc (own := [("pair", 14)]) rfl sc__law_beside.nd (pi_seqK K (pe_slice (sl_listK K) (pv 4) po_none (po_some (pv 5)))) (blkOk_by (own := [("pair", 14)]) (N := ["one", "other", "inputs", "depth", "sizes", "at", "told", "rows", "side", "mine", "unit", "layer", "layers", "seen", "pair", "row"]) (sc := (defScope s__law_beside)) (by decide +kernel)) (fun _ _ _ _ _ => (pg_name (i := 14) sc__law_beside.nd rfl (by first | exact Or.inl rfl | exact Or.inr rfl))) (fun _ _ _ _ _ => pts_nil) (fun _ _ _ _ _ => (pe_callB (cr_sumK K) (by rfl) T.n_sum (by decide +kernel) (pa_cons (pv 14) pa_nil)))) pa_nil)))) (pss_one (ps_expr (pe_bm PySem.F.plainAttrs_list PySem.F.slot_list_append PySem.F.type_list_append mt_append (pv 12) (pa_cons (pe_callTy (call_tupK K rfl) (by rfl) T.n_tuple (by decide +kernel) (pa_cons (pe_lc (own := [("row", 15)]) rfl sc__law_beside.nd (pi_seqK K (pe_op op_cat (pe_ix (ix_seqK K) (pe_ix (ix_seqK K) (pe_ix (ix_seqK K) (pv 7) pe_int (fun _ _ => rfl)) pe_int (fun _ _ => rfl)) (pv 5) (fun _ _ => rfl)) (pe_ix (ix_seqK K) (pe_ix (ix_seqK K) (pe_ix (ix_seqK K) (pv 7) pe_int (fun _ _ => rfl)) pe_int (fun _ _ => rfl)) (pv 5) (fun _ _ => rfl)))) (blkOk_by (own := [("row", 15)]) (N := ["one", "other", "inputs", "depth", "sizes", "at", "told", "rows", "side", "mine", "unit", "layer", "layers", "seen", "pair", "row"]) (sc := (defScope s__law_beside)) (by decide +kernel)) (fun _ _ _ _ _ => (pg_name (i := 15) sc__law_beside.nd rfl (by first | exact Or.inl rfl | exact Or.inr rfl))) (fun _ _ _ _ _ => pts_nil) (fun _ _ _ _ _ => (pe_slice (sl_tupAK K) (pv 15) po_none (po_some (pv 13))))) pa_nil)) pa_nil)))))) (pss_one (ps_ret (pe_tup (pa_cons (pe_callTy (call_tupK K rfl) (by rfl) T.n_tuple (by decide +kernel) (pa_cons (pv 12) pa_nil)) (pa_cons (pe_ix (ix_seqK K) (pe_ix (ix_seqK K) (pv 7) pe_int (fun _ _ => rfl)) pe_int (fun _ _ => rfl)) (pa_cons (pe_ix (ix_seqK K) (pe_ix (ix_seqK K) (pv 7) pe_int (fun _ _ => rfl)) pe_int (fun _ _ => rfl)) pa_nil))))))))))))), sp_body h fun ss S r S' hg => ?_⟩)
  · obtain ⟨n, L1, L2, l1, l2, d, rfl, _⟩ := hg; rfl
  · obtain ⟨n, L1, L2, l1, l2, d, rfl, hw1, hw2, hd, rfl, rfl⟩ := hg
    have hn8 := hw1.n8
    have hu1 := hw1.u
    have hu2 := hw2.u
    have hd1 := hw1.l4
    have hd2 := hw2.l4
    have hfin := wid_le n L1 L2 d
    refine sp_asg (d := .tup [.int n, .int d]) (S1 := S') (ev_tup (ds := [.int n, .int d]) (ea_cons (S1 := S') (ev_op (ev_var rfl) ev_int (op2_ix .tup rfl)) (ea_cons (S1 := S') ((ev_cb (ea_cons (ev_cb (ea_cons (ev_op (ev_var rfl) ev_int (op2_ix .tup (i := 1) (d := laysD L1) rfl)) ea_nil) (cd_len .tup)) (ea_cons (ev_cb (ea_cons (ev_op (ev_var rfl) ev_int (op2_ix .tup (i := 1) (d := laysD L2) rfl)) ea_nil) (cd_len .tup)) ea_nil)) cd_max2).to ?_) ea_nil)) (by show 2 ≤ sizeLine; decide)) tg_pair ?_
    · rw [List.length_map, List.length_map, ← hd]; congr 2; omega
    refine sp_setC (S1 := S') (ds := []) (en_lst ea_nil (Nat.zero_le _)) ?_
    refine sp_seq (P' := { nx := fun env' S2 => S2 = S' ++ [.lst ((szs L1 L2 d).map pairD)] ∧ ∃ o1, env' = [some (.d (netT n L1 l1)), some (.d (netT n L2 l2)), some (.d (.int n)), some (.d (.int d)), some (.c S'.length), o1, none, none, none, none, none, none, none, none, none, none] })
      (sp_forA (xs := List.range d) (g := fun i => Dat.int (0 + (i : Nat))) (it_rangeN (m := d) (ea_cons (ev_var rfl) ea_nil) (by omega)) (fun i env' S2 => S2 = S' ++ [.lst ((szs L1 L2 i).map pairD)] ∧ ∃ o1, env' = [some (.d (netT n L1 l1)), some (.d (netT n L2 l2)), some (.d (.int n)), some (.d (.int d)), some (.c S'.length), o1, none, none, none, none, none, none, none, none, none, none]) ⟨rfl, none, rfl⟩ (fun _ _ _ _ _ _ _ _ _ => trivial) ?_ ?_) ?_
    · rintro i a env' S2 ha ⟨rfl, o1, rfl⟩
      have hi : i < d ∧ a = i := by
        obtain ⟨h1, h2⟩ := List.getElem?_eq_some_iff.mp ha
        rw [List.length_range] at h1
        rw [List.getElem_range] at h2
        exact ⟨h1, h2.symm⟩
      obtain ⟨hi, rfl⟩ := hi
      have hsl := szs_len L1 L2 a
      refine ⟨[5], fun env => env.set 5 (some (.d (.int (0 + (a : Nat))))), tg_name, ?_⟩
      refine sp_drop1 (ev_append (d := pairD ((L1.getD a []).length, (L2.getD a []).length)) (ev_var rfl) (EvN.ev (en_mapA (xs := [(L1, l1), (L2, l2)]) (g := fun q => netT n q.1 q.2) (is := [6]) (fun q => Dat.int ((q.1.getD a []).length : Nat)) (it_tup (ev_tup (ds := [netT n L1 l1, netT n L2 l2]) (ea_cons (ev_var rfl) (ea_cons (ev_var rfl) ea_nil)) (by show 2 ≤ sizeLine; decide))) (by show 2 ≤ sizeLine; decide) (fun _ _ => trivial) (by decide) (fun q env => env.set 6 (some (.d (netT n q.1 q.2)))) fun q hq => ⟨tg_name, ?_⟩)) ⟨_, sg_last⟩ sg_last (by rw [List.length_map, hsl]; exact Nat.lt_of_le_of_lt (by omega : _ ≤ 4) (by decide))) ⟨?_, _, rfl⟩
      · refine ev_if (b := decide ((a : Int) < (q.1.length : Int))) (et_test (ev_op (ev0 (ev_var rfl)) ((ev_cb (ea_cons (ev_op (ev_var rfl) ev_int (op2_ix .tup (i := 1) (d := laysD q.1) rfl)) ea_nil) (cd_len .tup)).to (r' := .d (.int (q.1.length : Nat))) (by rw [List.length_map])) o_lt)) (fun h => ?_) fun h => ?_
        · have hi : a < q.1.length := by have := of_decide_eq_true h; omega
          refine (ev_cb (ea_cons (ev_op (ev_op (ev_var rfl) ev_int (op2_ix .tup (i := 1) (d := laysD q.1) rfl)) (ev0 (ev_var rfl)) (op2_ix .tup (atI_map (List.getElem?_eq_getElem hi)))) ea_nil) (cd_len .tup)).to ?_
          rw [List.getD_eq_getElem?_getD, List.getElem?_eq_getElem hi, List.length_map]; rfl
        · have hi : ¬ a < q.1.length := by have := of_decide_eq_false h; omega
          refine ev_int.to ?_
          rw [List.getD_eq_getElem?_getD, List.getElem?_eq_none (by omega)]; rfl
      · rw [sg_set, szs_succ, List.map_append]; rfl
    · rintro env' S2 ⟨rfl, o1, rfl⟩
      rw [List.length_range]
      exact ⟨rfl, o1, rfl⟩
    rintro env' S2 ⟨rfl, o1, rfl⟩
    have hzl := szs_len L1 L2 d
    have hzt : ∀ i, i ≤ d → (szs L1 L2 d).take i = szs L1 L2 i := fun i h => szs_take L1 L2 d i h
    have hlb1 : lastB true n L1 L2 d l1 = fill (mask true n (szs L1 L2 d)) l1 := rfl
    have hlb2 : lastB false n L1 L2 d l2 = fill (mask false n (szs L1 L2 d)) l2 := rfl
    have hfc : ∀ s i u, (fill (mask s n (szs L1 L2 d)) u).take (wid n ((szs L1 L2 d).take i)) = fill (mask s n ((szs L1 L2 d).take i)) u := fun s i u => fill_cut s n _ i u
    rw [hlb1, hlb2]
    generalize szs L1 L2 d = z at hfin hzl hzt hfc ⊢
    refine sp_setC (S1 := S' ++ [.lst (z.map pairD)]) (ds := []) (en_lst ea_nil (Nat.zero_le _)) ?_
    rw [show (S' ++ [Dat.lst (z.map pairD)]).length = S'.length + 1 by simp]
    refine sp_seq (P' := { nx := fun env' S2 => S2 = S' ++ [.lst (z.map pairD)] ++ [.lst [rD n z d true L1 l1, rD n z d false L2 l2]] ∧ ∃ o1 o2 o3 o4, env' = [some (.d (netT n L1 l1)), some (.d (netT n L2 l2)), some (.d (.int n)), some (.d (.int d)), some (.c S'.length), o1, o2, some (.c (S'.length + 1)), o3, o4, none, none, none, none, none, none] })
      (sp_forA (xs := [(L1, l1), (L2, l2)].zipIdx) (g := fun p => Dat.tup [.int (p.2 : Nat), netT n p.1.1 p.1.2]) (it_enumA (u := [(L1, l1), (L2, l2)]) (f := fun q => netT n q.1 q.2) (ea_cons (ev_tup (ds := [netT n L1 l1, netT n L2 l2]) (ea_cons (ev_var rfl) (ea_cons (ev_var rfl) ea_nil)) (by show 2 ≤ sizeLine; decide)) ea_nil) .tup) (fun i env' S2 => S2 = S' ++ [.lst (z.map pairD)] ++ [.lst ([rD n z d true L1 l1, rD n z d false L2 l2].take i)] ∧ ∃ o1 o2 o3 o4, env' = [some (.d (netT n L1 l1)), some (.d (netT n L2 l2)), some (.d (.int n)), some (.d (.int d)), some (.c S'.length), o1, o2, some (.c (S'.length + 1)), o3, o4, none, none, none, none, none, none]) ⟨rfl, o1, none, none, none, rfl⟩ (fun _ _ _ _ _ _ _ _ _ => trivial) ?_ ?_) ?_
    · rintro i a env' S2 ha ⟨rfl, o1, o2, o3, o4, rfl⟩
      obtain ⟨s, L, l, hw, hLd, hk, he, hil⟩ : ∃ s L l, Wf n L l ∧ L.length ≤ d ∧ [rD n z d true L1 l1, rD n z d false L2 l2][i]? = some (rD n z d s L l) ∧ Dat.tup [.int (a.2 : Nat), netT n a.1.1 a.1.2] = Dat.tup [.int (sideI s), netT n L l] ∧ i < 2 := by
        match i, ha with
        | 0, h => cases h; exact ⟨true, L1, l1, hw1, by omega, rfl, rfl, by decide⟩
        | 1, h => cases h; exact ⟨false, L2, l2, hw2, by omega, rfl, rfl, by decide⟩
      have hnl : n ≤ l.length := by rw [hw.la.1]; omega
      have hu := hw.u
      have hl4 := hw.l4
      have hlen : l.length ≤ 1000 := by rw [hw.la.1]; omega
      refine ⟨[8, 6], fun env => (env.set 8 (some (.d (.int (sideI s))))).set 6 (some (.d (netT n L l))), ?_, ?_⟩
      · show TgD K _ (Dat.tup [.int (a.2 : Nat), netT n a.1.1 a.1.2]) _ _
        rw [he]; exact tg_pair
      have hrd : rD n z d s L l = .tup [.lst ((List.range d).map fun j => segD (mask s n z) (L.getD j [])), rowD (fill (mask s n z) l)] := rfl
      have hws : ∀ ly ∈ L, ∀ u ∈ ly, n ≤ u.length ∧ u.length ≤ 1000 := fun ly hly u hu' => by
        obtain ⟨j, hj⟩ := List.mem_iff_getElem?.mp hly
        have h1 := ((hw.wl.get hj).2.2 u hu').1
        have := hw.all j
        omega
      have hrt : [rD n z d true L1 l1, rD n z d false L2 l2].take (i + 1) = [rD n z d true L1 l1, rD n z d false L2 l2].take i ++ [rD n z d s L l] := take_snoc hk
      rw [hrt, hrd]
      have hrl : ([rD n z d true L1 l1, rD n z d false L2 l2].take i).length ≤ 2 := by rw [List.length_take]; simp; omega
      generalize [rD n z d true L1 l1, rD n z d false L2 l2].take i = R at hrl ⊢
      have hcall : ∀ {te : TE} {env : Env1} {u : List Int}, Ev K te env (S' ++ [.lst (z.map pairD)] ++ [.lst R]) (.d (rowD u)) (S' ++ [.lst (z.map pairD)] ++ [.lst R]) → env[2]? = some (some (.d (.int (n : Nat)))) → env[4]? = some (some (.c S'.length)) → env[8]? = some (some (.d (.int (sideI s)))) → n ≤ u.length → u.length ≤ 1000 →
          Ev K (tCall (SpD K gSpread) [] E0 (tCons te (tCons (tVar 2) (tCons (tVar 4) (tCons (tVar 8) tNil))))) env (S' ++ [.lst (z.map pairD)] ++ [.lst R]) (.d (rowD (fill (mask s n z) u))) (S' ++ [.lst (z.map pairD)] ++ [.lst R]) := fun h h2 h4 h8 a1 a2 =>
        ev_call (ea_cons h (ea_cons (ev_var h2) (ea_cons (ev_var h4) (ea_cons (ev_var h8) ea_nil)))) ⟨_, n, S'.length, z, s, rfl, cc0, a1, a2, by omega, by omega, rfl, rfl⟩
      generalize mask s n z = M at hcall ⊢
      refine sp_set (x := .d (.lst (L.map (segD M)))) (S1 := S' ++ [.lst (z.map pairD)] ++ [.lst R]) (EvN.ev (en_mapA (xs := L) (g := layD) (is := [11]) (segD M) (it_tup (ev_op (ev_var rfl) ev_int (op2_ix .tup (i := 1) (d := laysD L) rfl))) (size_1000 (by omega)) (fun _ _ => trivial) (by decide) (fun ly env => env.set 11 (some (.d (layD ly)))) fun ly hly => ⟨tg_name, EvN.ev (en_mapA (xs := ly) (g := rowD) (is := [10]) (fun u => rowD (fill M u)) (it_tup (ev_var rfl)) (size_1000 ?_) (fun _ _ => trivial) (by decide) (fun u env => env.set 10 (some (.d (rowD u)))) fun u hu' => ⟨tg_name, hcall (ev_var rfl) rfl rfl rfl (hws ly hly u hu').1 (hws ly hly u hu').2⟩)⟩)) ?_
      · have := hw.l64 ly hly; omega
      have hR := en_rep (k := (d : Int) - (L.map (segD M)).length) (K := K) (env := [some (.d (netT n L1 l1)), some (.d (netT n L2 l2)), some (.d (.int n)), some (.d (.int d)), some (.c S'.length), o1, some (.d (netT n L l)), some (.c (S'.length + 1)), some (.d (.int (sideI s))), some (.d (.lst (L.map (segD M)))), none, none, none, none, none, none]) (S := S' ++ [.lst (z.map pairD)] ++ [.lst R]) (ds := [Dat.lst []]) (en_lst (ea_cons (EvN.ev (en_lst (ds := []) ea_nil (Nat.zero_le _))) ea_nil : EvA K _ _ _ ([Dat.lst []].map Sl.d) _) (by show 1 ≤ sizeLine; decide)).ev (ev_op (ev_var (i := 3) rfl) (ev_cb (ea_cons (ev_var (i := 9) rfl) ea_nil) (cd_len .lst)) o_sub) .lst ⟨by rw [List.length_map]; omega, by rw [List.length_map]; omega⟩ (by rw [List.length_map]; exact size_1000 (by simp; omega))
      have hkn : ((d : Int) - (L.map (segD M)).length).toNat = d - L.length := by rw [List.length_map]; omega
      rw [hkn, rep_flatP] at hR
      refine sp_drop1 (ev_append (d := .tup [.lst ((List.range d).map fun j => segD M (L.getD j [])), rowD (fill M l)]) (ev_var rfl) (ev_tup (ds := [.lst ((List.range d).map fun j => segD M (L.getD j [])), rowD (fill M l)]) (ea_cons (S1 := S' ++ [.lst (z.map pairD)] ++ [.lst R]) ((EvN.ev (en_cat (ev_var rfl) hR.ev .lst .lst ?_)).to ?_) (ea_cons (S1 := S' ++ [.lst (z.map pairD)] ++ [.lst R]) (hcall (ev_op (ev_var rfl) ev_int (op2_ix .tup (i := 2) (d := rowD l) rfl)) rfl rfl rfl hnl hlen) ea_nil)) (by show 2 ≤ sizeLine; decide)) ⟨_, cc1⟩ cc1 (Nat.lt_of_le_of_lt hrl (by decide))) ⟨?_, _, _, _, _, rfl⟩
      · rw [List.length_map, List.length_replicate]; exact size_1000 (by omega)
      · rw [← pad _ hLd]; rfl
      · rw [cs1]
    · rintro env' S2 ⟨rfl, o1, o2, o3, o4, rfl⟩
      exact ⟨rfl, o1, o2, o3, o4, rfl⟩
    rintro env' S2 ⟨rfl, o1, o2, o3, o4, rfl⟩
    refine sp_setC (S1 := S' ++ [.lst (z.map pairD)] ++ [.lst [rD n z d true L1 l1, rD n z d false L2 l2]]) (ds := []) (en_lst ea_nil (Nat.zero_le _)) ?_
    rw [show (S' ++ [Dat.lst (z.map pairD)] ++ [Dat.lst [rD n z d true L1 l1, rD n z d false L2 l2]]).length = S'.length + 2 by simp]
    have hrd : ∀ s L l, rD n z d s L l = .tup [.lst ((List.range d).map fun j => segD (mask s n z) (L.getD j [])), rowD (fill (mask s n z) l)] := fun _ _ _ => rfl
    rw [hrd, hrd]
    refine sp_seq (P' := { nx := fun env' S2 => S2 = S' ++ [.lst (z.map pairD)] ++ [.lst [.tup [.lst ((List.range d).map fun j => segD (mask true n z) (L1.getD j [])), rowD (fill (mask true n z) l1)], .tup [.lst ((List.range d).map fun j => segD (mask false n z) (L2.getD j [])), rowD (fill (mask false n z) l2)]]] ++ [.lst ((both n L1 L2 d).map layD)] ∧ ∃ o1 o2 o3 o4 o5, env' = [some (.d (netT n L1 l1)), some (.d (netT n L2 l2)), some (.d (.int n)), some (.d (.int d)), some (.c S'.length), o1, o2, some (.c (S'.length + 1)), o3, o4, none, none, some (.c (S'.length + 2)), o5, none, none] })
      (sp_forA (xs := List.range d) (g := fun i => Dat.int (0 + (i : Nat))) (it_rangeN (m := d) (ea_cons (ev_var rfl) ea_nil) (by omega)) (fun i env' S2 => S2 = S' ++ [.lst (z.map pairD)] ++ [.lst [.tup [.lst ((List.range d).map fun j => segD (mask true n z) (L1.getD j [])), rowD (fill (mask true n z) l1)], .tup [.lst ((List.range d).map fun j => segD (mask false n z) (L2.getD j [])), rowD (fill (mask false n z) l2)]]] ++ [.lst ((both n L1 L2 i).map layD)] ∧ ∃ o1 o2 o3 o4 o5, env' = [some (.d (netT n L1 l1)), some (.d (netT n L2 l2)), some (.d (.int n)), some (.d (.int d)), some (.c S'.length), o1, o2, some (.c (S'.length + 1)), o3, o4, none, none, some (.c (S'.length + 2)), o5, none, none]) ⟨rfl, o1, o2, o3, o4, none, rfl⟩ (fun _ _ _ _ _ _ _ _ _ => trivial) ?_ ?_) ?_
    · rintro i a env' S2 ha ⟨rfl, o1, o2, o3, o4, o5, rfl⟩
      have hi : i < d ∧ a = i := by
        obtain ⟨h1, h2⟩ := List.getElem?_eq_some_iff.mp ha
        rw [List.length_range] at h1
        rw [List.getElem_range] at h2
        exact ⟨h1, h2.symm⟩
      obtain ⟨hi, rfl⟩ := hi
      have hfc1 := hfc true a
      have hfc2 := hfc false a
      have hlb : layB n L1 L2 a = (L1.getD a []).map (fill (mask true n (z.take a))) ++ (L2.getD a []).map (fill (mask false n (z.take a))) := by rw [hzt a (by omega)]; rfl
      have hbl := both_len n L1 L2 a
      have g1 := getD_len hw1 a
      have g2 := getD_len hw2 a
      rw [both_succ, hlb]
      generalize both n L1 L2 a = X at hbl ⊢
      generalize hQ : (.lst [.tup [.lst ((List.range d).map fun j => segD (mask true n z) (L1.getD j [])), rowD (fill (mask true n z) l1)], .tup [.lst ((List.range d).map fun j => segD (mask false n z) (L2.getD j [])), rowD (fill (mask false n z) l2)]] : Dat) = Q
      refine ⟨[5], fun env => env.set 5 (some (.d (.int (0 + (a : Nat))))), tg_name, ?_⟩
      refine sp_set (x := .d (.int (wid n (z.take a) : Nat))) (S1 := S' ++ [.lst (z.map pairD)] ++ [Q] ++ [.lst (X.map layD)]) ((ev_op (ev_var rfl) (ev_cb (ea_cons (EvN.ev (en_mapA (xs := z.take a) (g := pairD) (is := [14]) (fun p => Dat.int ((p.1 + p.2 : Nat) : Int)) (it_lst ((EvN.ev (en_slL (ev_var rfl) eo_none (eo_some (ev0 (ev_var rfl))) (.cell cc20))).to (by rw [cut_take]))) (size_1000 (by rw [List.length_take]; omega)) (fun _ _ => trivial) (by decide) (fun p env => env.set 14 (some (.d (pairD p)))) fun p hp => ⟨tg_name, (ev_cb (ea_cons (ev_var rfl) ea_nil) (cd_sum (ns := [(p.1 : Int), (p.2 : Int)]) .lst)).to ?_⟩)) ea_nil) (cd_sum (ns := (z.take a).map fun p => ((p.1 + p.2 : Nat) : Int)) ?_)) o_add).to ?_) ?_
      · simp
      · rw [List.map_map]; exact .lst
      · rw [sum_cast]; unfold wid; rw [Int.natCast_add]
      have hA : Ev K (tOp (rIx K) (tOp (rIx K) (tOp (rIx K) (tVar 7) (tC (.int 0))) (tC (.int 0))) (tVar 5)) [some (.d (netT n L1 l1)), some (.d (netT n L2 l2)), some (.d (.int n)), some (.d (.int d)), some (.c S'.length), some (.d (.int (0 + (a : Nat)))), o2, some (.c (S'.length + 1)), o3, o4, none, none, some (.c (S'.length + 2)), some (.d (.int (wid n (z.take a) : Nat))), none, none] (S' ++ [.lst (z.map pairD)] ++ [Q] ++ [.lst (X.map layD)]) (.d (.lst (((L1.getD a []).map (fill (mask true n z))).map rowD))) (S' ++ [.lst (z.map pairD)] ++ [Q] ++ [.lst (X.map layD)]) := by
        rw [← hQ]
        exact (ev_op (ev_op (ev_op (ev_var rfl) ev_int (op2_ix (.cell cc21) (i := 0) rfl)) ev_int (op2_ix .tup (i := 0) rfl)) (ev0 (ev_var rfl)) (op2_ix .lst (atI_map (List.getElem?_range hi)))).to (by unfold segD; rw [List.map_map]; rfl)
      have hB : Ev K (tOp (rIx K) (tOp (rIx K) (tOp (rIx K) (tVar 7) (tC (.int 1))) (tC (.int 0))) (tVar 5)) [some (.d (netT n L1 l1)), some (.d (netT n L2 l2)), some (.d (.int n)), some (.d (.int d)), some (.c S'.length), some (.d (.int (0 + (a : Nat)))), o2, some (.c (S'.length + 1)), o3, o4, none, none, some (.c (S'.length + 2)), some (.d (.int (wid n (z.take a) : Nat))), none, none] (S' ++ [.lst (z.map pairD)] ++ [Q] ++ [.lst (X.map layD)]) (.d (.lst (((L2.getD a []).map (fill (mask false n z))).map rowD))) (S' ++ [.lst (z.map pairD)] ++ [Q] ++ [.lst (X.map layD)]) := by
        rw [← hQ]
        exact (ev_op (ev_op (ev_op (ev_var rfl) ev_int (op2_ix (.cell cc21) (i := 1) rfl)) ev_int (op2_ix .tup (i := 0) rfl)) (ev0 (ev_var rfl)) (op2_ix .lst (atI_map (List.getElem?_range hi)))).to (by unfold segD; rw [List.map_map]; rfl)
      refine sp_drop1 (ev_append (d := layD ((L1.getD a []).map (fill (mask true n (z.take a))) ++ (L2.getD a []).map (fill (mask false n (z.take a))))) (ev_var rfl) ((ev_cb (ea_cons (EvN.ev (en_mapA (xs := (L1.getD a []).map (fill (mask true n z)) ++ (L2.getD a []).map (fill (mask false n z))) (g := rowD) (is := [15]) (fun r => rowD (r.take (wid n (z.take a)))) (it_lst ((EvN.ev (en_cat hA hB .lst .lst ?_)).to (by rw [List.map_append]))) (size_1000 ?_) (fun _ _ => trivial) (by decide) (fun r env => env.set 15 (some (.d (rowD r)))) fun r hr => ⟨tg_name, (ev_slT (ev_var rfl) eo_none (eo_some (ev_var rfl))).to (by rw [cut_take]; rfl)⟩)) ea_nil) (cd_tup .lst)).to ?_) ⟨_, cc22⟩ cc22 (by rw [List.length_map, hbl]; exact Nat.lt_of_le_of_lt (by omega : _ ≤ 4) (by decide))) ⟨?_, _, _, _, _, _, rfl⟩
      · rw [List.length_map, List.length_map, List.length_map, List.length_map]; exact size_1000 (by omega)
      · rw [List.length_append, List.length_map, List.length_map]; omega
      · show _ = Sl.d (Dat.tup (((L1.getD a []).map (fill (mask true n (z.take a))) ++ (L2.getD a []).map (fill (mask false n (z.take a)))).map rowD))
        rw [List.map_append, List.map_append, List.map_map, List.map_map, List.map_map, List.map_map]
        congr 3
        · exact List.map_congr_left fun u _ => by show rowD _ = rowD _; rw [hfc1 u]
        · exact List.map_congr_left fun u _ => by show rowD _ = rowD _; rw [hfc2 u]
      · rw [cs22, List.map_append]; rfl
    · rintro env' S2 ⟨rfl, o1, o2, o3, o4, o5, rfl⟩
      rw [List.length_range]
      exact ⟨rfl, o1, o2, o3, o4, o5, rfl⟩
    · rintro env' S2 ⟨rfl, o1, o2, o3, o4, o5, rfl⟩
      exact sp_ret (ev_tup (ds := [laysD (both n L1 L2 d), rowD (fill (mask true n z) l1), rowD (fill (mask false n z) l2)]) (ea_cons (ev_cb (ea_cons (ev_var rfl) ea_nil) (cd_tup (.cell cc22))) (ea_cons (ev_op (ev_op (ev_var rfl) ev_int (op2_ix (.cell cc21) (i := 0) rfl)) ev_int (op2_ix .tup (i := 1) rfl)) (ea_cons (ev_op (ev_op (ev_var rfl) ev_int (op2_ix (.cell cc21) (i := 1) rfl)) ev_int (op2_ix .tup (i := 1) rfl)) ea_nil))) (by show 3 ≤ sizeLine; decide)) ⟨rfl, by simp⟩
end
end N20

set_option Elab.async false
set_option linter.all false
set_option maxRecDepth 100000
set_option maxHeartbeats 4000000
namespace N20
open PySem PySem.Spec PyProof.Rows L2 RW

/-! the vat -/
def cellF (ns : List Int) (i : Nat) : Int := if i < ns.length then ns.getD i 0 else 433 * (i : Nat) + 193
def big : Int := (10 ^ (57 : Int).toNat) ^ (6 : Int).toNat
def greatF (ns : List Int) (i : Nat) : Int := ((cellF ns i).natAbs : Int) % big
def vatF (ns : List Int) (i : Nat) : Vt := (max 0 (greatF ns i - 10 ^ (16 : Int).toNat), greatF ns i % 2147483477 * 263 + 587 * (i : Nat) + 37 * b2i (decide (cellF ns i < 0)) + 9, 0)
theorem big_pos : 0 < big := by unfold big; decide +kernel
def gVat (ss : List Sl) (S : List Dat) (r : List Dat) (S' : List Dat) : Prop := ∃ (ns : List Int) (i : Nat), ss = [.d (.scr ns), .d (.int i)] ∧ r = [.int (vatF ns i).1, .int (vatF ns i).2.1, .int (vatF ns i).2.2] ∧ S' = S
theorem op2_ixS {K : PySem.W.Frag} {S : List Dat} {ns : List Int} {i : Int} {u : Int} (h : atI (ns.map V.int) i = some (V.int u)) : Op2 K (rIx K) (.d (.scr ns)) (.d (.int i)) S (.int u) := fun B H as v w c h1 h2 Q q => by
  cases h2
  cases h1 with
  | scr h1 => exact .inl ⟨_, _, i, _, rfl, rfl, Evl.ex_l c.ex h1, h, q _ B H c Evo.refl (.int u)⟩
theorem raw_set {K : PySem.W.Frag} {te : TE} {env : Env1} {S S1 : List Dat} {x : Sl} {i : Nat} {u : TS} {D : Ends} {B H : Hp} {as : List Addr} {σ : L2.St} (h : Ev K te env S x S1) (c : Ok K B H as S) (g : EnvR K B as σ env)
    (q : ∀ B1 H1 v, Ok K B1 H1 as S1 → Evo B H as B1 H1 → EnvR K B1 as (σ.set i (some v)) (env.set i (some x)) → u D (σ.set i (some v)) H1) : tSeq (tAsg te (gName i)) u D σ H :=
  h B H as σ c g _ fun v B1 H1 c1 e1 r1 => q B1 H1 v c1 e1 ((g.mono e1.ex).set i r1)
theorem raw_retN {K : PySem.W.Frag} {te : TE} {env : Env1} {S S1 ds : List Dat} {D : Ends} {B H : Hp} {as : List Addr} {σ : L2.St} (h : EvN K te env S ds S1) (c : Ok K B H as S) (g : EnvR K B as σ env)
    (q : ∀ p B' H' vs, Ok K B' H' as S1 → Evo B H as B' H' → H p = none → B' p = none → H' p = some (.lst vs) → Reps K B' vs ds → D.rt (.ref p) H') : tRet te D σ H := h B H as σ c g _ q
section
variable {P : Program} {w : World} {K : PySem.W.Frag} {mg : Str → Option Value} {base : Heap}

theorem ok__law_vat (T : Txt K mg) : FnOk P w K mg base CX0 1 T.a__law_vat T.d__law_vat ["script", "spot"] (SpN K gVat) := by
  refine T.F__law_vat.ok sc__law_vat (spn_len (k := 2) fun ss S r S' hg => ?_) (fun cdv A outer s H vs Q E hr h => ⟨_, (pss_cons (ps_set (i := 2) sc__law_vat.nd rfl (by first | exact Or.inl rfl | exact Or.inr rfl) (pe_ifExp (pt_cmpR op_lt (pv 1) (pe_callB (call_lenK K) (by rfl) T.n_len (by decide +kernel) (pa_cons (pv 0) pa_nil)) (nomark _)) (pe_callTy call_intD (by rfl) T.n_int (by decide +kernel) (pa_cons (pe_ix (ix_seqK K) (pv 0) (pv 1) (fun _ _ => rfl)) pa_nil)) (pe_op op_add (pe_op op_mul pe_int (pv 1)) pe_int))) (pss_cons (ps_set (i := 3) sc__law_vat.nd rfl (by first | exact Or.inl rfl | exact Or.inr rfl) (pe_op op_mod (pe_callTy call_intD (by rfl) T.n_int (by decide +kernel) (pa_cons (pe_callB call_absD (by rfl) T.n_abs (by decide +kernel) (pa_cons (pv 2) pa_nil)) pa_nil)) (pe_op op_powW (pe_op op_powW pe_int pe_int) pe_int))) (pss_one (ps_ret (pe_lst (pa_cons (pe_callB (call_max2D rfl) (by rfl) T.n_max (by decide +kernel) (pa_cons pe_int (pa_cons (pe_op op_sub (pv 3) (pe_op op_powW pe_int pe_int)) pa_nil))) (pa_cons (pe_op op_add (pe_op op_add (pe_op op_add (pe_op op_mul (pe_op op_mod (pe_callTy call_intD (by rfl) T.n_int (by decide +kernel) (pa_cons (pv 3) pa_nil)) pe_int) pe_int) (pe_op op_mul pe_int (pv 1))) (pe_op op_mul pe_int (pe_callTy call_intD (by rfl) T.n_int (by decide +kernel) (pa_cons (pe_cmpR op_lt (pv 2) pe_int (nomark _)) pa_nil)))) pe_int) (pa_cons pe_int pa_nil)))))))), ?_⟩)
  · obtain ⟨i, n, rfl, _⟩ := hg; rfl
  · obtain ⟨B, as, S, ss, r, S', c, rs, ⟨ns, i, rfl, rfl, rfl⟩, q⟩ := h
    have g := EnvR.start (N := ["script", "spot", "cell", "great"]) rs
    refine raw_set (x := .d (.int (cellF ns i))) (S1 := S') (ev_if (b := decide ((i : Int) < ns.length)) (S1 := S') (et_test (ev_op (ev_var rfl) (ev_cb (ea_cons (ev_var rfl) ea_nil) cd_lenS) o_lt)) (fun hh => ?_) fun hh => ?_) c g fun B1 H1 v c1 x1 g1 => ?_
    · have hlt : i < ns.length := by have := of_decide_eq_true hh; omega
      refine (ev_cb (ea_cons (ev_op (ev_var rfl) (ev_var rfl) (op2_ixS (u := ns.getD i 0) ?_)) ea_nil) cd_int).to ?_
      · rw [atI_nat (by rw [List.length_map]; exact hlt), List.getElem_map, List.getD_eq_getElem?_getD, List.getElem?_eq_getElem hlt]; rfl
      · unfold cellF; rw [if_pos hlt]
    · have hlt : ¬ i < ns.length := by have := of_decide_eq_false hh; omega
      refine (ev_op (ev_op ev_int (ev_var rfl) (o_mul (cm_l (by decide) (by decide)))) ev_int o_add).to ?_
      unfold cellF; rw [if_neg hlt]
    · refine raw_set (x := .d (.int (greatF ns i))) (S1 := S') (ev_op (ev_cb (ea_cons (ev_cb (ea_cons (ev_var rfl) ea_nil) cd_abs) ea_nil) cd_int) (ev_op (ev_op ev_int ev_int (o_powW ⟨by decide, by decide⟩)) ev_int (o_powW ⟨by decide, by decide +kernel⟩)) (o_mod big_pos)) c1 g1 fun B2 H2 v2 c2 x2 g2 => ?_
      refine raw_retN (ds := [.int (vatF ns i).1, .int (vatF ns i).2.1, .int (vatF ns i).2.2]) (S1 := S') (en_lst (ea_cons (ev_cb (ea_cons ev_int (ea_cons (ev_op (ev_var rfl) (ev_op ev_int ev_int (o_powW ⟨by decide, by decide⟩)) o_sub) ea_nil)) cd_max2) (ea_cons (ev_op (ev_op (ev_op (ev_op (ev_op (ev_cb (ea_cons (ev_var rfl) ea_nil) cd_int) ev_int (o_mod (by decide))) ev_int (o_mul (cm_r (by decide) (by decide)))) (ev_op ev_int (ev_var rfl) (o_mul (cm_l (by decide) (by decide)))) o_add) (ev_op ev_int (ev_cb (ea_cons (ev_op (ev_var rfl) ev_int o_lt) ea_nil) cd_intB) (o_mul (cm_l (by decide) (by decide)))) o_add) ev_int o_add) (ea_cons ev_int ea_nil))) (by show 3 ≤ sizeLine; decide)) c2 g2 fun p B3 H3 ws c3 x3 hp hb hl r3 => q p B3 H3 ws c3 ((x1.trans x2).trans x3) ((x1.trans x2).old hp) hb hl r3
end

/-! what is drawn -/
def nums : List Int := [0, 1, -1, 3, -(10 ^ (30 : Int).toNat)]
def nF (v : Vt) : Nat := (1 + (drawF v 4).1).toNat
def v1F (v : Vt) : Vt := (drawF v 4).2
def dF (v : Vt) : Nat := (drawF v 4).1.toNat
def P1 (v : Vt) : (Lays × List Int) × Vt := partsF 3 5 (drawF (v1F v) 4).2 (nF v) (dF (v1F v))
def v3F (v : Vt) : Vt := (P1 v).2
def P2 (v : Vt) : (Lays × List Int) × Vt := partsF 3 5 (drawF (v3F v) 4).2 (nF v) (dF (v3F v))
def v5F (v : Vt) : Vt := (P2 v).2
def cF (v : Vt) : Int := (pickF (v5F v) nums).1
def v6F (v : Vt) : Vt := (pickF (v5F v) nums).2
def v7F (v : Vt) : Vt := (RF (nF v) (v6F v) 6).2
theorem n_ok (v : Vt) : (1 + (drawF v 4).1 = (nF v : Int)) ∧ 1 ≤ nF v ∧ nF v ≤ 4 := by
  have h1 := draw_nn v (t := 4) (by omega)
  have h2 := draw_lt v (t := 4) (by omega)
  unfold nF
  omega
theorem d_ok (v : Vt) : ((drawF v 4).1 = (dF v : Int)) ∧ dF v ≤ 3 := by
  have h1 := draw_nn v (t := 4) (by omega)
  have h2 := draw_lt v (t := 4) (by omega)
  unfold dF
  omega
theorem c_ok (v : Vt) : -(10 ^ 30) ≤ cF v ∧ cF v ≤ 10 ^ 30 := by
  have h0 := pick_in (v5F v) (ns := nums) (by simp [nums])
  have hb : ∀ x ∈ nums, -(10 ^ 30) ≤ x ∧ x ≤ 10 ^ 30 := by decide +kernel
  exact hb _ h0
theorem Sm.sh {sz : Int} {r : List Int} (hz : sz ≤ 10 ^ 20) (h : Sm sz r) : ∀ x ∈ r, Sh x := fun x hx => by
  have := h x hx
  unfold Sh
  omega
theorem WLs.wl {wd : Nat} {sz : Int} (hz : sz ≤ 10 ^ 20) (hwd : wd ≤ 64) : ∀ {L : Lays} {w : Nat}, WLs wd sz w L → WL w L
  | [], _, _ => trivial
  | l :: L, w, h => ⟨⟨h.1.1, by have := h.1.2.1; omega, fun u hu => ⟨(h.1.2.2 u hu).1, (h.1.2.2 u hu).2.sh hz⟩⟩, WLs.wl hz hwd h.2⟩
theorem WLs.len {wd : Nat} {sz : Int} : ∀ {L : Lays} {w : Nat}, WLs wd sz w L → ∀ l ∈ L, l.length ≤ wd
  | [], _, _, l, hl => by simp at hl
  | m :: L, w, h, l, hl => by
    rcases List.mem_cons.mp hl with rfl | hl
    · exact h.1.2.1
    · exact WLs.len h.2 l hl
structure Sml (n : Nat) (L : Lays) (last : List Int) : Prop where
  wf : Wf n L last
  n4 : n ≤ 4
  l3 : L.length ≤ 3
  u9 : L.flatten.length ≤ 9
  w3 : ∀ l ∈ L, l.length ≤ 3
  sm : Sm 5 last
theorem parts_ok (v : Vt) {n d : Nat} (h1 : 1 ≤ n) (h4 : n ≤ 4) (hd : d ≤ 3) : Sml n (partsF 3 5 v n d).1.1 (partsF 3 5 v n d).1.2 := by
  obtain ⟨p1, p2, p3⟩ := PF_ok (wd := 3) (sz := 5) (by decide) (by decide) n v d
  have hb : Sm 5 (partsF 3 5 v n d).1.2 := rowF_b _ _ (by decide)
  refine ⟨⟨h1, by omega, by show (PF _ _ _ _ _).1.length ≤ 4; omega, p2.wl (by decide) (by decide), by show (PF _ _ _ _ _).1.flatten.length ≤ 128; omega, rowF_len .., hb.sh (by decide)⟩, h4, ?_, ?_, p2.len, hb⟩
  · show (PF _ _ _ _ _).1.length ≤ 3; omega
  · show (PF _ _ _ _ _).1.flatten.length ≤ 9; omega
theorem Sml.w {n : Nat} {L : Lays} {last : List Int} (h : Sml n L last) (i : Nat) : (L.getD i []).length ≤ 3 := by
  by_cases hi : i < L.length
  · have e : L.getD i [] = L[i] := by rw [List.getD_eq_getElem?_getD, List.getElem?_eq_getElem hi]; rfl
    rw [e]; exact h.w3 _ (List.getElem_mem hi)
  · rw [List.getD_eq_getElem?_getD, List.getElem?_eq_none (by omega)]; exact Nat.zero_le _
section
variable {n d : Nat} {L1 L2 : Lays} {l1 l2 : List Int} (h1 : Sml n L1 l1) (h2 : Sml n L2 l2) (hd : max L1.length L2.length = d)
include h1 h2 in
theorem wid_b (i : Nat) : wid n (szs L1 L2 i) ≤ n + 18 := by
  have := wid_le n L1 L2 i
  have := h1.u9
  have := h2.u9
  omega
include h1 h2 hd in
theorem both_ok : WL n (both n L1 L2 d) ∧ (both n L1 L2 d).length ≤ 3 ∧ (both n L1 L2 d).flatten.length ≤ 18 := by
  have hb := both_flat n L1 L2 d
  have := wid_b h1 h2 d
  have := h1.l3
  have := h2.l3
  refine ⟨both_WL h1.wf.wl h2.wf.wl (fun i => by rw [layB_len]; have := h1.w i; have := h2.w i; omega) d (by omega), by rw [both_len]; omega, by omega⟩
theorem lastB_len (s : Bool) (l : List Int) : (lastB s n L1 L2 d l).length = n + (both n L1 L2 d).flatten.length := by unfold lastB; rw [fill_len, mask_len, both_flat]
theorem lastB_sm (s : Bool) {l : List Int} (h : Sm 5 l) : Sm 5 (lastB s n L1 L2 d l) := fun x hx => by
  unfold lastB at hx
  rcases fill_mem _ _ x hx with rfl | hx
  · decide
  · exact h x hx
theorem add_sm {a b : List Int} (ha : Sm 5 a) (hb : Sm 5 b) : ∀ x ∈ addR a b, Sh x := fun x hx => by
  obtain ⟨p, hp, rfl⟩ := List.mem_map.mp hx
  have h1 := ha _ (List.of_mem_zip hp).1
  have h2 := hb _ (List.of_mem_zip hp).2
  unfold Sh
  omega
theorem sub_sm {a b : List Int} (ha : Sm 5 a) (hb : Sm 5 b) : ∀ x ∈ subR a b, Sh x := fun x hx => by
  obtain ⟨p, hp, rfl⟩ := List.mem_map.mp hx
  have h1 := ha _ (List.of_mem_zip hp).1
  have h2 := hb _ (List.of_mem_zip hp).2
  unfold Sh
  omega
theorem one_sh : Sh 1 := ⟨by decide, by decide⟩
theorem zero_sh : Sh 0 := ⟨by decide, by decide⟩
include h1 h2 hd in
theorem add_ok : Wf n (both n L1 L2 d) (addR (lastB true n L1 L2 d l1) (lastB false n L1 L2 d l2)) := by
  obtain ⟨b1, b2, b3⟩ := both_ok h1 h2 hd
  refine ⟨h1.wf.n1, h1.wf.n8, by omega, b1, by omega, ?_, add_sm (lastB_sm true h1.sm) (lastB_sm false h2.sm)⟩
  unfold addR
  rw [List.length_map, List.length_zip, lastB_len, lastB_len, Nat.min_self]
theorem ramp_ok {L : Lays} {u b : List Int} (hw : WL n L) (hn : 1 ≤ n) (hn8 : n ≤ 8) (hl : L.length ≤ 3) (hf : L.flatten.length ≤ 100) (hu : Rw u (n + L.flatten.length)) (hb : Rw b (n + L.flatten.length)) : Wf n (rampL L u) (b ++ [1]) := by
  have hfl : (rampL L u).flatten.length = L.flatten.length + 1 := by unfold rampL; rw [List.flatten_append, List.length_append]; rfl
  refine ⟨hn, hn8, by unfold rampL; rw [List.length_append]; show _ + 1 ≤ 4; omega, WL_snoc hw ⟨Nat.le_refl _, by show 1 ≤ 64; decide, fun x hx => by rw [List.mem_singleton.mp hx]; exact hu⟩, by omega, ?_, fun x hx => ?_⟩
  · rw [List.length_append, hb.1, hfl]; rfl
  · rcases List.mem_append.mp hx with hx | hx
    · exact hb.2 x hx
    · rw [List.mem_singleton.mp hx]; exact one_sh
include h1 h2 hd in
theorem gr_ok : Wf n (rampL (both n L1 L2 d) (subR (lastB true n L1 L2 d l1) (lastB false n L1 L2 d l2))) (lastB false n L1 L2 d l2 ++ [1]) := by
  obtain ⟨b1, b2, b3⟩ := both_ok h1 h2 hd
  refine ramp_ok b1 h1.wf.n1 h1.wf.n8 b2 (by omega) ⟨?_, sub_sm (lastB_sm true h1.sm) (lastB_sm false h2.sm)⟩ ⟨lastB_len .., (lastB_sm false h2.sm).sh (by decide)⟩
  unfold subR
  rw [List.length_map, List.length_zip, lastB_len, lastB_len, Nat.min_self]
end
theorem Sml.ramp {n : Nat} {L : Lays} {last : List Int} (h : Sml n L last) : Wf n (rampL L last) (List.replicate last.length 0 ++ [1]) := by
  have := h.u9
  exact ramp_ok h.wf.wl h.wf.n1 h.wf.n8 h.l3 (by omega) h.wf.la ⟨by rw [List.length_replicate]; exact h.wf.la.1, fun x hx => by rw [List.eq_of_mem_replicate hx]; exact zero_sh⟩
theorem Sml.mul {n : Nat} {L : Lays} {last : List Int} (h : Sml n L last) {c : Int} (h1 : -(10 ^ 30) ≤ c) (h2 : c ≤ 10 ^ 30) : Wf n L (last.map fun x => c * x) := by
  refine ⟨h.wf.n1, h.wf.n8, h.wf.l4, h.wf.wl, h.wf.u, by rw [List.length_map]; exact h.wf.la.1, fun y hy => ?_⟩
  obtain ⟨x, hx, rfl⟩ := List.mem_map.mp hy
  have h3 := h.sm x hx
  have : x = -5 ∨ x = -4 ∨ x = -3 ∨ x = -2 ∨ x = -1 ∨ x = 0 ∨ x = 1 ∨ x = 2 ∨ x = 3 ∨ x = 4 ∨ x = 5 := by omega
  unfold Sh
  rcases this with rfl | rfl | rfl | rfl | rfl | rfl | rfl | rfl | rfl | rfl | rfl <;> omega
theorem dot_reps : ∀ (k : Nat) (v : List Int), dot (List.replicate k 0) v = 0
  | 0, v => by rw [List.replicate_zero, dotN]
  | k + 1, [] => by rw [dotN2]
  | k + 1, x :: v => by rw [List.replicate_succ, dotC, dot_reps k v]; omega
theorem ramp_value {L : Lays} {u b row : List Int} (h : b.length = (vals L row).length) : dot (b ++ [1]) (vals (rampL L u) row) = dot b (vals L row) + max 0 (dot u (vals L row)) := by
  unfold rampL
  rw [vals_snoc]
  show dot (b ++ [1]) (vals L row ++ [max 0 (dot u (vals L row))]) = _
  rw [dot_snoc _ _ _ _ h]; omega
theorem RF_b (n : Nat) (v : Vt) : ∀ i, ∀ r ∈ (RF n v i).1, ∀ x ∈ r, -1000000000 ≤ x ∧ x ≤ 1000000000
  | 0, r, hr, x, hx => by
    rw [RF, List.mem_singleton] at hr
    subst hr
    rw [List.eq_of_mem_replicate hx]; decide
  | i + 1, r, hr, x, hx => by
    rw [RF] at hr
    rcases List.mem_append.mp hr with hr | hr
    · exact RF_b n v i r hr x hx
    · rw [List.mem_singleton.mp hr] at hx
      have hs := size_in (RF n v i).2
      refine foldF_mem (p := fun x => -1000000000 ≤ x ∧ x ≤ 1000000000) _ _ (fun w a _ => ?_) x hx
      have h3 := draw_nn w (t := 2 * (pickF (RF n v i).2 sizes).1 + 1) (by omega)
      have h4 := draw_lt w (t := 2 * (pickF (RF n v i).2 sizes).1 + 1) (by omega)
      show -1000000000 ≤ (drawF w _).1 - _ ∧ (drawF w _).1 - _ ≤ 1000000000
      omega
def gRight (ss : List Sl) (S : List Dat) (r : Dat) (S' : List Dat) : Prop := ∃ (k : Nat) (v : Vt), ss = [.c k] ∧ S[k]? = some (vatD v) ∧ r = .bl true ∧ S' = S.set k (vatD (v7F v))
end N20

set_option Elab.async false
set_option linter.all false
set_option maxRecDepth 100000
set_option maxHeartbeats 4000000
namespace N20
open PySem PySem.Spec PyProof.Rows L2 RW

open StX
theorem pl_ints (u : List Int) : Pl 1 (.lst (u.map Dat.int)) := .lst fun d hd => by obtain ⟨x, _, rfl⟩ := List.mem_map.mp hd; exact .int x
section
variable {P : Program} {w : World} {K : PySem.W.Frag} {mg : Str → Option Value} {base : Heap}

theorem ok__law_right (T : Txt K mg) : FnOk P w K mg base CX0 9 T.a__law_right T.d__law_right ["vat"] (SpD K (gRight)) := by
  have G__law_draw := ok__law_draw (P := P) (w := w) (base := base) T
  have b__law_draw := T.b__law_draw
  have G__law_parts := ok__law_parts (P := P) (w := w) (base := base) T
  have b__law_parts := T.b__law_parts
  have G_Networku_initu := ok_Networku_initu (P := P) (w := w) (base := base) T
  have b_Networku_initu := T.b_Networku_initu
  have G__law_pick := ok__law_pick (P := P) (w := w) (base := base) T
  have b__law_pick := T.b__law_pick
  have G__law_beside := ok__law_beside (P := P) (w := w) (base := base) T
  have b__law_beside := T.b__law_beside
  have G_Networku_equ := ok_Networku_equ (P := P) (w := w) (base := base) T
  have b_Networku_equ := T.b_Networku_equ
  have G_added := ok_added (P := P) (w := w) (base := base) T
  have b_added := T.b_added
  have G_multiplied := ok_multiplied (P := P) (w := w) (base := base) T
  have b_multiplied := T.b_multiplied
  have G_ramped := ok_ramped (P := P) (w := w) (base := base) T
  have b_ramped := T.b_ramped
  have G_greater := ok_greater (P := P) (w := w) (base := base) T
  have b_greater := T.b_greater
  have G__law_rows := ok__law_rows (P := P) (w := w) (base := base) T
  have b__law_rows := T.b__law_rows
  have G__law_value := ok__law_value (P := P) (w := w) (base := base) T
  have b__law_value := T.b__law_value
  have G_value_of := ok_value_of (P := P) (w := w) (base := base) T
  have b_value_of := T.b_value_of
  have M_Network := T.M_Network
  have OW : RwT.OwnC K T.C T.a_Networku_equ := ⟨T.o_eq, T.o_fn, T.o_ne, T.isC.hm, T.o_sub⟩
  refine T.F__law_right.ok sc__law_right (spd_len (k := 1) fun ss S r S' hg => ?_) (fun cdv A outer s H vs Q E hr h => ⟨_, (pss_cons (ps_set (i := 1) sc__law_right.nd rfl (by first | exact Or.inl rfl | exact Or.inr rfl) (pe_op op_add pe_int (pe_call G__law_draw (hr.mono (by decide)) rfl T.m__law_draw T.k__law_draw b__law_draw .nil pass0 (pa_cons (pv 0) (pa_cons pe_int pa_nil))))) (pss_cons (ps_set (i := 2) sc__law_right.nd rfl (by first | exact Or.inl rfl | exact Or.inr rfl) (pe_op op_catA (pe_tup (pa_cons (pv 1) pa_nil)) (pe_call G__law_parts (hr.mono (by decide)) rfl T.m__law_parts T.k__law_parts b__law_parts .nil pass0 (pa_cons (pv 0) (pa_cons (pv 1) (pa_cons (pe_call G__law_draw (hr.mono (by decide)) rfl T.m__law_draw T.k__law_draw b__law_draw .nil pass0 (pa_cons (pv 0) (pa_cons pe_int pa_nil))) (pa_cons pe_int (pa_cons pe_int pa_nil)))))))) (pss_cons (ps_set (i := 3) sc__law_right.nd rfl (by first | exact Or.inl rfl | exact Or.inr rfl) (pe_op op_catA (pe_tup (pa_cons (pv 1) pa_nil)) (pe_call G__law_parts (hr.mono (by decide)) rfl T.m__law_parts T.k__law_parts b__law_parts .nil pass0 (pa_cons (pv 0) (pa_cons (pv 1) (pa_cons (pe_call G__law_draw (hr.mono (by decide)) rfl T.m__law_draw T.k__law_draw b__law_draw .nil pass0 (pa_cons (pv 0) (pa_cons pe_int pa_nil))) (pa_cons pe_int (pa_cons pe_int pa_nil)))))))) (pss_cons (ps_asg (pe_tup (pa_cons (pe_make M_Network G_Networku_initu (hr.mono (by decide)) rfl T.m_Network b_Networku_initu .nil pass0 (pa_cons (pe_ix (ix_seqK K) (pv 2) pe_int (fun _ _ => rfl)) (pa_cons (pe_ix (ix_seqK K) (pv 2) pe_int (fun _ _ => rfl)) (pa_cons (pe_ix (ix_seqK K) (pv 2) pe_int (fun _ _ => rfl)) pa_nil)))) (pa_cons (pe_make M_Network G_Networku_initu (hr.mono (by decide)) rfl T.m_Network b_Networku_initu .nil pass0 (pa_cons (pe_ix (ix_seqK K) (pv 3) pe_int (fun _ _ => rfl)) (pa_cons (pe_ix (ix_seqK K) (pv 3) pe_int (fun _ _ => rfl)) (pa_cons (pe_ix (ix_seqK K) (pv 3) pe_int (fun _ _ => rfl)) pa_nil)))) (pa_cons (pe_call G__law_pick (hr.mono (by decide)) rfl T.m__law_pick T.k__law_pick b__law_pick .nil pass0 (pa_cons (pv 0) (pa_cons (pe_lst (pa_cons pe_int (pa_cons pe_int (pa_cons (pe_un un_neg pe_int) (pa_cons pe_int (pa_cons (pe_un un_neg (pe_op op_powW pe_int pe_int)) pa_nil)))))) pa_nil))) pa_nil)))) (pg_tup rfl (pgs_cons (pg_name (i := 4) sc__law_right.nd rfl (by first | exact Or.inl rfl | exact Or.inr rfl)) (pgs_cons (pg_name (i := 5) sc__law_right.nd rfl (by first | exact Or.inl rfl | exact Or.inr rfl)) (pgs_cons (pg_name (i := 6) sc__law_right.nd rfl (by first | exact Or.inl rfl | exact Or.inr rfl)) pgs_nil))))) (pss_cons (ps_asg (pe_call G__law_beside (hr.mono (by decide)) rfl T.m__law_beside T.k__law_beside b__law_beside .nil pass0 (pa_cons (pv 2) (pa_cons (pv 3) pa_nil))) (pg_tup rfl (pgs_cons (pg_name (i := 7) sc__law_right.nd rfl (by first | exact Or.inl rfl | exact Or.inr rfl)) (pgs_cons (pg_name (i := 8) sc__law_right.nd rfl (by first | exact Or.inl rfl | exact Or.inr rfl)) (pgs_cons (pg_name (i := 9) sc__law_right.nd rfl (by first | exact Or.inl rfl | exact Or.inr rfl)) pgs_nil))))) (pss_cons (ps_set (i := 10) sc__law_right.nd rfl (by first | exact Or.inl rfl | exact Or.inr rfl) (pe_make M_Network G_Networku_initu (hr.mono (by decide)) rfl T.m_Network b_Networku_initu .nil pass0 (pa_cons (pv 1) (pa_cons (pv 7) (pa_cons (pe_callTy (call_tupK K rfl) (by rfl) T.n_tuple (by decide +kernel) (pa_cons (pe_lc (own := [("here", 11), ("there", 12)]) (g := gTup K 2 (gCons (gName 11) (gCons (gName 12) gNil))) rfl sc__law_right.nd (pi_zipGK K (by rfl) T.n_zip (pa_cons (pv 8) (pa_cons (pv 9) pa_nil))) (blkOk_by (own := [("here", 11), ("there", 12)]) (N := ["vat", "inputs", "one", "other", "left", "right", "number", "layers", "first", "second", "both", "here", "there", "unit", "weight", "row", "told", "network"]) (sc := (defScope s__law_right)) (by decide +kernel)) (fun _ _ _ _ _ => (pg_tup rfl (pgs_cons (pg_name (i := 11) sc__law_right.nd rfl (by first | exact Or.inl rfl | exact Or.inr rfl)) (pgs_cons (pg_name (i := 12) sc__law_right.nd rfl (by first | exact Or.inl rfl | exact Or.inr rfl)) pgs_nil)))) (fun _ _ _ _ _ => pts_nil) (fun _ _ _ _ _ => (pe_op op_add (pv 11) (pv 12)))) pa_nil)) pa_nil))))) (pss_cons (ps_set (i := 13) sc__law_right.nd rfl (by first | exact Or.inl rfl | exact Or.inr rfl) (pe_callTy (call_tupK K rfl) (by rfl) T.n_tuple (by decide +kernel) (pa_cons (pe_lc (own := [("here", 11), ("there", 12)]) (g := gTup K 2 (gCons (gName 11) (gCons (gName 12) gNil))) rfl sc__law_right.nd (pi_zipGK K (by rfl) T.n_zip (pa_cons (pv 8) (pa_cons (pv 9) pa_nil))) (blkOk_by (own := [("here", 11), ("there", 12)]) (N := ["vat", "inputs", "one", "other", "left", "right", "number", "layers", "first", "second", "both", "here", "there", "unit", "weight", "row", "told", "network"]) (sc := (defScope s__law_right)) (by decide +kernel)) (fun _ _ _ _ _ => (pg_tup rfl (pgs_cons (pg_name (i := 11) sc__law_right.nd rfl (by first | exact Or.inl rfl | exact Or.inr rfl)) (pgs_cons (pg_name (i := 12) sc__law_right.nd rfl (by first | exact Or.inl rfl | exact Or.inr rfl)) pgs_nil)))) (fun _ _ _ _ _ => pts_nil) (fun _ _ _ _ _ => (pe_op op_sub (pv 11) (pv 12)))) pa_nil))) (pss_cons (ps_if (PW.pt (pw_or (pt_cmpR (RwT.op_ownNe OW (hr.mono (by decide)) G_Networku_equ b_Networku_equ pass0) (pe_call G_added (hr.mono (by decide)) rfl T.m_added T.k_added b_added .nil pass0 (pa_cons (pv 4) (pa_cons (pv 5) pa_nil))) (pv 10) (nomark _)) (pw_or1 (pt_cmpR op_ne (pe_fld (pe_call G_added (hr.mono (by decide)) rfl T.m_added T.k_added b_added .nil pass0 (pa_cons (pv 4) (pa_cons (pv 5) pa_nil))) rfl) (pe_callB (call_max2D rfl) (by rfl) T.n_max (by decide +kernel) (pa_cons (pe_fld (pv 4) rfl) (pa_cons (pe_fld (pv 5) rfl) pa_nil))) (nomark _))))) (pss_one (ps_ret pe_bl)) pss_nil) (pss_cons (ps_if (pt_cmpR (RwT.op_ownNe OW (hr.mono (by decide)) G_Networku_equ b_Networku_equ pass0) (pe_call G_multiplied (hr.mono (by decide)) rfl T.m_multiplied T.k_multiplied b_multiplied .nil pass0 (pa_cons (pv 4) (pa_cons (pv 6) pa_nil))) (pe_make M_Network G_Networku_initu (hr.mono (by decide)) rfl T.m_Network b_Networku_initu .nil pass0 (pa_cons (pv 1) (pa_cons (pe_ix (ix_seqK K) (pv 2) pe_int (fun _ _ => rfl)) (pa_cons (pe_callTy (call_tupK K rfl) (by rfl) T.n_tuple (by decide +kernel) (pa_cons (pe_lc (own := [("weight", 14)]) rfl sc__law_right.nd (pi_seqK K (pe_ix (ix_seqK K) (pv 2) pe_int (fun _ _ => rfl))) (blkOk_by (own := [("weight", 14)]) (N := ["vat", "inputs", "one", "other", "left", "right", "number", "layers", "first", "second", "both", "here", "there", "unit", "weight", "row", "told", "network"]) (sc := (defScope s__law_right)) (by decide +kernel)) (fun _ _ _ _ _ => (pg_name (i := 14) sc__law_right.nd rfl (by first | exact Or.inl rfl | exact Or.inr rfl))) (fun _ _ _ _ _ => pts_nil) (fun _ _ _ _ _ => (pe_op op_mulW (pv 6) (pv 14)))) pa_nil)) pa_nil)))) (nomark _)) (pss_one (ps_ret pe_bl)) pss_nil) (pss_cons (ps_if (pt_cmpR (RwT.op_ownNe OW (hr.mono (by decide)) G_Networku_equ b_Networku_equ pass0) (pe_call G_ramped (hr.mono (by decide)) rfl T.m_ramped T.k_ramped b_ramped .nil pass0 (pa_cons (pv 4) pa_nil)) (pe_make M_Network G_Networku_initu (hr.mono (by decide)) rfl T.m_Network b_Networku_initu .nil pass0 (pa_cons (pv 1) (pa_cons (pe_op op_catA (pe_ix (ix_seqK K) (pv 2) pe_int (fun _ _ => rfl)) (pe_tup (pa_cons (pe_tup (pa_cons (pe_ix (ix_seqK K) (pv 2) pe_int (fun _ _ => rfl)) pa_nil)) pa_nil))) (pa_cons (pe_op op_catA (pe_op RwT.op_repA (pe_tup (pa_cons pe_int pa_nil)) (pe_callB (call_lenK K) (by rfl) T.n_len (by decide +kernel) (pa_cons (pe_ix (ix_seqK K) (pv 2) pe_int (fun _ _ => rfl)) pa_nil))) (pe_tup (pa_cons pe_int pa_nil))) pa_nil)))) (nomark _)) (pss_one (ps_ret pe_bl)) pss_nil) (pss_cons (ps_if (pt_cmpR (RwT.op_ownNe OW (hr.mono (by decide)) G_Networku_equ b_Networku_equ pass0) (pe_call G_greater (hr.mono (by decide)) rfl T.m_greater T.k_greater b_greater .nil pass0 (pa_cons (pv 4) (pa_cons (pv 5) pa_nil))) (pe_make M_Network G_Networku_initu (hr.mono (by decide)) rfl T.m_Network b_Networku_initu .nil pass0 (pa_cons (pv 1) (pa_cons (pe_op op_catA (pv 7) (pe_tup (pa_cons (pe_tup (pa_cons (pv 13) pa_nil)) pa_nil))) (pa_cons (pe_op op_catA (pv 9) (pe_tup (pa_cons pe_int pa_nil))) pa_nil)))) (nomark _)) (pss_one (ps_ret pe_bl)) pss_nil) (pss_cons (ps_for PassesOwn.never rfl (pi_seqK K (pe_call G__law_rows (hr.mono (by decide)) rfl T.m__law_rows T.k__law_rows b__law_rows .nil pass0 (pa_cons (pv 0) (pa_cons (pv 1) (pa_cons pe_int pa_nil))))) (pg_name (i := 15) sc__law_right.nd rfl (by first | exact Or.inl rfl | exact Or.inr rfl)) (pss_cons (ps_par (i := 11) (j := 12) rfl sc__law_right.nd rfl rfl (by decide) rfl rfl (pa_cons (pe_call G__law_value (hr.mono (by decide)) rfl T.m__law_value T.k__law_value b__law_value .nil pass0 (pa_cons (pe_ix (ix_seqK K) (pv 2) pe_int (fun _ _ => rfl)) (pa_cons (pe_ix (ix_seqK K) (pv 2) pe_int (fun _ _ => rfl)) (pa_cons (pe_ix (ix_seqK K) (pv 2) pe_int (fun _ _ => rfl)) (pa_cons (pv 15) pa_nil))))) (pa_cons (pe_call G__law_value (hr.mono (by decide)) rfl T.m__law_value T.k__law_value b__law_value .nil pass0 (pa_cons (pe_ix (ix_seqK K) (pv 3) pe_int (fun _ _ => rfl)) (pa_cons (pe_ix (ix_seqK K) (pv 3) pe_int (fun _ _ => rfl)) (pa_cons (pe_ix (ix_seqK K) (pv 3) pe_int (fun _ _ => rfl)) (pa_cons (pv 15) pa_nil))))) pa_nil)) (by rfl)) (pss_cons (ps_setLc (own := [("network", 17)]) (i := 16) rfl sc__law_right.nd rfl rfl (sw_true rfl rfl rfl (by decide +kernel)) (pi_seqK K (pe_tup (pa_cons (pe_call G_added (hr.mono (by decide)) rfl T.m_added T.k_added b_added .nil pass0 (pa_cons (pv 4) (pa_cons (pv 5) pa_nil))) (pa_cons (pe_call G_multiplied (hr.mono (by decide)) rfl T.m_multiplied T.k_multiplied b_multiplied .nil pass0 (pa_cons (pv 4) (pa_cons (pv 6) pa_nil))) (pa_cons (pe_call G_ramped (hr.mono (by decide)) rfl T.m_ramped T.k_ramped b_ramped .nil pass0 (pa_cons (pv 5) pa_nil)) (pa_cons (pe_call G_greater (hr.mono (by decide)) rfl T.m_greater T.k_greater b_greater .nil pass0 (pa_cons (pv 4) (pa_cons (pv 5) pa_nil))) pa_nil)))))) (blkOk_by (own := [("network", 17)]) (N := ["vat", "inputs", "one", "other", "left", "right", "number", "layers", "first", "second", "both", "here", "there", "unit", "weight", "row", "told", "network"]) (sc := (defScope s__law_right)) (by decide +kernel)) (fun _ _ _ _ _ => (pg_name (i := 17) sc__law_right.nd rfl (by first | exact Or.inl rfl | exact Or.inr rfl))) (fun _ _ _ _ _ => pts_nil) (fun _ _ _ _ _ => (pe_call G_value_of (hr.mono (by decide)) rfl T.m_value_of T.k_value_of b_value_of .nil pass0 (pa_cons (pv 17) (pa_cons (pv 15) pa_nil))))) (pss_one (ps_if (pt_cmpR (op_neDK K hr.units) (pv 16) (pe_lst (pa_cons (pe_op op_add (pv 11) (pv 12)) (pa_cons (pe_op op_mulW (pv 6) (pv 11)) (pa_cons (pe_callB (call_max2D rfl) (by rfl) T.n_max (by decide +kernel) (pa_cons pe_int (pa_cons (pv 12) pa_nil))) (pa_cons (pe_callB (call_max2D rfl) (by rfl) T.n_max (by decide +kernel) (pa_cons (pv 11) (pa_cons (pv 12) pa_nil))) pa_nil))))) (nomark _)) (pss_one (ps_ret pe_bl)) pss_nil))))) (pss_one (ps_ret pe_bl)))))))))))))), sp_body h fun ss S r S' hg => ?_⟩)
  · obtain ⟨i, n, rfl, _⟩ := hg; rfl
  · obtain ⟨k, v, rfl, hk, rfl, rfl⟩ := hg
    have hkl : k < S.length := (List.getElem?_eq_some_iff.mp hk).1
    obtain ⟨hn, n1, n4⟩ := n_ok v
    obtain ⟨hd1, d13⟩ := d_ok (v1F v)
    obtain ⟨hd2, d23⟩ := d_ok (v3F v)
    obtain ⟨c1, c2⟩ := c_ok v
    have s1 : Sml (nF v) (P1 v).1.1 (P1 v).1.2 := parts_ok _ n1 n4 d13
    have s2 : Sml (nF v) (P2 v).1.1 (P2 v).1.2 := parts_ok _ n1 n4 d23
    refine sp_set (x := .d (.int (nF v))) (S1 := S.set k (vatD (v1F v))) ((ev_op ev_int (ev_call (ea_cons (ev_var rfl) (ea_cons ev_int ea_nil)) ⟨k, v, 4, rfl, hk, by omega, by omega, rfl, rfl⟩) o_add).to (by rw [hn])) ?_
    refine sp_set (x := .d (netT (nF v) (P1 v).1.1 (P1 v).1.2)) (S1 := S.set k (vatD (v3F v))) ((ev_op (ev_tup (ds := [.int (nF v)]) (ea_cons (ev_var rfl) ea_nil) (by show 1 ≤ sizeLine; decide)) (ev_call (ea_cons (ev_var rfl) (ea_cons (ev_var rfl) (ea_cons ((ev_call (S2 := S.set k (vatD (drawF (v1F v) 4).2)) (ea_cons (ev_var rfl) (ea_cons ev_int ea_nil)) ⟨k, v1F v, 4, rfl, set_get hk, by omega, by omega, rfl, by rw [List.set_set]⟩).to (r' := .d (.int ((dF (v1F v) : Nat) : Int))) (by rw [hd1])) (ea_cons ev_int (ea_cons ev_int ea_nil))))) ⟨3, 5, k, (drawF (v1F v) 4).2, nF v, dF (v1F v), rfl, set_get hk, by omega, by omega, by decide, by decide, by decide, by decide, rfl, by rw [List.set_set]; rfl⟩) (op2_catT (by show 3 ≤ sizeLine; decide))).to rfl) ?_
    refine sp_set (x := .d (netT (nF v) (P2 v).1.1 (P2 v).1.2)) (S1 := S.set k (vatD (v5F v))) ((ev_op (ev_tup (ds := [.int (nF v)]) (ea_cons (ev_var rfl) ea_nil) (by show 1 ≤ sizeLine; decide)) (ev_call (ea_cons (ev_var rfl) (ea_cons (ev_var rfl) (ea_cons ((ev_call (S2 := S.set k (vatD (drawF (v3F v) 4).2)) (ea_cons (ev_var rfl) (ea_cons ev_int ea_nil)) ⟨k, v3F v, 4, rfl, set_get hk, by omega, by omega, rfl, by rw [List.set_set]⟩).to (r' := .d (.int ((dF (v3F v) : Nat) : Int))) (by rw [hd2])) (ea_cons ev_int (ea_cons ev_int ea_nil))))) ⟨3, 5, k, (drawF (v3F v) 4).2, nF v, dF (v3F v), rfl, set_get hk, by omega, by omega, by decide, by decide, by decide, by decide, rfl, by rw [List.set_set]; rfl⟩) (op2_catT (by show 3 ≤ sizeLine; decide))).to rfl) ?_
    have hrows := RF_ok (nF v) (v6F v) 6
    have e7 : S.set k (vatD (v7F v)) = S.set k (vatD (RF (nF v) (v6F v) 6).2) := rfl
    rw [e7]
    clear e7 hn hd1 d13 hd2 d23
    generalize hv6 : v6F v = v6 at hrows ⊢
    generalize hcc : cF v = c at c1 c2
    generalize hnn : nF v = n at n1 n4 s1 s2 hrows ⊢
    generalize (P1 v).1.1 = L1 at s1 ⊢
    generalize (P1 v).1.2 = l1 at s1 ⊢
    generalize (P2 v).1.1 = L2 at s2 ⊢
    generalize (P2 v).1.2 = l2 at s2 ⊢
    have hw1 := s1.wf
    have hw2 := s2.wf
    obtain ⟨d, hd⟩ : ∃ d, max L1.length L2.length = d := ⟨_, rfl⟩
    have hwA := add_ok s1 s2 hd
    have hwG := gr_ok s1 s2 hd
    have hwM := s1.mul c1 c2
    have hwR1 := s1.ramp
    have hwR2 := s2.ramp
    have hcS : Sh c := by unfold Sh; omega
    have hval : ∀ row : List Int, row.length = n → dot (lastB true n L1 L2 d l1) (vals (both n L1 L2 d) row) = dot l1 (vals L1 row) ∧ dot (lastB false n L1 L2 d l2) (vals (both n L1 L2 d) row) = dot l2 (vals L2 row) := fun row hr => side_value hw1 hw2 hr hd
    have hlA : (lastB true n L1 L2 d l1).length = n + (both n L1 L2 d).flatten.length := lastB_len ..
    have hlB : (lastB false n L1 L2 d l2).length = n + (both n L1 L2 d).flatten.length := lastB_len ..
    obtain ⟨b1, b2, b3⟩ := both_ok s1 s2 hd
    have hu1 := s1.u9
    have hu2 := s2.u9
    have hl3 := s1.l3
    have hla1 := hw1.la.1
    have hla2 := hw2.la.1
    have hAdd : ∀ {env : Env1} {S : List Dat}, env[4]? = some (some (.d (netD T.C n L1 l1))) → env[5]? = some (some (.d (netD T.C n L2 l2))) → Ev K (tCall (SpD K (gAdd T.C)) [] E0 (tCons (tVar 4) (tCons (tVar 5) tNil))) env S (.d (netD T.C n (both n L1 L2 d) (addR (lastB true n L1 L2 d l1) (lastB false n L1 L2 d l2)))) S := fun h4 h5 => ev_call (ea_cons (ev_var h4) (ea_cons (ev_var h5) ea_nil)) ⟨n, L1, L2, l1, l2, d, rfl, hw1, hw2, hd, hwA, rfl, rfl⟩
    have hGr : ∀ {env : Env1} {S : List Dat}, env[4]? = some (some (.d (netD T.C n L1 l1))) → env[5]? = some (some (.d (netD T.C n L2 l2))) → Ev K (tCall (SpD K (gGr T.C)) [] E0 (tCons (tVar 4) (tCons (tVar 5) tNil))) env S (.d (netD T.C n (rampL (both n L1 L2 d) (subR (lastB true n L1 L2 d l1) (lastB false n L1 L2 d l2))) (lastB false n L1 L2 d l2 ++ [1]))) S := fun h4 h5 => ev_call (ea_cons (ev_var h4) (ea_cons (ev_var h5) ea_nil)) ⟨n, L1, L2, l1, l2, d, rfl, hw1, hw2, hd, hwG, rfl, rfl⟩
    have hBes : ∀ {env : Env1} {S : List Dat}, env[2]? = some (some (.d (netT n L1 l1))) → env[3]? = some (some (.d (netT n L2 l2))) → Ev K (tCall (SpD K gBeside) [] E0 (tCons (tVar 2) (tCons (tVar 3) tNil))) env S (.d (.tup [laysD (both n L1 L2 d), rowD (lastB true n L1 L2 d l1), rowD (lastB false n L1 L2 d l2)])) S := fun h4 h5 => ev_call (ea_cons (ev_var h4) (ea_cons (ev_var h5) ea_nil)) ⟨n, L1, L2, l1, l2, d, rfl, hw1, hw2, hd, rfl, rfl⟩
    have hbl := both_len n L1 L2 d
    generalize both n L1 L2 d = X at *
    generalize lastB true n L1 L2 d l1 = A at *
    generalize lastB false n L1 L2 d l2 = B at *
    have hMul : ∀ {env : Env1} {S : List Dat}, env[4]? = some (some (.d (netD T.C n L1 l1))) → env[6]? = some (some (.d (.int c))) → Ev K (tCall (SpD K (gMul T.C)) [] E0 (tCons (tVar 4) (tCons (tVar 6) tNil))) env S (.d (netD T.C n L1 (l1.map fun x => c * x))) S := fun h4 h6 => ev_call (ea_cons (ev_var h4) (ea_cons (ev_var h6) ea_nil)) ⟨n, L1, l1, c, rfl, hw1, hcS, hwM, rfl, rfl⟩
    have hR1 : ∀ {env : Env1} {S : List Dat}, env[4]? = some (some (.d (netD T.C n L1 l1))) → Ev K (tCall (SpD K (gRamp T.C)) [] E0 (tCons (tVar 4) tNil)) env S (.d (netD T.C n (rampL L1 l1) (List.replicate l1.length 0 ++ [1]))) S := fun h4 => ev_call (ea_cons (ev_var h4) ea_nil) ⟨n, L1, l1, rfl, hw1, hwR1, rfl, rfl⟩
    have hR2 : ∀ {env : Env1} {S : List Dat}, env[5]? = some (some (.d (netD T.C n L2 l2))) → Ev K (tCall (SpD K (gRamp T.C)) [] E0 (tCons (tVar 5) tNil)) env S (.d (netD T.C n (rampL L2 l2) (List.replicate l2.length 0 ++ [1]))) S := fun h4 => ev_call (ea_cons (ev_var h4) ea_nil) ⟨n, L2, l2, rfl, hw2, hwR2, rfl, rfl⟩
    have hIx : ∀ {env : Env1} {S : List Dat} {j : Nat} {L : Lays} {l : List Int}, env[j]? = some (some (.d (netT n L l))) → Ev K (tOp (rIx K) (tVar j) (tC (.int 0))) env S (.d (.int n)) S ∧ Ev K (tOp (rIx K) (tVar j) (tC (.int 1))) env S (.d (laysD L)) S ∧ Ev K (tOp (rIx K) (tVar j) (tC (.int 2))) env S (.d (rowD l)) S := fun h => ⟨ev_op (ev_var h) ev_int (op2_ix .tup rfl), ev_op (ev_var h) ev_int (op2_ix .tup rfl), ev_op (ev_var h) ev_int (op2_ix .tup rfl)⟩
    have hMake : ∀ {env : Env1} {S : List Dat} {t1 t2 t3 : TE} {L : Lays} {l : List Int}, Ev K t1 env S (.d (.int n)) S → Ev K t2 env S (.d (laysD L)) S → Ev K t3 env S (.d (rowD l)) S → Wf n L l → Ev K (tMake T.C (SpD K (gInit T.C)) [] E0 (tCons t1 (tCons t2 (tCons t3 tNil)))) env S (.d (netD T.C n L l)) S := fun h1 h2 h3 hw => ev_make (ea_cons h1 (ea_cons h2 (ea_cons h3 ea_nil))) ⟨_, n, _, _, rfl, sg_last, hw, rfl, sg_set.symm⟩ rfl
    refine sp_asg (d := .tup [netD T.C n L1 l1, netD T.C n L2 l2, .int c]) (S1 := S.set k (vatD v6)) (ev_tup (ds := [netD T.C n L1 l1, netD T.C n L2 l2, .int c]) (ea_cons (S1 := S.set k (vatD (v5F v))) (hMake (hIx rfl).1 (hIx rfl).2.1 (hIx rfl).2.2 hw1) (ea_cons (S1 := S.set k (vatD (v5F v))) (hMake (hIx rfl).1 (hIx rfl).2.1 (hIx rfl).2.2 hw2) (ea_cons (S1 := S.set k (vatD v6)) ((ev_call (S2 := S.set k (vatD v6)) (ea_cons (ev_var rfl) (ea_cons (EvN.ev (en_lst (ds := nums.map Dat.int) (ea_cons ev_int (ea_cons ev_int (ea_cons (ev_un ev_int o_neg) (ea_cons ev_int (ea_cons (ev_un (ev_op ev_int ev_int (o_powW ⟨by decide, by decide⟩)) o_neg) ea_nil))))) (by show 5 ≤ sizeLine; decide))) ea_nil)) ⟨k, v5F v, nums, rfl, set_get hk, by simp [nums], by decide, rfl, by rw [List.set_set, ← hv6]; rfl⟩).to (by rw [← hcc]; rfl)) ea_nil))) (by show 3 ≤ sizeLine; decide)) tg_three ?_
    refine sp_asg (S1 := S.set k (vatD v6)) (hBes rfl rfl) tg_three ?_
    refine sp_set (x := .d (netD T.C n X (addR A B))) (S1 := S.set k (vatD v6)) (hMake (ev_var rfl) (ev_var rfl) (ev_cb (ea_cons (EvN.ev (en_mapA (xs := A.zip B) (g := fun p => Dat.tup [.int p.1, .int p.2]) (is := [11, 12]) (fun p => Dat.int (p.1 + p.2)) (it_zipA (ea_cons (ev_var rfl) (ea_cons (ev_var rfl) ea_nil)) .tup .tup) (size_1000 (by rw [List.length_zip]; omega)) (fun _ _ => trivial) (by decide) (fun p env => (env.set 11 (some (.d (.int p.1)))).set 12 (some (.d (.int p.2)))) fun a ha => ⟨tg_pair, ev_op (ev_var rfl) (ev_var rfl) o_add⟩)) ea_nil) (cd_tup (by unfold addR; rw [List.map_map]; exact .lst))) hwA) ?_
    refine sp_set (x := .d (rowD (subR A B))) (S1 := S.set k (vatD v6)) (ev_cb (ea_cons (EvN.ev (en_mapA (xs := A.zip B) (g := fun p => Dat.tup [.int p.1, .int p.2]) (is := [11, 12]) (fun p => Dat.int (p.1 - p.2)) (it_zipA (ea_cons (ev_var rfl) (ea_cons (ev_var rfl) ea_nil)) .tup .tup) (size_1000 (by rw [List.length_zip]; omega)) (fun _ _ => trivial) (by decide) (fun p env => (env.set 11 (some (.d (.int p.1)))).set 12 (some (.d (.int p.2)))) fun a ha => ⟨tg_pair, ev_op (ev_var rfl) (ev_var rfl) o_sub⟩)) ea_nil) (cd_tup (by unfold subR; rw [List.map_map]; exact .lst))) ?_
    have hEq : ∀ {L : Lays} {l : List Int} {S : List Dat}, Op2 K (RwT.rOwn T.C (SpD K (gEq T.C)) E0 true) (.d (netD T.C n L l)) (.d (netD T.C n L l)) S (.bl false) := fun {L l S} => o_own (k := true) (.inl ⟨n, n, L, L, l, l, rfl, by simp, rfl⟩)
    refine sp_ifq (b := false) (S1 := S.set k (vatD v6)) (et_orP (a := false) (b := false) (et_test (ev_op (hAdd rfl rfl) (ev_var rfl) hEq)) fun _ => et_test ((ev_op (ev_fld (hAdd rfl rfl) T.cl T.na_depth rfl) (ev_cb (ea_cons (ev_fld (ev_var rfl) T.cl T.na_depth rfl) (ea_cons (ev_fld (ev_var rfl) T.cl T.na_depth rfl) ea_nil)) cd_max2) op2_ne_int).to ?_)) (fun h => by cases h) fun _ => sp_nextq ?_
    · have : ((X.length : Nat) : Int) = max ((L1.length : Nat) : Int) ((L2.length : Nat) : Int) := by omega
      rw [decide_eq_true this]; rfl
    refine sp_ifq (b := false) (S1 := S.set k (vatD v6)) (et_test (ev_op (hMul rfl rfl) (hMake (ev_var rfl) (hIx rfl).2.1 (ev_cb (ea_cons (EvN.ev (en_mapA (xs := l1) (g := Dat.int) (is := [14]) (fun x => Dat.int (c * x)) (it_tup (hIx rfl).2.2) (size_1000 (by omega)) (fun _ _ => trivial) (by decide) (fun x env => env.set 14 (some (.d (.int x)))) fun x hx => ⟨tg_name, ev_op (ev_var rfl) (ev_var rfl) (o_mulW (cmw hcS (hw1.la.2 x hx).bits (by decide)))⟩)) ea_nil) (cd_tup (by rw [List.map_map]; exact .lst))) hwM) hEq)) (fun h => by cases h) fun _ => sp_nextq ?_
    refine sp_ifq (b := false) (S1 := S.set k (vatD v6)) (et_test (ev_op (hR1 rfl) (hMake (ev_var rfl) ((ev_op (hIx rfl).2.1 (ev_tup (ds := [layD [l1]]) (ea_cons (ev_tup (ds := [rowD l1]) (ea_cons (hIx rfl).2.2 ea_nil) (by show 1 ≤ sizeLine; decide)) ea_nil) (by show 1 ≤ sizeLine; decide)) (op2_catT ?_)).to (r' := .d (laysD (rampL L1 l1))) ?_) ((ev_op ((ev_op (ev_tup (ds := [Dat.int 0]) (ea_cons ev_int ea_nil) (by show 1 ≤ sizeLine; decide)) ((ev_cb (ea_cons (hIx rfl).2.2 ea_nil) (cd_len .tup)).to (r' := .d (.int (l1.length : Nat))) (by rw [List.length_map])) (o_repA (by simp) (by omega) (by omega) (by show 1 ≤ 1000; decide))).to (r' := .d (.tup ((List.replicate l1.length (0 : Int)).map Dat.int))) (by rw [Int.toNat_natCast, rep_flatP, ← List.map_replicate])) (ev_tup (ds := [Dat.int 1]) (ea_cons ev_int ea_nil) (by show 1 ≤ sizeLine; decide)) (op2_catT ?_)).to (r' := .d (rowD (List.replicate l1.length 0 ++ [1]))) ?_) hwR1) hEq)) (fun h => by cases h) fun _ => sp_nextq ?_
    · rw [List.length_map]; exact size_1000 (by show L1.length + 1 ≤ 1000; omega)
    · unfold rampL laysD; rw [List.map_append]; rfl
    · rw [List.length_map, List.length_replicate]; exact size_1000 (by show l1.length + 1 ≤ 1000; omega)
    · unfold rowD; rw [List.map_append]; rfl
    refine sp_ifq (b := false) (S1 := S.set k (vatD v6)) (et_test (ev_op (hGr rfl rfl) (hMake (ev_var rfl) ((ev_op (ev_var rfl) (ev_tup (ds := [layD [subR A B]]) (ea_cons (ev_tup (ds := [rowD (subR A B)]) (ea_cons (ev_var rfl) ea_nil) (by show 1 ≤ sizeLine; decide)) ea_nil) (by show 1 ≤ sizeLine; decide)) (op2_catT ?_)).to (r' := .d (laysD (rampL X (subR A B)))) ?_) ((ev_op (ev_var rfl) (ev_tup (ds := [Dat.int 1]) (ea_cons ev_int ea_nil) (by show 1 ≤ sizeLine; decide)) (op2_catT ?_)).to (r' := .d (rowD (B ++ [1]))) ?_) hwG) hEq)) (fun h => by cases h) fun _ => sp_nextq ?_
    · rw [List.length_map]; exact size_1000 (by show X.length + 1 ≤ 1000; omega)
    · unfold rampL laysD; rw [List.map_append]; rfl
    · rw [List.length_map]; exact size_1000 (by show B.length + 1 ≤ 1000; omega)
    · unfold rowD; rw [List.map_append]; rfl
    obtain ⟨R, hR⟩ : ∃ R, RF n v6 6 = R := ⟨_, rfl⟩
    rw [hR] at hrows ⊢
    have hrowsL : R.1.length = 7 := hrows.1
    refine sp_seq (P' := { nx := fun env' S2 => S2 = S.set k (vatD R.2) })
      (sp_forA (xs := R.1) (g := rowD) (S1 := S.set k (vatD R.2)) (it_lst (ev_call (S2 := S.set k (vatD R.2)) (ea_cons (ev_var rfl) (ea_cons (ev_var rfl) (ea_cons ev_int ea_nil))) ⟨k, v6, n, 6, rfl, by omega, set_get hk, n1, by omega, by rw [hR], by rw [hR, List.set_set]⟩)) (fun i env' S2 => S2 = S.set k (vatD R.2) ∧ ∃ o11 o12 o15 o16, env' = [some (.c k), some (.d (.int n)), some (.d (netT n L1 l1)), some (.d (netT n L2 l2)), some (.d (netD T.C n L1 l1)), some (.d (netD T.C n L2 l2)), some (.d (.int c)), some (.d (laysD X)), some (.d (rowD A)), some (.d (rowD B)), some (.d (netD T.C n X (addR A B))), o11, o12, some (.d (rowD (subR A B))), none, o15, o16, none]) ⟨rfl, none, none, none, none, rfl⟩ (fun _ _ _ _ _ _ _ _ _ => trivial) ?_ ?_) ?_
    · rintro i row env' S2 hr ⟨rfl, o11, o12, o15, o16, rfl⟩
      have hrw := hrows.2 row (List.mem_of_getElem? hr)
      obtain ⟨va, vb⟩ := hval row hrw.1
      obtain ⟨S0, hS0⟩ : ∃ S0, S.set k (vatD R.2) = S0 := ⟨_, rfl⟩
      rw [hS0]
      obtain ⟨hA, hhA⟩ : ∃ x, dot l1 (vals L1 row) = x := ⟨_, rfl⟩
      obtain ⟨hB, hhB⟩ : ∃ x, dot l2 (vals L2 row) = x := ⟨_, rfl⟩
      have hvX : (vals X row).length = n + X.flatten.length := by rw [vals_len, hrw.1]
      have hv2 : (vals L2 row).length = n + L2.flatten.length := by rw [vals_len, hrw.1]
      have e1 : dot (addR A B) (vals X row) = hA + hB := by rw [dot_add _ _ _ (by omega), va, vb, hhA, hhB]
      have e2 : dot (l1.map fun x => c * x) (vals L1 row) = c * hA := by rw [dot_cmul, hhA]
      have e3 : dot (List.replicate l2.length 0 ++ [1]) (vals (rampL L2 l2) row) = max 0 hB := by rw [ramp_value (by rw [List.length_replicate]; omega), dot_reps, hhB]; omega
      have e4 : dot (B ++ [1]) (vals (rampL X (subR A B)) row) = max hA hB := by rw [ramp_value (by omega), dot_sub _ _ _ (by omega), va, vb, hhA, hhB]; omega
      have hbig := hw1.big hrw L1.length
      rw [List.take_length] at hbig
      have hcm : CMulW c hA := by
        rw [← hhA]
        exact cmw hcS (dot_big hw1.la.2 hbig (by rw [hla1]; omega)) (by decide)
      refine ⟨[15], fun env => env.set 15 (some (.d (rowD row))), tg_name, ?_⟩
      refine sp_par (x := .d (.int hA)) (y := .d (.int hB)) (S1 := S0) (ea_cons (S1 := S0) ((ev_call (ea_cons (hIx rfl).1 (ea_cons (hIx rfl).2.1 (ea_cons (hIx rfl).2.2 (ea_cons (ev_var rfl) ea_nil)))) ⟨n, L1, l1, row, rfl, hrw, hw1, rfl, rfl⟩).to (by rw [hhA])) (ea_cons (S1 := S0) ((ev_call (ea_cons (hIx rfl).1 (ea_cons (hIx rfl).2.1 (ea_cons (hIx rfl).2.2 (ea_cons (ev_var rfl) ea_nil)))) ⟨n, L2, l2, row, rfl, hrw, hw2, rfl, rfl⟩).to (by rw [hhB])) ea_nil)) ?_
      have hnets : ∀ q ∈ [(X, addR A B), (L1, l1.map fun x => c * x), (rampL L2 l2, List.replicate l2.length 0 ++ [1]), (rampL X (subR A B), B ++ [1])], Wf n q.1 q.2 := fun q hq => by
        simp only [List.mem_cons, List.mem_nil_iff, or_false] at hq
        rcases hq with rfl | rfl | rfl | rfl
        · exact hwA
        · exact hwM
        · exact hwR2
        · exact hwG
      refine sp_set (x := .d (.lst ([hA + hB, c * hA, max 0 hB, max hA hB].map Dat.int))) (S1 := S0) (EvN.ev (EvN.toD (en_mapA (xs := [(X, addR A B), (L1, l1.map fun x => c * x), (rampL L2 l2, List.replicate l2.length 0 ++ [1]), (rampL X (subR A B), B ++ [1])]) (g := fun q => netD T.C n q.1 q.2) (is := [17]) (fun q => Dat.int (dot q.2 (vals q.1 row))) (it_tup (ev_tup (ds := [netD T.C n X (addR A B), netD T.C n L1 (l1.map fun x => c * x), netD T.C n (rampL L2 l2) (List.replicate l2.length 0 ++ [1]), netD T.C n (rampL X (subR A B)) (B ++ [1])]) (ea_cons (hAdd rfl rfl) (ea_cons (hMul rfl rfl) (ea_cons (hR2 rfl) (ea_cons (hGr rfl rfl) ea_nil)))) (by show 4 ≤ sizeLine; decide))) (by show 4 ≤ sizeLine; decide) (fun _ _ => trivial) (by decide) (fun q env => env.set 17 (some (.d (netD T.C n q.1 q.2)))) fun q hq => ⟨tg_name, ev_call (ea_cons (ev_var rfl) (ea_cons (ev_var rfl) ea_nil)) ⟨n, q.1, q.2, row, rfl, hrw, hnets q hq, rfl, rfl⟩⟩) ?_)) ?_
      · simp only [List.map_cons, List.map_nil]
        rw [e1, e2, e3, e4]
      refine sp_if (b := false) (S1 := S0) (et_test ((ev_op (ev_var rfl) (EvN.ev (en_lst (ds := [hA + hB, c * hA, max 0 hB, max hA hB].map Dat.int) (ea_cons (ev_op (ev_var rfl) (ev_var rfl) o_add) (ea_cons (ev_op (ev_var rfl) (ev_var rfl) (o_mulW hcm)) (ea_cons (ev_cb (ea_cons ev_int (ea_cons (ev_var rfl) ea_nil)) cd_max2) (ea_cons (ev_cb (ea_cons (ev_var rfl) (ea_cons (ev_var rfl) ea_nil)) cd_max2) ea_nil)))) (by show 4 ≤ sizeLine; decide))) (op2_neD (plS_d (pl_ints _)) (plS_d (pl_ints _)) (by decide) (by decide))).to (by rw [eqD_refl (pl_ints _)]; rfl))) (fun h => by cases h) fun _ => sp_next ⟨rfl, _, _, _, _, rfl⟩
    · rintro env' S2 ⟨rfl, o11, o12, o15, o16, rfl⟩
      rfl
    · rintro env' S2 rfl
      exact sp_ret (d := .bl true) ev_bl ⟨rfl, List.take_of_length_le (by simp)⟩
end
end N20

set_option Elab.async false
set_option linter.all false
set_option maxRecDepth 100000
set_option maxHeartbeats 4000000
namespace N20
open PySem PySem.Spec PyProof.Rows L2 RW

theorem sh_of {r : List Int} (h : r.all (fun x => decide (-(2 ^ 64) < x ∧ x < 2 ^ 64)) = true) : ∀ x ∈ r, Sh x := fun x hx => by
  have h5 := List.all_eq_true.mp h x hx
  have h6 : -(2 ^ 64) < x ∧ x < 2 ^ 64 := of_decide_eq_true h5
  unfold Sh
  omega
def wlB : Nat → Lays → Bool
  | _, [] => true
  | w, l :: L => decide (1 ≤ l.length) && decide (l.length ≤ 64) && l.all (fun u => decide (u.length = w) && u.all (fun x => decide (-(2 ^ 64) < x ∧ x < 2 ^ 64))) && wlB (w + l.length) L
theorem wlB_ok : ∀ {L : Lays} {w : Nat}, wlB w L = true → WL w L
  | [], _, _ => trivial
  | l :: L, w, h => by
    unfold wlB at h
    simp only [Bool.and_eq_true, decide_eq_true_eq, List.all_eq_true] at h
    refine ⟨⟨h.1.1.1, h.1.1.2, fun u hu => ⟨(h.1.2 u hu).1, fun x hx => by
      have h5 := (h.1.2 u hu).2 x hx
      have h6 : -(2 ^ 64) < x ∧ x < 2 ^ 64 := by first | exact h5 | exact of_decide_eq_true h5 | simpa using h5
      unfold Sh
      omega⟩⟩, wlB_ok h.2⟩
theorem rw_of {r : List Int} {n : Nat} (h1 : r.length = n) (h : r.all (fun x => decide (-(2 ^ 64) < x ∧ x < 2 ^ 64)) = true) : Rw r n := ⟨h1, sh_of h⟩
def oneR : List Int := [1, 0]
def oL : Lays := [[[0, 1]]]
def oR : List Int := [0, 0, 2]
def gL : Lays := [[[0, 1]], [[1, 0, -2]]]
def gR : List Int := [0, 0, 2, 1]
def tL : Lays := [[[0, 1], [0, 1]], [[0, 0, 0, 2]]]
def tR : List Int := [0, 0, 2, 0, 1]
def hL : Lays := [[[0, 1], [0, 1]], [[0, 0, 2, -2]]]
def hR : List Int := [0, 0, 0, 2, 1]
def rL : Lays := [[[0, 1]], [[0, 0, 2]]]
def rR : List Int := [0, 0, 0, 1]
theorem e_g1 : rampL (both 2 [] oL 1) (subR (lastB true 2 [] oL 1 oneR) (lastB false 2 [] oL 1 oR)) = gL := by decide +kernel
theorem e_g2 : lastB false 2 [] oL 1 oR ++ [1] = gR := by decide +kernel
theorem e_t1 : both 2 oL rL 2 = tL := by decide +kernel
theorem e_t2 : addR (lastB true 2 oL rL 2 oR) (lastB false 2 oL rL 2 rR) = tR := by decide +kernel
theorem e_h1 : rampL (both 2 oL oL 1) (subR (lastB true 2 oL oL 1 oR) (lastB false 2 oL oL 1 oR)) = hL := by decide +kernel
theorem e_h2 : lastB false 2 oL oL 1 oR ++ [1] = hR := by decide +kernel
theorem e_r1 : rampL oL oR = rL := by decide +kernel
theorem e_r2 : List.replicate oR.length 0 ++ [1] = rR := by decide +kernel
theorem ok_one : Wf 2 [] oneR := ⟨by decide, by decide, by decide, trivial, by decide, rw_of (by decide) (by decide)⟩
theorem ok_o : Wf 2 oL oR := ⟨by decide, by decide, by decide, wlB_ok (by decide), by decide, rw_of (by decide) (by decide)⟩
theorem ok_g : Wf 2 gL gR := ⟨by decide, by decide, by decide, wlB_ok (by decide), by decide, rw_of (by decide) (by decide)⟩
theorem ok_t : Wf 2 tL tR := ⟨by decide, by decide, by decide, wlB_ok (by decide), by decide, rw_of (by decide) (by decide)⟩
theorem ok_h : Wf 2 hL hR := ⟨by decide, by decide, by decide, wlB_ok (by decide), by decide, rw_of (by decide) (by decide)⟩
theorem ok_r : Wf 2 rL rR := ⟨by decide, by decide, by decide, wlB_ok (by decide), by decide, rw_of (by decide) (by decide)⟩
theorem val_g : dot gR (vals gL [3, 1]) = 3 := by decide +kernel
theorem val_h : dot hR (vals hL [5, 7]) = 14 := by decide +kernel
def gLaw (ss : List Sl) (S : List Dat) (r : Dat) (S' : List Dat) : Prop := ∃ (ns : List Int), ss = [.d (.scr ns)] ∧ ns.length ≤ 63 ∧ r = .bl true ∧ S = [] ∧ S' = []
section
variable {P : Program} {w : World} {K : PySem.W.Frag} {mg : Str → Option Value} {base : Heap}

theorem ok_law (T : Txt K mg) : FnOk P w K mg base CX0 10 T.a_law T.d_law ["script"] (SpD K (gLaw)) := by
  have G__law_vat := ok__law_vat (P := P) (w := w) (base := base) T
  have b__law_vat := T.b__law_vat
  have G__law_right := ok__law_right (P := P) (w := w) (base := base) T
  have b__law_right := T.b__law_right
  have G_Networku_initu := ok_Networku_initu (P := P) (w := w) (base := base) T
  have b_Networku_initu := T.b_Networku_initu
  have G_greater := ok_greater (P := P) (w := w) (base := base) T
  have b_greater := T.b_greater
  have G_value_of := ok_value_of (P := P) (w := w) (base := base) T
  have b_value_of := T.b_value_of
  have G_added := ok_added (P := P) (w := w) (base := base) T
  have b_added := T.b_added
  have G_ramped := ok_ramped (P := P) (w := w) (base := base) T
  have b_ramped := T.b_ramped
  have M_Network := T.M_Network
  refine T.F_law.ok sc_law (spd_len (k := 1) fun ss S r S' hg => ?_) (fun cdv A outer s H vs Q E hr h => ⟨_, (pss_cons (ps_for PassesOwn.never rfl (pi_range1 (by rfl) T.n_range (pa_cons (pe_callB (call_max2D rfl) (by rfl) T.n_max (by decide +kernel) (pa_cons pe_int (pa_cons (pe_callB (call_min2D rfl) (by rfl) T.n_min (by decide +kernel) (pa_cons pe_int (pa_cons (pe_callB (call_lenK K) (by rfl) T.n_len (by decide +kernel) (pa_cons (pv 0) pa_nil)) pa_nil))) pa_nil))) pa_nil)) (pg_name (i := 1) sc_law.nd rfl (by first | exact Or.inl rfl | exact Or.inr rfl)) (pss_cons (ps_set (i := 2) sc_law.nd rfl (by first | exact Or.inl rfl | exact Or.inr rfl) (pe_call G__law_vat (hr.mono (by decide)) rfl T.m__law_vat T.k__law_vat b__law_vat .nil pass0 (pa_cons (pv 0) (pa_cons (pv 1) pa_nil)))) (pss_one (ps_for PassesOwn.never rfl (pi_range1 (by rfl) T.n_range (pa_cons pe_int pa_nil)) (pg_name (i := 3) sc_law.nd rfl (by first | exact Or.inl rfl | exact Or.inr rfl)) (pss_one (ps_if (pt_not (pt_truK K (pe_call G__law_right (hr.mono (by decide)) rfl T.m__law_right T.k__law_right b__law_right .nil pass0 (pa_cons (pv 2) pa_nil)))) (pss_one (ps_ret pe_bl)) pss_nil)))))) (pss_cons (ps_par (i := 4) (j := 5) rfl sc_law.nd rfl rfl (by decide) rfl rfl (pa_cons (pe_make M_Network G_Networku_initu (hr.mono (by decide)) rfl T.m_Network b_Networku_initu .nil pass0 (pa_cons pe_int (pa_cons (pe_tup pa_nil) (pa_cons (pe_tup (pa_cons pe_int (pa_cons pe_int pa_nil))) pa_nil)))) (pa_cons (pe_make M_Network G_Networku_initu (hr.mono (by decide)) rfl T.m_Network b_Networku_initu .nil pass0 (pa_cons pe_int (pa_cons (pe_tup (pa_cons (pe_tup (pa_cons (pe_tup (pa_cons pe_int (pa_cons pe_int pa_nil))) pa_nil)) pa_nil)) (pa_cons (pe_tup (pa_cons pe_int (pa_cons pe_int (pa_cons pe_int pa_nil)))) pa_nil)))) pa_nil)) (by rfl)) (pss_cons (ps_set (i := 6) sc_law.nd rfl (by first | exact Or.inl rfl | exact Or.inr rfl) (pe_call G_greater (hr.mono (by decide)) rfl T.m_greater T.k_greater b_greater .nil pass0 (pa_cons (pv 4) (pa_cons (pv 5) pa_nil)))) (pss_cons (ps_if (PW.pt (pw_or (pt_cmpR (op_neDK K hr.units) (pe_fld (pv 6) rfl) (pe_tup (pa_cons (pe_tup (pa_cons (pe_tup (pa_cons pe_int (pa_cons pe_int pa_nil))) pa_nil)) (pa_cons (pe_tup (pa_cons (pe_tup (pa_cons pe_int (pa_cons pe_int (pa_cons (pe_un un_neg pe_int) pa_nil)))) pa_nil)) pa_nil))) (nomark _)) (pw_or (pt_cmpR (op_neDK K hr.units) (pe_fld (pv 6) rfl) (pe_tup (pa_cons pe_int (pa_cons pe_int (pa_cons pe_int (pa_cons pe_int pa_nil))))) (nomark _)) (pw_or1 (pt_cmpR op_ne (pe_call G_value_of (hr.mono (by decide)) rfl T.m_value_of T.k_value_of b_value_of .nil pass0 (pa_cons (pv 6) (pa_cons (pe_tup (pa_cons pe_int (pa_cons pe_int pa_nil))) pa_nil))) pe_int (nomark _)))))) (pss_one (ps_ret pe_bl)) pss_nil) (pss_cons (ps_set (i := 7) sc_law.nd rfl (by first | exact Or.inl rfl | exact Or.inr rfl) (pe_call G_added (hr.mono (by decide)) rfl T.m_added T.k_added b_added .nil pass0 (pa_cons (pv 5) (pa_cons (pe_call G_ramped (hr.mono (by decide)) rfl T.m_ramped T.k_ramped b_ramped .nil pass0 (pa_cons (pv 5) pa_nil)) pa_nil)))) (pss_cons (ps_if (PW.pt (pw_or (pt_cmpR (op_neDK K hr.units) (pe_fld (pv 7) rfl) (pe_tup (pa_cons (pe_tup (pa_cons (pe_tup (pa_cons pe_int (pa_cons pe_int pa_nil))) (pa_cons (pe_tup (pa_cons pe_int (pa_cons pe_int pa_nil))) pa_nil))) (pa_cons (pe_tup (pa_cons (pe_tup (pa_cons pe_int (pa_cons pe_int (pa_cons pe_int (pa_cons pe_int pa_nil))))) pa_nil)) pa_nil))) (nomark _)) (pw_or1 (pt_cmpR (op_neDK K hr.units) (pe_fld (pv 7) rfl) (pe_tup (pa_cons pe_int (pa_cons pe_int (pa_cons pe_int (pa_cons pe_int (pa_cons pe_int pa_nil)))))) (nomark _))))) (pss_one (ps_ret pe_bl)) pss_nil) (pss_one (ps_ret (pe_and (pe_cmpR op_eq (pe_fld (pe_call G_greater (hr.mono (by decide)) rfl T.m_greater T.k_greater b_greater .nil pass0 (pa_cons (pv 5) (pa_cons (pv 5) pa_nil))) rfl) pe_int (nomark _)) (pe_one (pe_cmpR op_eq (pe_call G_value_of (hr.mono (by decide)) rfl T.m_value_of T.k_value_of b_value_of .nil pass0 (pa_cons (pe_call G_greater (hr.mono (by decide)) rfl T.m_greater T.k_greater b_greater .nil pass0 (pa_cons (pv 5) (pa_cons (pv 5) pa_nil))) (pa_cons (pe_tup (pa_cons pe_int (pa_cons pe_int pa_nil))) pa_nil))) pe_int (nomark _)))))))))))), sp_body h fun ss S r S' hg => ?_⟩)
  · obtain ⟨i, rfl, _⟩ := hg; rfl
  · obtain ⟨ns, rfl, hns, rfl, rfl, rfl⟩ := hg
    obtain ⟨c, hc⟩ : ∃ c : Nat, max 1 (min 3 (ns.length : Int)) = (c : Int) := ⟨(max 1 (min 3 (ns.length : Int))).toNat, by omega⟩
    have hc4 : c ≤ 3 := by omega
    refine sp_seq (P' := { nx := fun env' S2 => ∃ o1 o2 o3, env' = [some (.d (.scr ns)), o1, o2, o3, none, none, none, none] })
      (sp_forA (xs := List.range c) (g := fun i => Dat.int (0 + (i : Nat))) (it_rangeN (m := c) (ea_cons ((ev_cb (ea_cons ev_int (ea_cons (ev_cb (ea_cons ev_int (ea_cons (ev_cb (ea_cons (ev_var rfl) ea_nil) cd_lenS) ea_nil)) cd_min2) ea_nil)) cd_max2).to (by rw [hc])) ea_nil) (by omega)) (fun i env' S2 => ∃ o1 o2 o3, env' = [some (.d (.scr ns)), o1, o2, o3, none, none, none, none]) ⟨none, none, none, rfl⟩ (fun _ _ _ _ _ _ _ _ _ => trivial) ?_ ?_) ?_
    · rintro i a env' S2 ha ⟨o1, o2, o3, rfl⟩
      refine ⟨[1], fun env => env.set 1 (some (.d (.int (0 + (a : Nat))))), tg_name, ?_⟩
      rw [Int.zero_add]
      refine sp_setC (S1 := S2) (ds := [.int (vatF ns a).1, .int (vatF ns a).2.1, .int (vatF ns a).2.2]) (en_call (ea_cons (ev_var rfl) (ea_cons (ev_var rfl) ea_nil)) ⟨ns, a, rfl, rfl, rfl⟩) ?_
      refine sp_forA (xs := List.range 3) (g := fun i => Dat.int (0 + (i : Nat))) (it_rangeN (m := 3) (ea_cons ev_int ea_nil) (by omega)) (fun i env' S3 => ∃ v o3, S3 = S2 ++ [vatD v] ∧ env' = [some (.d (.scr ns)), some (.d (.int (a : Nat))), some (.c S2.length), o3, none, none, none, none]) ⟨vatF ns a, o3, rfl, rfl⟩ (fun _ _ _ _ _ _ _ _ _ => trivial) ?_ ?_
      · rintro j b env' S3 hb ⟨v, o4, rfl, rfl⟩
        refine ⟨[3], fun env => env.set 3 (some (.d (.int (0 + (b : Nat))))), tg_name, ?_⟩
        refine sp_if (b := false) (et_not (a := true) (et_bl (ev_call (ea_cons (ev_var rfl) ea_nil) ⟨S2.length, v, rfl, sg_last, rfl, rfl⟩))) (fun h => by cases h) fun _ => sp_next ⟨v7F v, _, sg_set, rfl⟩
      · rintro env' S3 ⟨v, o4, rfl, rfl⟩
        exact ⟨_, _, _, rfl⟩
    · rintro env' S2 ⟨o1, o2, o3, rfl⟩
      exact ⟨o1, o2, o3, rfl⟩
    · rintro env' S2 ⟨o1, o2, o3, rfl⟩
      have r31 : Rw [3, 1] 2 := rw_of (by decide) (by decide)
      have r57 : Rw [5, 7] 2 := rw_of (by decide) (by decide)
      have w1 : ∀ {env : Env1} {te : TE} {d : Dat}, Ev K te env S2 (.d d) S2 → Ev K (tTup (tCons te tNil)) env S2 (.d (.tup [d])) S2 := fun h1 => ev_tup (ds := [_]) (ea_cons h1 ea_nil) (by show 1 ≤ sizeLine; decide)
      have w2 : ∀ {env : Env1} {te tf : TE} {d e : Dat}, Ev K te env S2 (.d d) S2 → Ev K tf env S2 (.d e) S2 → Ev K (tTup (tCons te (tCons tf tNil))) env S2 (.d (.tup [d, e])) S2 := fun h1 h2 => ev_tup (ds := [_, _]) (ea_cons h1 (ea_cons h2 ea_nil)) (by show 2 ≤ sizeLine; decide)
      have w3 : ∀ {env : Env1} {te tf tg : TE} {d e f : Dat}, Ev K te env S2 (.d d) S2 → Ev K tf env S2 (.d e) S2 → Ev K tg env S2 (.d f) S2 → Ev K (tTup (tCons te (tCons tf (tCons tg tNil)))) env S2 (.d (.tup [d, e, f])) S2 := fun h1 h2 h3 => ev_tup (ds := [_, _, _]) (ea_cons h1 (ea_cons h2 (ea_cons h3 ea_nil))) (by show 3 ≤ sizeLine; decide)
      have w4 : ∀ {env : Env1} {te tf tg th : TE} {d e f g : Dat}, Ev K te env S2 (.d d) S2 → Ev K tf env S2 (.d e) S2 → Ev K tg env S2 (.d f) S2 → Ev K th env S2 (.d g) S2 → Ev K (tTup (tCons te (tCons tf (tCons tg (tCons th tNil))))) env S2 (.d (.tup [d, e, f, g])) S2 := fun h1 h2 h3 h4 => ev_tup (ds := [_, _, _, _]) (ea_cons h1 (ea_cons h2 (ea_cons h3 (ea_cons h4 ea_nil)))) (by show 4 ≤ sizeLine; decide)
      have hMake : ∀ {env : Env1} {t1 t2 t3 : TE} {L : Lays} {l : List Int}, Ev K t1 env S2 (.d (.int 2)) S2 → Ev K t2 env S2 (.d (laysD L)) S2 → Ev K t3 env S2 (.d (rowD l)) S2 → Wf 2 L l → Ev K (tMake T.C (SpD K (gInit T.C)) [] E0 (tCons t1 (tCons t2 (tCons t3 tNil)))) env S2 (.d (netD T.C 2 L l)) S2 := fun h1 h2 h3 hw => ev_make (ea_cons h1 (ea_cons h2 (ea_cons h3 ea_nil))) ⟨_, 2, _, _, rfl, sg_last, hw, rfl, sg_set.symm⟩ rfl
      refine sp_par (x := .d (netD T.C 2 [] oneR)) (y := .d (netD T.C 2 oL oR)) (S1 := S2) (ea_cons (S1 := S2) (hMake ev_int (ev_tup (ds := []) ea_nil (Nat.zero_le _)) (w2 ev_int ev_int) ok_one) (ea_cons (S1 := S2) (hMake ev_int (w1 (w1 (w2 ev_int ev_int))) (w3 ev_int ev_int ev_int) ok_o) ea_nil)) ?_
      refine sp_set (x := .d (netD T.C 2 gL gR)) (S1 := S2) ((ev_call (ea_cons (ev_var rfl) (ea_cons (ev_var rfl) ea_nil)) ⟨2, [], oL, oneR, oR, 1, rfl, ok_one, ok_o, by decide, by rw [e_g1, e_g2]; exact ok_g, rfl, rfl⟩).to (by rw [e_g1, e_g2])) ?_
      refine sp_ifq (b := false) (S1 := S2) (et_orP (a := false) (b := false) (et_test ((ev_op (ev_fld (ev_var rfl) T.cl T.na_layers rfl) ((w2 (w1 (w2 ev_int ev_int)) (w1 (w3 ev_int ev_int (ev_un ev_int o_neg)))).to (r' := .d (laysD gL)) rfl) (op2_neD (plS_d (pl_lays gL)) (plS_d (pl_lays gL)) (by decide) (by decide))).to (by rw [eqD_refl (pl_lays _)]; rfl))) fun _ => et_orP (a := false) (b := false) (et_test ((ev_op (ev_fld (ev_var rfl) T.cl T.na_last rfl) ((w4 ev_int ev_int ev_int ev_int).to (r' := .d (rowD gR)) rfl) (op2_neD (plS_d (pl_row gR)) (plS_d (pl_row gR)) (by decide) (by decide))).to (by rw [eqD_refl (pl_row _)]; rfl))) fun _ => et_test ((ev_op (ev_call (ea_cons (ev_var rfl) (ea_cons ((w2 ev_int ev_int).to (r' := .d (rowD [3, 1])) rfl) ea_nil)) ⟨2, gL, gR, [3, 1], rfl, r31, ok_g, rfl, rfl⟩) ev_int op2_ne_int).to (by rw [val_g]; rfl))) (fun h => by cases h) fun _ => sp_nextq ?_
      have hRa : ∀ {env : Env1}, env[5]? = some (some (.d (netD T.C 2 oL oR))) → Ev K (tCall (SpD K (gRamp T.C)) [] E0 (tCons (tVar 5) tNil)) env S2 (.d (netD T.C 2 rL rR)) S2 := fun h => (ev_call (ea_cons (ev_var h) ea_nil) ⟨2, oL, oR, rfl, ok_o, by rw [e_r1, e_r2]; exact ok_r, rfl, rfl⟩).to (by rw [e_r1, e_r2])
      refine sp_set (x := .d (netD T.C 2 tL tR)) (S1 := S2) ((ev_call (ea_cons (ev_var rfl) (ea_cons (hRa rfl) ea_nil)) ⟨2, oL, rL, oR, rR, 2, rfl, ok_o, ok_r, by decide, by rw [e_t1, e_t2]; exact ok_t, rfl, rfl⟩).to (by rw [e_t1, e_t2])) ?_
      refine sp_ifq (b := false) (S1 := S2) (et_orP (a := false) (b := false) (et_test ((ev_op (ev_fld (ev_var rfl) T.cl T.na_layers rfl) ((w2 (w2 (w2 ev_int ev_int) (w2 ev_int ev_int)) (w1 (w4 ev_int ev_int ev_int ev_int))).to (r' := .d (laysD tL)) rfl) (op2_neD (plS_d (pl_lays tL)) (plS_d (pl_lays tL)) (by decide) (by decide))).to (by rw [eqD_refl (pl_lays _)]; rfl))) fun _ => et_test ((ev_op (ev_fld (ev_var rfl) T.cl T.na_last rfl) ((ev_tup (ds := [.int 0, .int 0, .int 2, .int 0, .int 1]) (ea_cons ev_int (ea_cons ev_int (ea_cons ev_int (ea_cons ev_int (ea_cons ev_int ea_nil))))) (by show 5 ≤ sizeLine; decide)).to (r' := .d (rowD tR)) rfl) (op2_neD (plS_d (pl_row tR)) (plS_d (pl_row tR)) (by decide) (by decide))).to (by rw [eqD_refl (pl_row _)]; rfl))) (fun h => by cases h) fun _ => sp_nextq ?_
      have hG : ∀ {env : Env1}, env[5]? = some (some (.d (netD T.C 2 oL oR))) → Ev K (tCall (SpD K (gGr T.C)) [] E0 (tCons (tVar 5) (tCons (tVar 5) tNil))) env S2 (.d (netD T.C 2 hL hR)) S2 := fun h => (ev_call (ea_cons (ev_var h) (ea_cons (ev_var h) ea_nil)) ⟨2, oL, oL, oR, oR, 1, rfl, ok_o, ok_o, by decide, by rw [e_h1, e_h2]; exact ok_h, rfl, rfl⟩).to (by rw [e_h1, e_h2])
      exact sp_ret (d := .bl true) (ev_andV (a := true) (b := true) ((ev_op (ev_fld (hG rfl) T.cl T.na_depth rfl) ev_int op2_eq_int).to rfl) fun _ => (ev_op (ev_call (ea_cons (hG rfl) (ea_cons ((w2 ev_int ev_int).to (r' := .d (rowD [5, 7])) rfl) ea_nil)) ⟨2, hL, hR, [5, 7], rfl, r57, ok_h, rfl, rfl⟩) ev_int op2_eq_int).to (by rw [val_h]; rfl)) ⟨rfl, rfl⟩
end
end N20

set_option Elab.async false
set_option maxRecDepth 100000
set_option maxHeartbeats 4000000
namespace N20
open PySem PySem.Spec PyProof.Rows L2 RW
theorem all_mk {l : PySem.W.OpenLaw} {w : World} {K : PySem.W.Frag} {h : Heap} {mg : Str → Option Value} {fa C : Addr} (X : K.In h) (G : h.Ns mainGlobals mg) (hfa : mg "law" = some (.ref fa))
    {t_BEYOND : Tok}
    {t_BENEATH : Tok}
    {t_MOST_INPUTS : Tok}
    {t_MOST_LAYERS : Tok}
    {t_MOST_IN_LAYER : Tok}
    {t_MOST_UNITS : Tok}
    {a_is_whole : Addr} {od_is_whole an_is_whole : Option Addr} {sl_is_whole : Array (Option Value)} {oc_is_whole kV_is_whole dc_is_whole pm_is_whole cd_is_whole ct_is_whole : Value}
    {a_is_short : Addr} {od_is_short an_is_short : Option Addr} {sl_is_short : Array (Option Value)} {oc_is_short kV_is_short dc_is_short pm_is_short cd_is_short ct_is_short : Value}
    {a_are_short : Addr} {od_are_short an_are_short : Option Addr} {sl_are_short : Array (Option Value)} {oc_are_short kV_are_short dc_are_short pm_are_short cd_are_short ct_are_short : Value}
    {a_is_short_row : Addr} {od_is_short_row an_is_short_row : Option Addr} {sl_is_short_row : Array (Option Value)} {oc_is_short_row kV_is_short_row dc_is_short_row pm_is_short_row cd_is_short_row ct_is_short_row : Value}
    {a_need_number : Addr} {od_need_number an_need_number : Option Addr} {sl_need_number : Array (Option Value)} {oc_need_number kV_need_number dc_need_number pm_need_number cd_need_number ct_need_number : Value}
    {a_product_of : Addr} {od_product_of an_product_of : Option Addr} {sl_product_of : Array (Option Value)} {oc_product_of kV_product_of dc_product_of pm_product_of cd_product_of ct_product_of : Value}
    {a_sum_of : Addr} {od_sum_of an_sum_of : Option Addr} {sl_sum_of : Array (Option Value)} {oc_sum_of kV_sum_of dc_sum_of pm_sum_of cd_sum_of ct_sum_of : Value}
    {a_difference_of : Addr} {od_difference_of an_difference_of : Option Addr} {sl_difference_of : Array (Option Value)} {oc_difference_of kV_difference_of dc_difference_of pm_difference_of cd_difference_of ct_difference_of : Value}
    {a_times : Addr} {od_times an_times : Option Addr} {sl_times : Array (Option Value)} {oc_times kV_times dc_times pm_times cd_times ct_times : Value}
    {a_Networku_initu : Addr} {od_Networku_initu an_Networku_initu : Option Addr} {sl_Networku_initu : Array (Option Value)} {oc_Networku_initu kV_Networku_initu dc_Networku_initu pm_Networku_initu cd_Networku_initu ct_Networku_initu : Value}
    {a_Networku_equ : Addr} {od_Networku_equ an_Networku_equ : Option Addr} {sl_Networku_equ : Array (Option Value)} {oc_Networku_equ kV_Networku_equ dc_Networku_equ pm_Networku_equ cd_Networku_equ ct_Networku_equ : Value}
    {a_are_parts : Addr} {od_are_parts an_are_parts : Option Addr} {sl_are_parts : Array (Option Value)} {oc_are_parts kV_are_parts dc_are_parts pm_are_parts cd_are_parts ct_are_parts : Value}
    {a_need_network : Addr} {od_need_network an_need_network : Option Addr} {sl_need_network : Array (Option Value)} {oc_need_network kV_need_network dc_need_network pm_need_network cd_need_network ct_need_network : Value}
    {a_need_network_and_row : Addr} {od_need_network_and_row an_need_network_and_row : Option Addr} {sl_need_network_and_row : Array (Option Value)} {oc_need_network_and_row kV_need_network_and_row dc_need_network_and_row pm_need_network_and_row cd_need_network_and_row ct_need_network_and_row : Value}
    {a_need_networks : Addr} {od_need_networks an_need_networks : Option Addr} {sl_need_networks : Array (Option Value)} {oc_need_networks kV_need_networks dc_need_networks pm_need_networks cd_need_networks ct_need_networks : Value}
    {a_all_values : Addr} {od_all_values an_all_values : Option Addr} {sl_all_values : Array (Option Value)} {oc_all_values kV_all_values dc_all_values pm_all_values cd_all_values ct_all_values : Value}
    {a_value_of : Addr} {od_value_of an_value_of : Option Addr} {sl_value_of : Array (Option Value)} {oc_value_of kV_value_of dc_value_of pm_value_of cd_value_of ct_value_of : Value}
    {a_bounded : Addr} {od_bounded an_bounded : Option Addr} {sl_bounded : Array (Option Value)} {oc_bounded kV_bounded dc_bounded pm_bounded cd_bounded ct_bounded : Value}
    {a_widened : Addr} {od_widened an_widened : Option Addr} {sl_widened : Array (Option Value)} {oc_widened kV_widened dc_widened pm_widened cd_widened ct_widened : Value}
    {a_layer_at : Addr} {od_layer_at an_layer_at : Option Addr} {sl_layer_at : Array (Option Value)} {oc_layer_at kV_layer_at dc_layer_at pm_layer_at cd_layer_at ct_layer_at : Value}
    {a_side_by_side : Addr} {od_side_by_side an_side_by_side : Option Addr} {sl_side_by_side : Array (Option Value)} {oc_side_by_side kV_side_by_side dc_side_by_side pm_side_by_side cd_side_by_side ct_side_by_side : Value}
    {a_added : Addr} {od_added an_added : Option Addr} {sl_added : Array (Option Value)} {oc_added kV_added dc_added pm_added cd_added ct_added : Value}
    {a_multiplied : Addr} {od_multiplied an_multiplied : Option Addr} {sl_multiplied : Array (Option Value)} {oc_multiplied kV_multiplied dc_multiplied pm_multiplied cd_multiplied ct_multiplied : Value}
    {a_ramped : Addr} {od_ramped an_ramped : Option Addr} {sl_ramped : Array (Option Value)} {oc_ramped kV_ramped dc_ramped pm_ramped cd_ramped ct_ramped : Value}
    {a_greater : Addr} {od_greater an_greater : Option Addr} {sl_greater : Array (Option Value)} {oc_greater kV_greater dc_greater pm_greater cd_greater ct_greater : Value}
    {a__law_vat : Addr} {od__law_vat an__law_vat : Option Addr} {sl__law_vat : Array (Option Value)} {oc__law_vat kV__law_vat dc__law_vat pm__law_vat cd__law_vat ct__law_vat : Value}
    {a__law_draw : Addr} {od__law_draw an__law_draw : Option Addr} {sl__law_draw : Array (Option Value)} {oc__law_draw kV__law_draw dc__law_draw pm__law_draw cd__law_draw ct__law_draw : Value}
    {a__law_pick : Addr} {od__law_pick an__law_pick : Option Addr} {sl__law_pick : Array (Option Value)} {oc__law_pick kV__law_pick dc__law_pick pm__law_pick cd__law_pick ct__law_pick : Value}
    {a__law_told : Addr} {od__law_told an__law_told : Option Addr} {sl__law_told : Array (Option Value)} {oc__law_told kV__law_told dc__law_told pm__law_told cd__law_told ct__law_told : Value}
    {a__law_numbers : Addr} {od__law_numbers an__law_numbers : Option Addr} {sl__law_numbers : Array (Option Value)} {oc__law_numbers kV__law_numbers dc__law_numbers pm__law_numbers cd__law_numbers ct__law_numbers : Value}
    {a__law_row : Addr} {od__law_row an__law_row : Option Addr} {sl__law_row : Array (Option Value)} {oc__law_row kV__law_row dc__law_row pm__law_row cd__law_row ct__law_row : Value}
    {a__law_parts : Addr} {od__law_parts an__law_parts : Option Addr} {sl__law_parts : Array (Option Value)} {oc__law_parts kV__law_parts dc__law_parts pm__law_parts cd__law_parts ct__law_parts : Value}
    {a__law_value : Addr} {od__law_value an__law_value : Option Addr} {sl__law_value : Array (Option Value)} {oc__law_value kV__law_value dc__law_value pm__law_value cd__law_value ct__law_value : Value}
    {a__law_rows : Addr} {od__law_rows an__law_rows : Option Addr} {sl__law_rows : Array (Option Value)} {oc__law_rows kV__law_rows dc__law_rows pm__law_rows cd__law_rows ct__law_rows : Value}
    {a__law_beside : Addr} {od__law_beside an__law_beside : Option Addr} {sl__law_beside : Array (Option Value)} {oc__law_beside kV__law_beside dc__law_beside pm__law_beside cd__law_beside ct__law_beside : Value}
    {a__law_spread : Addr} {od__law_spread an__law_spread : Option Addr} {sl__law_spread : Array (Option Value)} {oc__law_spread kV__law_spread dc__law_spread pm__law_spread cd__law_spread ct__law_spread : Value}
    {a__law_right : Addr} {od__law_right an__law_right : Option Addr} {sl__law_right : Array (Option Value)} {oc__law_right kV__law_right dc__law_right pm__law_right cd__law_right ct__law_right : Value}
    {a_law : Addr} {od_law an_law : Option Addr} {sl_law : Array (Option Value)} {oc_law kV_law dc_law pm_law cd_law ct_law : Value}
    (hC : PySem.W.nsIn K mainGlobals "Network" = some (some (.ref C)))
    (c_BEYOND : PySem.W.nsIn K mainGlobals "BEYOND" = some (some (.int (10 ^ 60) t_BEYOND)))
    (c_BENEATH : PySem.W.nsIn K mainGlobals "BENEATH" = some (some (.int (-(10 ^ 60)) t_BENEATH)))
    (c_MOST_INPUTS : PySem.W.nsIn K mainGlobals "MOST_INPUTS" = some (some (.int 8 t_MOST_INPUTS)))
    (c_MOST_LAYERS : PySem.W.nsIn K mainGlobals "MOST_LAYERS" = some (some (.int 4 t_MOST_LAYERS)))
    (c_MOST_IN_LAYER : PySem.W.nsIn K mainGlobals "MOST_IN_LAYER" = some (some (.int 64 t_MOST_IN_LAYER)))
    (c_MOST_UNITS : PySem.W.nsIn K mainGlobals "MOST_UNITS" = some (some (.int 128 t_MOST_UNITS)))
    (a__is_whole : PySem.W.nsIn K mainGlobals "is_whole" = some (some (.ref a_is_whole)))
    (l__is_whole : K.lookup a_is_whole = some ⟨oc_is_whole, od_is_whole, .func (PySem.W.fnOf "is_whole" "is_whole" (defArgs s_is_whole) (defBody s_is_whole) (defScope s_is_whole) .none kV_is_whole dc_is_whole pm_is_whole an_is_whole cd_is_whole ct_is_whole), sl_is_whole⟩)
    (c__is_whole : PySem.W.codeIn K cd_is_whole "is_whole" = true)
    (k__is_whole : PySem.W.keepIn K (.ref a_is_whole) = true)
    (a__is_short : PySem.W.nsIn K mainGlobals "is_short" = some (some (.ref a_is_short)))
    (l__is_short : K.lookup a_is_short = some ⟨oc_is_short, od_is_short, .func (PySem.W.fnOf "is_short" "is_short" (defArgs s_is_short) (defBody s_is_short) (defScope s_is_short) .none kV_is_short dc_is_short pm_is_short an_is_short cd_is_short ct_is_short), sl_is_short⟩)
    (c__is_short : PySem.W.codeIn K cd_is_short "is_short" = true)
    (k__is_short : PySem.W.keepIn K (.ref a_is_short) = true)
    (a__are_short : PySem.W.nsIn K mainGlobals "are_short" = some (some (.ref a_are_short)))
    (l__are_short : K.lookup a_are_short = some ⟨oc_are_short, od_are_short, .func (PySem.W.fnOf "are_short" "are_short" (defArgs s_are_short) (defBody s_are_short) (defScope s_are_short) .none kV_are_short dc_are_short pm_are_short an_are_short cd_are_short ct_are_short), sl_are_short⟩)
    (c__are_short : PySem.W.codeIn K cd_are_short "are_short" = true)
    (k__are_short : PySem.W.keepIn K (.ref a_are_short) = true)
    (a__is_short_row : PySem.W.nsIn K mainGlobals "is_short_row" = some (some (.ref a_is_short_row)))
    (l__is_short_row : K.lookup a_is_short_row = some ⟨oc_is_short_row, od_is_short_row, .func (PySem.W.fnOf "is_short_row" "is_short_row" (defArgs s_is_short_row) (defBody s_is_short_row) (defScope s_is_short_row) .none kV_is_short_row dc_is_short_row pm_is_short_row an_is_short_row cd_is_short_row ct_is_short_row), sl_is_short_row⟩)
    (c__is_short_row : PySem.W.codeIn K cd_is_short_row "is_short_row" = true)
    (k__is_short_row : PySem.W.keepIn K (.ref a_is_short_row) = true)
    (a__need_number : PySem.W.nsIn K mainGlobals "need_number" = some (some (.ref a_need_number)))
    (l__need_number : K.lookup a_need_number = some ⟨oc_need_number, od_need_number, .func (PySem.W.fnOf "need_number" "need_number" (defArgs s_need_number) (defBody s_need_number) (defScope s_need_number) .none kV_need_number dc_need_number pm_need_number an_need_number cd_need_number ct_need_number), sl_need_number⟩)
    (c__need_number : PySem.W.codeIn K cd_need_number "need_number" = true)
    (k__need_number : PySem.W.keepIn K (.ref a_need_number) = true)
    (a__product_of : PySem.W.nsIn K mainGlobals "product_of" = some (some (.ref a_product_of)))
    (l__product_of : K.lookup a_product_of = some ⟨oc_product_of, od_product_of, .func (PySem.W.fnOf "product_of" "product_of" (defArgs s_product_of) (defBody s_product_of) (defScope s_product_of) .none kV_product_of dc_product_of pm_product_of an_product_of cd_product_of ct_product_of), sl_product_of⟩)
    (c__product_of : PySem.W.codeIn K cd_product_of "product_of" = true)
    (k__product_of : PySem.W.keepIn K (.ref a_product_of) = true)
    (a__sum_of : PySem.W.nsIn K mainGlobals "sum_of" = some (some (.ref a_sum_of)))
    (l__sum_of : K.lookup a_sum_of = some ⟨oc_sum_of, od_sum_of, .func (PySem.W.fnOf "sum_of" "sum_of" (defArgs s_sum_of) (defBody s_sum_of) (defScope s_sum_of) .none kV_sum_of dc_sum_of pm_sum_of an_sum_of cd_sum_of ct_sum_of), sl_sum_of⟩)
    (c__sum_of : PySem.W.codeIn K cd_sum_of "sum_of" = true)
    (k__sum_of : PySem.W.keepIn K (.ref a_sum_of) = true)
    (a__difference_of : PySem.W.nsIn K mainGlobals "difference_of" = some (some (.ref a_difference_of)))
    (l__difference_of : K.lookup a_difference_of = some ⟨oc_difference_of, od_difference_of, .func (PySem.W.fnOf "difference_of" "difference_of" (defArgs s_difference_of) (defBody s_difference_of) (defScope s_difference_of) .none kV_difference_of dc_difference_of pm_difference_of an_difference_of cd_difference_of ct_difference_of), sl_difference_of⟩)
    (c__difference_of : PySem.W.codeIn K cd_difference_of "difference_of" = true)
    (k__difference_of : PySem.W.keepIn K (.ref a_difference_of) = true)
    (a__times : PySem.W.nsIn K mainGlobals "times" = some (some (.ref a_times)))
    (l__times : K.lookup a_times = some ⟨oc_times, od_times, .func (PySem.W.fnOf "times" "times" (defArgs s_times) (defBody s_times) (defScope s_times) .none kV_times dc_times pm_times an_times cd_times ct_times), sl_times⟩)
    (c__times : PySem.W.codeIn K cd_times "times" = true)
    (k__times : PySem.W.keepIn K (.ref a_times) = true)
    (a__Networku_initu : PySem.W.findIn K (.ref C) "__init__" = some (some (.ref a_Networku_initu)))
    (i__Networku_initu : PySem.W.isFn K (.ref a_Networku_initu) = true)
    (l__Networku_initu : K.lookup a_Networku_initu = some ⟨oc_Networku_initu, od_Networku_initu, .func (PySem.W.fnOf "__init__" "Network.__init__" (defArgs s_Networku_initu) (defBody s_Networku_initu) (defScope s_Networku_initu) .none kV_Networku_initu dc_Networku_initu pm_Networku_initu an_Networku_initu cd_Networku_initu ct_Networku_initu), sl_Networku_initu⟩)
    (c__Networku_initu : PySem.W.codeIn K cd_Networku_initu "Network.__init__" = true)
    (k__Networku_initu : PySem.W.keepIn K (.ref a_Networku_initu) = true)
    (a__Networku_equ : PySem.W.findIn K (.ref C) "__eq__" = some (some (.ref a_Networku_equ)))
    (i__Networku_equ : PySem.W.isFn K (.ref a_Networku_equ) = true)
    (l__Networku_equ : K.lookup a_Networku_equ = some ⟨oc_Networku_equ, od_Networku_equ, .func (PySem.W.fnOf "__eq__" "Network.__eq__" (defArgs s_Networku_equ) (defBody s_Networku_equ) (defScope s_Networku_equ) .none kV_Networku_equ dc_Networku_equ pm_Networku_equ an_Networku_equ cd_Networku_equ ct_Networku_equ), sl_Networku_equ⟩)
    (c__Networku_equ : PySem.W.codeIn K cd_Networku_equ "Network.__eq__" = true)
    (k__Networku_equ : PySem.W.keepIn K (.ref a_Networku_equ) = true)
    (a__are_parts : PySem.W.nsIn K mainGlobals "are_parts" = some (some (.ref a_are_parts)))
    (l__are_parts : K.lookup a_are_parts = some ⟨oc_are_parts, od_are_parts, .func (PySem.W.fnOf "are_parts" "are_parts" (defArgs s_are_parts) (defBody s_are_parts) (defScope s_are_parts) .none kV_are_parts dc_are_parts pm_are_parts an_are_parts cd_are_parts ct_are_parts), sl_are_parts⟩)
    (c__are_parts : PySem.W.codeIn K cd_are_parts "are_parts" = true)
    (k__are_parts : PySem.W.keepIn K (.ref a_are_parts) = true)
    (a__need_network : PySem.W.nsIn K mainGlobals "need_network" = some (some (.ref a_need_network)))
    (l__need_network : K.lookup a_need_network = some ⟨oc_need_network, od_need_network, .func (PySem.W.fnOf "need_network" "need_network" (defArgs s_need_network) (defBody s_need_network) (defScope s_need_network) .none kV_need_network dc_need_network pm_need_network an_need_network cd_need_network ct_need_network), sl_need_network⟩)
    (c__need_network : PySem.W.codeIn K cd_need_network "need_network" = true)
    (k__need_network : PySem.W.keepIn K (.ref a_need_network) = true)
    (a__need_network_and_row : PySem.W.nsIn K mainGlobals "need_network_and_row" = some (some (.ref a_need_network_and_row)))
    (l__need_network_and_row : K.lookup a_need_network_and_row = some ⟨oc_need_network_and_row, od_need_network_and_row, .func (PySem.W.fnOf "need_network_and_row" "need_network_and_row" (defArgs s_need_network_and_row) (defBody s_need_network_and_row) (defScope s_need_network_and_row) .none kV_need_network_and_row dc_need_network_and_row pm_need_network_and_row an_need_network_and_row cd_need_network_and_row ct_need_network_and_row), sl_need_network_and_row⟩)
    (c__need_network_and_row : PySem.W.codeIn K cd_need_network_and_row "need_network_and_row" = true)
    (k__need_network_and_row : PySem.W.keepIn K (.ref a_need_network_and_row) = true)
    (a__need_networks : PySem.W.nsIn K mainGlobals "need_networks" = some (some (.ref a_need_networks)))
    (l__need_networks : K.lookup a_need_networks = some ⟨oc_need_networks, od_need_networks, .func (PySem.W.fnOf "need_networks" "need_networks" (defArgs s_need_networks) (defBody s_need_networks) (defScope s_need_networks) .none kV_need_networks dc_need_networks pm_need_networks an_need_networks cd_need_networks ct_need_networks), sl_need_networks⟩)
    (c__need_networks : PySem.W.codeIn K cd_need_networks "need_networks" = true)
    (k__need_networks : PySem.W.keepIn K (.ref a_need_networks) = true)
    (a__all_values : PySem.W.nsIn K mainGlobals "all_values" = some (some (.ref a_all_values)))
    (l__all_values : K.lookup a_all_values = some ⟨oc_all_values, od_all_values, .func (PySem.W.fnOf "all_values" "all_values" (defArgs s_all_values) (defBody s_all_values) (defScope s_all_values) .none kV_all_values dc_all_values pm_all_values an_all_values cd_all_values ct_all_values), sl_all_values⟩)
    (c__all_values : PySem.W.codeIn K cd_all_values "all_values" = true)
    (k__all_values : PySem.W.keepIn K (.ref a_all_values) = true)
    (a__value_of : PySem.W.nsIn K mainGlobals "value_of" = some (some (.ref a_value_of)))
    (l__value_of : K.lookup a_value_of = some ⟨oc_value_of, od_value_of, .func (PySem.W.fnOf "value_of" "value_of" (defArgs s_value_of) (defBody s_value_of) (defScope s_value_of) .none kV_value_of dc_value_of pm_value_of an_value_of cd_value_of ct_value_of), sl_value_of⟩)
    (c__value_of : PySem.W.codeIn K cd_value_of "value_of" = true)
    (k__value_of : PySem.W.keepIn K (.ref a_value_of) = true)
    (a__bounded : PySem.W.nsIn K mainGlobals "bounded" = some (some (.ref a_bounded)))
    (l__bounded : K.lookup a_bounded = some ⟨oc_bounded, od_bounded, .func (PySem.W.fnOf "bounded" "bounded" (defArgs s_bounded) (defBody s_bounded) (defScope s_bounded) .none kV_bounded dc_bounded pm_bounded an_bounded cd_bounded ct_bounded), sl_bounded⟩)
    (c__bounded : PySem.W.codeIn K cd_bounded "bounded" = true)
    (k__bounded : PySem.W.keepIn K (.ref a_bounded) = true)
    (a__widened : PySem.W.nsIn K mainGlobals "widened" = some (some (.ref a_widened)))
    (l__widened : K.lookup a_widened = some ⟨oc_widened, od_widened, .func (PySem.W.fnOf "widened" "widened" (defArgs s_widened) (defBody s_widened) (defScope s_widened) .none kV_widened dc_widened pm_widened an_widened cd_widened ct_widened), sl_widened⟩)
    (c__widened : PySem.W.codeIn K cd_widened "widened" = true)
    (k__widened : PySem.W.keepIn K (.ref a_widened) = true)
    (a__layer_at : PySem.W.nsIn K mainGlobals "layer_at" = some (some (.ref a_layer_at)))
    (l__layer_at : K.lookup a_layer_at = some ⟨oc_layer_at, od_layer_at, .func (PySem.W.fnOf "layer_at" "layer_at" (defArgs s_layer_at) (defBody s_layer_at) (defScope s_layer_at) .none kV_layer_at dc_layer_at pm_layer_at an_layer_at cd_layer_at ct_layer_at), sl_layer_at⟩)
    (c__layer_at : PySem.W.codeIn K cd_layer_at "layer_at" = true)
    (k__layer_at : PySem.W.keepIn K (.ref a_layer_at) = true)
    (a__side_by_side : PySem.W.nsIn K mainGlobals "side_by_side" = some (some (.ref a_side_by_side)))
    (l__side_by_side : K.lookup a_side_by_side = some ⟨oc_side_by_side, od_side_by_side, .func (PySem.W.fnOf "side_by_side" "side_by_side" (defArgs s_side_by_side) (defBody s_side_by_side) (defScope s_side_by_side) .none kV_side_by_side dc_side_by_side pm_side_by_side an_side_by_side cd_side_by_side ct_side_by_side), sl_side_by_side⟩)
    (c__side_by_side : PySem.W.codeIn K cd_side_by_side "side_by_side" = true)
    (k__side_by_side : PySem.W.keepIn K (.ref a_side_by_side) = true)
    (a__added : PySem.W.nsIn K mainGlobals "added" = some (some (.ref a_added)))
    (l__added : K.lookup a_added = some ⟨oc_added, od_added, .func (PySem.W.fnOf "added" "added" (defArgs s_added) (defBody s_added) (defScope s_added) .none kV_added dc_added pm_added an_added cd_added ct_added), sl_added⟩)
    (c__added : PySem.W.codeIn K cd_added "added" = true)
    (k__added : PySem.W.keepIn K (.ref a_added) = true)
    (a__multiplied : PySem.W.nsIn K mainGlobals "multiplied" = some (some (.ref a_multiplied)))
    (l__multiplied : K.lookup a_multiplied = some ⟨oc_multiplied, od_multiplied, .func (PySem.W.fnOf "multiplied" "multiplied" (defArgs s_multiplied) (defBody s_multiplied) (defScope s_multiplied) .none kV_multiplied dc_multiplied pm_multiplied an_multiplied cd_multiplied ct_multiplied), sl_multiplied⟩)
    (c__multiplied : PySem.W.codeIn K cd_multiplied "multiplied" = true)
    (k__multiplied : PySem.W.keepIn K (.ref a_multiplied) = true)
    (a__ramped : PySem.W.nsIn K mainGlobals "ramped" = some (some (.ref a_ramped)))
    (l__ramped : K.lookup a_ramped = some ⟨oc_ramped, od_ramped, .func (PySem.W.fnOf "ramped" "ramped" (defArgs s_ramped) (defBody s_ramped) (defScope s_ramped) .none kV_ramped dc_ramped pm_ramped an_ramped cd_ramped ct_ramped), sl_ramped⟩)
    (c__ramped : PySem.W.codeIn K cd_ramped "ramped" = true)
    (k__ramped : PySem.W.keepIn K (.ref a_ramped) = true)
    (a__greater : PySem.W.nsIn K mainGlobals "greater" = some (some (.ref a_greater)))
    (l__greater : K.lookup a_greater = some ⟨oc_greater, od_greater, .func (PySem.W.fnOf "greater" "greater" (defArgs s_greater) (defBody s_greater) (defScope s_greater) .none kV_greater dc_greater pm_greater an_greater cd_greater ct_greater), sl_greater⟩)
    (c__greater : PySem.W.codeIn K cd_greater "greater" = true)
    (k__greater : PySem.W.keepIn K (.ref a_greater) = true)
    (a___law_vat : PySem.W.nsIn K mainGlobals "_law_vat" = some (some (.ref a__law_vat)))
    (l___law_vat : K.lookup a__law_vat = some ⟨oc__law_vat, od__law_vat, .func (PySem.W.fnOf "_law_vat" "_law_vat" (defArgs s__law_vat) (defBody s__law_vat) (defScope s__law_vat) .none kV__law_vat dc__law_vat pm__law_vat an__law_vat cd__law_vat ct__law_vat), sl__law_vat⟩)
    (c___law_vat : PySem.W.codeIn K cd__law_vat "_law_vat" = true)
    (k___law_vat : PySem.W.keepIn K (.ref a__law_vat) = true)
    (a___law_draw : PySem.W.nsIn K mainGlobals "_law_draw" = some (some (.ref a__law_draw)))
    (l___law_draw : K.lookup a__law_draw = some ⟨oc__law_draw, od__law_draw, .func (PySem.W.fnOf "_law_draw" "_law_draw" (defArgs s__law_draw) (defBody s__law_draw) (defScope s__law_draw) .none kV__law_draw dc__law_draw pm__law_draw an__law_draw cd__law_draw ct__law_draw), sl__law_draw⟩)
    (c___law_draw : PySem.W.codeIn K cd__law_draw "_law_draw" = true)
    (k___law_draw : PySem.W.keepIn K (.ref a__law_draw) = true)
    (a___law_pick : PySem.W.nsIn K mainGlobals "_law_pick" = some (some (.ref a__law_pick)))
    (l___law_pick : K.lookup a__law_pick = some ⟨oc__law_pick, od__law_pick, .func (PySem.W.fnOf "_law_pick" "_law_pick" (defArgs s__law_pick) (defBody s__law_pick) (defScope s__law_pick) .none kV__law_pick dc__law_pick pm__law_pick an__law_pick cd__law_pick ct__law_pick), sl__law_pick⟩)
    (c___law_pick : PySem.W.codeIn K cd__law_pick "_law_pick" = true)
    (k___law_pick : PySem.W.keepIn K (.ref a__law_pick) = true)
    (a___law_told : PySem.W.nsIn K mainGlobals "_law_told" = some (some (.ref a__law_told)))
    (l___law_told : K.lookup a__law_told = some ⟨oc__law_told, od__law_told, .func (PySem.W.fnOf "_law_told" "_law_told" (defArgs s__law_told) (defBody s__law_told) (defScope s__law_told) .none kV__law_told dc__law_told pm__law_told an__law_told cd__law_told ct__law_told), sl__law_told⟩)
    (c___law_told : PySem.W.codeIn K cd__law_told "_law_told" = true)
    (k___law_told : PySem.W.keepIn K (.ref a__law_told) = true)
    (a___law_numbers : PySem.W.nsIn K mainGlobals "_law_numbers" = some (some (.ref a__law_numbers)))
    (l___law_numbers : K.lookup a__law_numbers = some ⟨oc__law_numbers, od__law_numbers, .func (PySem.W.fnOf "_law_numbers" "_law_numbers" (defArgs s__law_numbers) (defBody s__law_numbers) (defScope s__law_numbers) .none kV__law_numbers dc__law_numbers pm__law_numbers an__law_numbers cd__law_numbers ct__law_numbers), sl__law_numbers⟩)
    (c___law_numbers : PySem.W.codeIn K cd__law_numbers "_law_numbers" = true)
    (k___law_numbers : PySem.W.keepIn K (.ref a__law_numbers) = true)
    (a___law_row : PySem.W.nsIn K mainGlobals "_law_row" = some (some (.ref a__law_row)))
    (l___law_row : K.lookup a__law_row = some ⟨oc__law_row, od__law_row, .func (PySem.W.fnOf "_law_row" "_law_row" (defArgs s__law_row) (defBody s__law_row) (defScope s__law_row) .none kV__law_row dc__law_row pm__law_row an__law_row cd__law_row ct__law_row), sl__law_row⟩)
    (c___law_row : PySem.W.codeIn K cd__law_row "_law_row" = true)
    (k___law_row : PySem.W.keepIn K (.ref a__law_row) = true)
    (a___law_parts : PySem.W.nsIn K mainGlobals "_law_parts" = some (some (.ref a__law_parts)))
    (l___law_parts : K.lookup a__law_parts = some ⟨oc__law_parts, od__law_parts, .func (PySem.W.fnOf "_law_parts" "_law_parts" (defArgs s__law_parts) (defBody s__law_parts) (defScope s__law_parts) .none kV__law_parts dc__law_parts pm__law_parts an__law_parts cd__law_parts ct__law_parts), sl__law_parts⟩)
    (c___law_parts : PySem.W.codeIn K cd__law_parts "_law_parts" = true)
    (k___law_parts : PySem.W.keepIn K (.ref a__law_parts) = true)
    (a___law_value : PySem.W.nsIn K mainGlobals "_law_value" = some (some (.ref a__law_value)))
    (l___law_value : K.lookup a__law_value = some ⟨oc__law_value, od__law_value, .func (PySem.W.fnOf "_law_value" "_law_value" (defArgs s__law_value) (defBody s__law_value) (defScope s__law_value) .none kV__law_value dc__law_value pm__law_value an__law_value cd__law_value ct__law_value), sl__law_value⟩)
    (c___law_value : PySem.W.codeIn K cd__law_value "_law_value" = true)
    (k___law_value : PySem.W.keepIn K (.ref a__law_value) = true)
    (a___law_rows : PySem.W.nsIn K mainGlobals "_law_rows" = some (some (.ref a__law_rows)))
    (l___law_rows : K.lookup a__law_rows = some ⟨oc__law_rows, od__law_rows, .func (PySem.W.fnOf "_law_rows" "_law_rows" (defArgs s__law_rows) (defBody s__law_rows) (defScope s__law_rows) .none kV__law_rows dc__law_rows pm__law_rows an__law_rows cd__law_rows ct__law_rows), sl__law_rows⟩)
    (c___law_rows : PySem.W.codeIn K cd__law_rows "_law_rows" = true)
    (k___law_rows : PySem.W.keepIn K (.ref a__law_rows) = true)
    (a___law_beside : PySem.W.nsIn K mainGlobals "_law_beside" = some (some (.ref a__law_beside)))
    (l___law_beside : K.lookup a__law_beside = some ⟨oc__law_beside, od__law_beside, .func (PySem.W.fnOf "_law_beside" "_law_beside" (defArgs s__law_beside) (defBody s__law_beside) (defScope s__law_beside) .none kV__law_beside dc__law_beside pm__law_beside an__law_beside cd__law_beside ct__law_beside), sl__law_beside⟩)
    (c___law_beside : PySem.W.codeIn K cd__law_beside "_law_beside" = true)
    (k___law_beside : PySem.W.keepIn K (.ref a__law_beside) = true)
    (a___law_spread : PySem.W.nsIn K mainGlobals "_law_spread" = some (some (.ref a__law_spread)))
    (l___law_spread : K.lookup a__law_spread = some ⟨oc__law_spread, od__law_spread, .func (PySem.W.fnOf "_law_spread" "_law_spread" (defArgs s__law_spread) (defBody s__law_spread) (defScope s__law_spread) .none kV__law_spread dc__law_spread pm__law_spread an__law_spread cd__law_spread ct__law_spread), sl__law_spread⟩)
    (c___law_spread : PySem.W.codeIn K cd__law_spread "_law_spread" = true)
    (k___law_spread : PySem.W.keepIn K (.ref a__law_spread) = true)
    (a___law_right : PySem.W.nsIn K mainGlobals "_law_right" = some (some (.ref a__law_right)))
    (l___law_right : K.lookup a__law_right = some ⟨oc__law_right, od__law_right, .func (PySem.W.fnOf "_law_right" "_law_right" (defArgs s__law_right) (defBody s__law_right) (defScope s__law_right) .none kV__law_right dc__law_right pm__law_right an__law_right cd__law_right ct__law_right), sl__law_right⟩)
    (c___law_right : PySem.W.codeIn K cd__law_right "_law_right" = true)
    (k___law_right : PySem.W.keepIn K (.ref a__law_right) = true)
    (a__law : PySem.W.nsIn K mainGlobals "law" = some (some (.ref a_law)))
    (l__law : K.lookup a_law = some ⟨oc_law, od_law, .func (PySem.W.fnOf "law" "law" (defArgs s_law) (defBody s_law) (defScope s_law) .none kV_law dc_law pm_law an_law cd_law ct_law), sl_law⟩)
    (c__law : PySem.W.codeIn K cd_law "law" = true)
    (k__law : PySem.W.keepIn K (.ref a_law) = true)
    (z_isinstance : PySem.W.nsIn K mainGlobals "isinstance" = some none)
    (z_int : PySem.W.nsIn K mainGlobals "int" = some none)
    (z_bool : PySem.W.nsIn K mainGlobals "bool" = some none)
    (z_tuple : PySem.W.nsIn K mainGlobals "tuple" = some none)
    (z_list : PySem.W.nsIn K mainGlobals "list" = some none)
    (z_len : PySem.W.nsIn K mainGlobals "len" = some none)
    (z_sum : PySem.W.nsIn K mainGlobals "sum" = some none)
    (z_all : PySem.W.nsIn K mainGlobals "all" = some none)
    (z_any : PySem.W.nsIn K mainGlobals "any" = some none)
    (z_zip : PySem.W.nsIn K mainGlobals "zip" = some none)
    (z_max : PySem.W.nsIn K mainGlobals "max" = some none)
    (z_min : PySem.W.nsIn K mainGlobals "min" = some none)
    (z_abs : PySem.W.nsIn K mainGlobals "abs" = some none)
    (z_range : PySem.W.nsIn K mainGlobals "range" = some none)
    (z_enumerate : PySem.W.nsIn K mainGlobals "enumerate" = some none)
    (z_reversed : PySem.W.nsIn K mainGlobals "reversed" = some none)
    (z_sorted : PySem.W.nsIn K mainGlobals "sorted" = some none)
    (z_str : PySem.W.nsIn K mainGlobals "str" = some none)
    (pg : PySem.W.plainGet K C Str.empty = true)
    (hd : PySem.W.hasDictIn K C = true)
    (po : PySem.W.plainOver K C = true)
    (sa : PySem.W.findIn K (.ref C) "__setattr__" = some (some (.builtin "object.__setattr__")))
    (mk : PySem.W.makesIn K C = true)
    (kc : PySem.W.keepIn K (.ref C) = true)
    (n_inputs : PySem.W.findIn K (.ref C) "inputs" = some none)
    (n_layers : PySem.W.findIn K (.ref C) "layers" = some none)
    (n_last : PySem.W.findIn K (.ref C) "last" = some none)
    (n_depth : PySem.W.findIn K (.ref C) "depth" = some none)
    (n_units : PySem.W.findIn K (.ref C) "units" = some none)
    (ica : PySem.W.findIn K (.ref C) "__class__" = some (some (.builtin "object.__class__")))
    (icn : PySem.W.specialIn K (.builtin "object.__class__") "__get__" = some (some (.builtin "getset_descriptor.__get__")))
    (ict : PySem.W.takesIn K (.builtin "object.__class__") = some true)
    (icm : PySem.W.mroIn K C (.type "object") = some true)
    (one : PySem.W.findIn K (.ref C) "__ne__" = some (some (.builtin "object.__ne__")))
    (osub : PySem.W.notFirst K C (.ref C) = true)
    (x__icl : PySem.W.isClsIn K C = true)
    (x__tyC : PySem.W.typeIn K (.ref C) = some (.type "type"))
    (x__sb_non : PySem.W.subIn K (.type "NoneType") (.ref C) = some false)
    (x__sb_int : PySem.W.subIn K (.type "int") (.ref C) = some false)
    (x__sb_tup : PySem.W.subIn K (.type "tuple") (.ref C) = some false) :
    ∃ fd : FuncData, (∀ (s : Shared) (v : Value), BindsTo s fd ⟨[v], []⟩ [("script", v)]) ∧ ∀ base : Heap, K.In base → base.Ns mainGlobals mg → FnOk l.prog w K mg base CX0 10 fa fd ["script"] (SpD K gLaw) := by
  have e := hfa.symm.trans (PySem.W.mg_of X G a__law)
  cases e
  have F_is_whole := fun_mk (st := s_is_whole) l__is_whole c__is_whole k__is_whole
  have b_is_whole := F_is_whole.binds (ps := ["value"]) fun _ _ _ _ _ _ us hl => match us, hl with | [_], _ => rfl
  have F_is_short := fun_mk (st := s_is_short) l__is_short c__is_short k__is_short
  have b_is_short := F_is_short.binds (ps := ["value"]) fun _ _ _ _ _ _ us hl => match us, hl with | [_], _ => rfl
  have F_are_short := fun_mk (st := s_are_short) l__are_short c__are_short k__are_short
  have b_are_short := F_are_short.binds (ps := ["values"]) fun _ _ _ _ _ _ us hl => match us, hl with | [_], _ => rfl
  have F_is_short_row := fun_mk (st := s_is_short_row) l__is_short_row c__is_short_row k__is_short_row
  have b_is_short_row := F_is_short_row.binds (ps := ["value", "least", "most"]) fun _ _ _ _ _ _ us hl => match us, hl with | [_, _, _], _ => rfl
  have F_need_number := fun_mk (st := s_need_number) l__need_number c__need_number k__need_number
  have b_need_number := F_need_number.binds (ps := ["number"]) fun _ _ _ _ _ _ us hl => match us, hl with | [_], _ => rfl
  have F_product_of := fun_mk (st := s_product_of) l__product_of c__product_of k__product_of
  have b_product_of := F_product_of.binds (ps := ["one", "other"]) fun _ _ _ _ _ _ us hl => match us, hl with | [_, _], _ => rfl
  have F_sum_of := fun_mk (st := s_sum_of) l__sum_of c__sum_of k__sum_of
  have b_sum_of := F_sum_of.binds (ps := ["one", "other"]) fun _ _ _ _ _ _ us hl => match us, hl with | [_, _], _ => rfl
  have F_difference_of := fun_mk (st := s_difference_of) l__difference_of c__difference_of k__difference_of
  have b_difference_of := F_difference_of.binds (ps := ["one", "other"]) fun _ _ _ _ _ _ us hl => match us, hl with | [_, _], _ => rfl
  have F_times := fun_mk (st := s_times) l__times c__times k__times
  have b_times := F_times.binds (ps := ["row", "number"]) fun _ _ _ _ _ _ us hl => match us, hl with | [_, _], _ => rfl
  have F_Networku_initu := fun_mk (st := s_Networku_initu) l__Networku_initu c__Networku_initu k__Networku_initu
  have b_Networku_initu := F_Networku_initu.binds (ps := ["self", "inputs", "layers", "last"]) fun _ _ _ _ _ _ us hl => match us, hl with | [_, _, _, _], _ => rfl
  have F_Networku_equ := fun_mk (st := s_Networku_equ) l__Networku_equ c__Networku_equ k__Networku_equ
  have b_Networku_equ := F_Networku_equ.binds (ps := ["self", "value"]) fun _ _ _ _ _ _ us hl => match us, hl with | [_, _], _ => rfl
  have F_are_parts := fun_mk (st := s_are_parts) l__are_parts c__are_parts k__are_parts
  have b_are_parts := F_are_parts.binds (ps := ["inputs", "layers", "last"]) fun _ _ _ _ _ _ us hl => match us, hl with | [_, _, _], _ => rfl
  have F_need_network := fun_mk (st := s_need_network) l__need_network c__need_network k__need_network
  have b_need_network := F_need_network.binds (ps := ["network"]) fun _ _ _ _ _ _ us hl => match us, hl with | [_], _ => rfl
  have F_need_network_and_row := fun_mk (st := s_need_network_and_row) l__need_network_and_row c__need_network_and_row k__need_network_and_row
  have b_need_network_and_row := F_need_network_and_row.binds (ps := ["network", "row"]) fun _ _ _ _ _ _ us hl => match us, hl with | [_, _], _ => rfl
  have F_need_networks := fun_mk (st := s_need_networks) l__need_networks c__need_networks k__need_networks
  have b_need_networks := F_need_networks.binds (ps := ["one", "other"]) fun _ _ _ _ _ _ us hl => match us, hl with | [_, _], _ => rfl
  have F_all_values := fun_mk (st := s_all_values) l__all_values c__all_values k__all_values
  have b_all_values := F_all_values.binds (ps := ["network", "row"]) fun _ _ _ _ _ _ us hl => match us, hl with | [_, _], _ => rfl
  have F_value_of := fun_mk (st := s_value_of) l__value_of c__value_of k__value_of
  have b_value_of := F_value_of.binds (ps := ["network", "row"]) fun _ _ _ _ _ _ us hl => match us, hl with | [_, _], _ => rfl
  have F_bounded := fun_mk (st := s_bounded) l__bounded c__bounded k__bounded
  have b_bounded := F_bounded.binds (ps := ["inputs", "layers", "last"]) fun _ _ _ _ _ _ us hl => match us, hl with | [_, _, _], _ => rfl
  have F_widened := fun_mk (st := s_widened) l__widened c__widened k__widened
  have b_widened := F_widened.binds (ps := ["row", "places", "width"]) fun _ _ _ _ _ _ us hl => match us, hl with | [_, _, _], _ => rfl
  have F_layer_at := fun_mk (st := s_layer_at) l__layer_at c__layer_at k__layer_at
  have b_layer_at := F_layer_at.binds (ps := ["network", "at"]) fun _ _ _ _ _ _ us hl => match us, hl with | [_, _], _ => rfl
  have F_side_by_side := fun_mk (st := s_side_by_side) l__side_by_side c__side_by_side k__side_by_side
  have b_side_by_side := F_side_by_side.binds (ps := ["one", "other"]) fun _ _ _ _ _ _ us hl => match us, hl with | [_, _], _ => rfl
  have F_added := fun_mk (st := s_added) l__added c__added k__added
  have b_added := F_added.binds (ps := ["one", "other"]) fun _ _ _ _ _ _ us hl => match us, hl with | [_, _], _ => rfl
  have F_multiplied := fun_mk (st := s_multiplied) l__multiplied c__multiplied k__multiplied
  have b_multiplied := F_multiplied.binds (ps := ["network", "number"]) fun _ _ _ _ _ _ us hl => match us, hl with | [_, _], _ => rfl
  have F_ramped := fun_mk (st := s_ramped) l__ramped c__ramped k__ramped
  have b_ramped := F_ramped.binds (ps := ["network"]) fun _ _ _ _ _ _ us hl => match us, hl with | [_], _ => rfl
  have F_greater := fun_mk (st := s_greater) l__greater c__greater k__greater
  have b_greater := F_greater.binds (ps := ["one", "other"]) fun _ _ _ _ _ _ us hl => match us, hl with | [_, _], _ => rfl
  have F__law_vat := fun_mk (st := s__law_vat) l___law_vat c___law_vat k___law_vat
  have b__law_vat := F__law_vat.binds (ps := ["script", "spot"]) fun _ _ _ _ _ _ us hl => match us, hl with | [_, _], _ => rfl
  have F__law_draw := fun_mk (st := s__law_draw) l___law_draw c___law_draw k___law_draw
  have b__law_draw := F__law_draw.binds (ps := ["vat", "total"]) fun _ _ _ _ _ _ us hl => match us, hl with | [_, _], _ => rfl
  have F__law_pick := fun_mk (st := s__law_pick) l___law_pick c___law_pick k___law_pick
  have b__law_pick := F__law_pick.binds (ps := ["vat", "items"]) fun _ _ _ _ _ _ us hl => match us, hl with | [_, _], _ => rfl
  have F__law_told := fun_mk (st := s__law_told) l___law_told c___law_told k___law_told
  have b__law_told := F__law_told.binds (ps := ["row", "numbers"]) fun _ _ _ _ _ _ us hl => match us, hl with | [_, _], _ => rfl
  have F__law_numbers := fun_mk (st := s__law_numbers) l___law_numbers c___law_numbers k___law_numbers
  have b__law_numbers := F__law_numbers.binds (ps := ["inputs", "layers", "row"]) fun _ _ _ _ _ _ us hl => match us, hl with | [_, _, _], _ => rfl
  have F__law_row := fun_mk (st := s__law_row) l___law_row c___law_row k___law_row
  have b__law_row := F__law_row.binds (ps := ["vat", "many", "size"]) fun _ _ _ _ _ _ us hl => match us, hl with | [_, _, _], _ => rfl
  have F__law_parts := fun_mk (st := s__law_parts) l___law_parts c___law_parts k___law_parts
  have b__law_parts := F__law_parts.binds (ps := ["vat", "inputs", "depth", "wide", "size"]) fun _ _ _ _ _ _ us hl => match us, hl with | [_, _, _, _, _], _ => rfl
  have F__law_value := fun_mk (st := s__law_value) l___law_value c___law_value k___law_value
  have b__law_value := F__law_value.binds (ps := ["inputs", "layers", "last", "row"]) fun _ _ _ _ _ _ us hl => match us, hl with | [_, _, _, _], _ => rfl
  have F__law_rows := fun_mk (st := s__law_rows) l___law_rows c___law_rows k___law_rows
  have b__law_rows := F__law_rows.binds (ps := ["vat", "many", "turns"]) fun _ _ _ _ _ _ us hl => match us, hl with | [_, _, _], _ => rfl
  have F__law_beside := fun_mk (st := s__law_beside) l___law_beside c___law_beside k___law_beside
  have b__law_beside := F__law_beside.binds (ps := ["one", "other"]) fun _ _ _ _ _ _ us hl => match us, hl with | [_, _], _ => rfl
  have F__law_spread := fun_mk (st := s__law_spread) l___law_spread c___law_spread k___law_spread
  have b__law_spread := F__law_spread.binds (ps := ["row", "inputs", "sizes", "side"]) fun _ _ _ _ _ _ us hl => match us, hl with | [_, _, _, _], _ => rfl
  have F__law_right := fun_mk (st := s__law_right) l___law_right c___law_right k___law_right
  have b__law_right := F__law_right.binds (ps := ["vat"]) fun _ _ _ _ _ _ us hl => match us, hl with | [_], _ => rfl
  have F_law := fun_mk (st := s_law) l__law c__law k__law
  have b_law := F_law.binds (ps := ["script"]) fun _ _ _ _ _ _ us hl => match us, hl with | [_], _ => rfl
  let T : Txt K mg := { a_is_whole := a_is_whole, d_is_whole := _, F_is_whole := F_is_whole, b_is_whole := b_is_whole, m_is_whole := PySem.W.mg_of X G a__is_whole, k_is_whole := k__is_whole, a_is_short := a_is_short, d_is_short := _, F_is_short := F_is_short, b_is_short := b_is_short, m_is_short := PySem.W.mg_of X G a__is_short, k_is_short := k__is_short, a_are_short := a_are_short, d_are_short := _, F_are_short := F_are_short, b_are_short := b_are_short, m_are_short := PySem.W.mg_of X G a__are_short, k_are_short := k__are_short, a_is_short_row := a_is_short_row, d_is_short_row := _, F_is_short_row := F_is_short_row, b_is_short_row := b_is_short_row, m_is_short_row := PySem.W.mg_of X G a__is_short_row, k_is_short_row := k__is_short_row, a_need_number := a_need_number, d_need_number := _, F_need_number := F_need_number, b_need_number := b_need_number, m_need_number := PySem.W.mg_of X G a__need_number, k_need_number := k__need_number, a_product_of := a_product_of, d_product_of := _, F_product_of := F_product_of, b_product_of := b_product_of, m_product_of := PySem.W.mg_of X G a__product_of, k_product_of := k__product_of, a_sum_of := a_sum_of, d_sum_of := _, F_sum_of := F_sum_of, b_sum_of := b_sum_of, m_sum_of := PySem.W.mg_of X G a__sum_of, k_sum_of := k__sum_of, a_difference_of := a_difference_of, d_difference_of := _, F_difference_of := F_difference_of, b_difference_of := b_difference_of, m_difference_of := PySem.W.mg_of X G a__difference_of, k_difference_of := k__difference_of, a_times := a_times, d_times := _, F_times := F_times, b_times := b_times, m_times := PySem.W.mg_of X G a__times, k_times := k__times, a_Networku_initu := a_Networku_initu, d_Networku_initu := _, F_Networku_initu := F_Networku_initu, b_Networku_initu := b_Networku_initu, a_Networku_equ := a_Networku_equ, d_Networku_equ := _, F_Networku_equ := F_Networku_equ, b_Networku_equ := b_Networku_equ, a_are_parts := a_are_parts, d_are_parts := _, F_are_parts := F_are_parts, b_are_parts := b_are_parts, m_are_parts := PySem.W.mg_of X G a__are_parts, k_are_parts := k__are_parts, a_need_network := a_need_network, d_need_network := _, F_need_network := F_need_network, b_need_network := b_need_network, m_need_network := PySem.W.mg_of X G a__need_network, k_need_network := k__need_network, a_need_network_and_row := a_need_network_and_row, d_need_network_and_row := _, F_need_network_and_row := F_need_network_and_row, b_need_network_and_row := b_need_network_and_row, m_need_network_and_row := PySem.W.mg_of X G a__need_network_and_row, k_need_network_and_row := k__need_network_and_row, a_need_networks := a_need_networks, d_need_networks := _, F_need_networks := F_need_networks, b_need_networks := b_need_networks, m_need_networks := PySem.W.mg_of X G a__need_networks, k_need_networks := k__need_networks, a_all_values := a_all_values, d_all_values := _, F_all_values := F_all_values, b_all_values := b_all_values, m_all_values := PySem.W.mg_of X G a__all_values, k_all_values := k__all_values, a_value_of := a_value_of, d_value_of := _, F_value_of := F_value_of, b_value_of := b_value_of, m_value_of := PySem.W.mg_of X G a__value_of, k_value_of := k__value_of, a_bounded := a_bounded, d_bounded := _, F_bounded := F_bounded, b_bounded := b_bounded, m_bounded := PySem.W.mg_of X G a__bounded, k_bounded := k__bounded, a_widened := a_widened, d_widened := _, F_widened := F_widened, b_widened := b_widened, m_widened := PySem.W.mg_of X G a__widened, k_widened := k__widened, a_layer_at := a_layer_at, d_layer_at := _, F_layer_at := F_layer_at, b_layer_at := b_layer_at, m_layer_at := PySem.W.mg_of X G a__layer_at, k_layer_at := k__layer_at, a_side_by_side := a_side_by_side, d_side_by_side := _, F_side_by_side := F_side_by_side, b_side_by_side := b_side_by_side, m_side_by_side := PySem.W.mg_of X G a__side_by_side, k_side_by_side := k__side_by_side, a_added := a_added, d_added := _, F_added := F_added, b_added := b_added, m_added := PySem.W.mg_of X G a__added, k_added := k__added, a_multiplied := a_multiplied, d_multiplied := _, F_multiplied := F_multiplied, b_multiplied := b_multiplied, m_multiplied := PySem.W.mg_of X G a__multiplied, k_multiplied := k__multiplied, a_ramped := a_ramped, d_ramped := _, F_ramped := F_ramped, b_ramped := b_ramped, m_ramped := PySem.W.mg_of X G a__ramped, k_ramped := k__ramped, a_greater := a_greater, d_greater := _, F_greater := F_greater, b_greater := b_greater, m_greater := PySem.W.mg_of X G a__greater, k_greater := k__greater, a__law_vat := a__law_vat, d__law_vat := _, F__law_vat := F__law_vat, b__law_vat := b__law_vat, m__law_vat := PySem.W.mg_of X G a___law_vat, k__law_vat := k___law_vat, a__law_draw := a__law_draw, d__law_draw := _, F__law_draw := F__law_draw, b__law_draw := b__law_draw, m__law_draw := PySem.W.mg_of X G a___law_draw, k__law_draw := k___law_draw, a__law_pick := a__law_pick, d__law_pick := _, F__law_pick := F__law_pick, b__law_pick := b__law_pick, m__law_pick := PySem.W.mg_of X G a___law_pick, k__law_pick := k___law_pick, a__law_told := a__law_told, d__law_told := _, F__law_told := F__law_told, b__law_told := b__law_told, m__law_told := PySem.W.mg_of X G a___law_told, k__law_told := k___law_told, a__law_numbers := a__law_numbers, d__law_numbers := _, F__law_numbers := F__law_numbers, b__law_numbers := b__law_numbers, m__law_numbers := PySem.W.mg_of X G a___law_numbers, k__law_numbers := k___law_numbers, a__law_row := a__law_row, d__law_row := _, F__law_row := F__law_row, b__law_row := b__law_row, m__law_row := PySem.W.mg_of X G a___law_row, k__law_row := k___law_row, a__law_parts := a__law_parts, d__law_parts := _, F__law_parts := F__law_parts, b__law_parts := b__law_parts, m__law_parts := PySem.W.mg_of X G a___law_parts, k__law_parts := k___law_parts, a__law_value := a__law_value, d__law_value := _, F__law_value := F__law_value, b__law_value := b__law_value, m__law_value := PySem.W.mg_of X G a___law_value, k__law_value := k___law_value, a__law_rows := a__law_rows, d__law_rows := _, F__law_rows := F__law_rows, b__law_rows := b__law_rows, m__law_rows := PySem.W.mg_of X G a___law_rows, k__law_rows := k___law_rows, a__law_beside := a__law_beside, d__law_beside := _, F__law_beside := F__law_beside, b__law_beside := b__law_beside, m__law_beside := PySem.W.mg_of X G a___law_beside, k__law_beside := k___law_beside, a__law_spread := a__law_spread, d__law_spread := _, F__law_spread := F__law_spread, b__law_spread := b__law_spread, m__law_spread := PySem.W.mg_of X G a___law_spread, k__law_spread := k___law_spread, a__law_right := a__law_right, d__law_right := _, F__law_right := F__law_right, b__law_right := b__law_right, m__law_right := PySem.W.mg_of X G a___law_right, k__law_right := k___law_right, a_law := fa, d_law := _, F_law := F_law, b_law := b_law, t_BEYOND := t_BEYOND, m_BEYOND := PySem.W.mg_of X G c_BEYOND, t_BENEATH := t_BENEATH, m_BENEATH := PySem.W.mg_of X G c_BENEATH, t_MOST_INPUTS := t_MOST_INPUTS, m_MOST_INPUTS := PySem.W.mg_of X G c_MOST_INPUTS, t_MOST_LAYERS := t_MOST_LAYERS, m_MOST_LAYERS := PySem.W.mg_of X G c_MOST_LAYERS, t_MOST_IN_LAYER := t_MOST_IN_LAYER, m_MOST_IN_LAYER := PySem.W.mg_of X G c_MOST_IN_LAYER, t_MOST_UNITS := t_MOST_UNITS, m_MOST_UNITS := PySem.W.mg_of X G c_MOST_UNITS, n_isinstance := PySem.W.mg_none_of X G z_isinstance, n_int := PySem.W.mg_none_of X G z_int, n_bool := PySem.W.mg_none_of X G z_bool, n_tuple := PySem.W.mg_none_of X G z_tuple, n_list := PySem.W.mg_none_of X G z_list, n_len := PySem.W.mg_none_of X G z_len, n_sum := PySem.W.mg_none_of X G z_sum, n_all := PySem.W.mg_none_of X G z_all, n_any := PySem.W.mg_none_of X G z_any, n_zip := PySem.W.mg_none_of X G z_zip, n_max := PySem.W.mg_none_of X G z_max, n_min := PySem.W.mg_none_of X G z_min, n_abs := PySem.W.mg_none_of X G z_abs, n_range := PySem.W.mg_none_of X G z_range, n_enumerate := PySem.W.mg_none_of X G z_enumerate, n_reversed := PySem.W.mg_none_of X G z_reversed, n_sorted := PySem.W.mg_none_of X G z_sorted, n_str := PySem.W.mg_none_of X G z_str, C := C, cl := ⟨pg, hd, po, sa⟩, na_inputs := n_inputs, na_layers := n_layers, na_last := n_last, na_depth := n_depth, na_units := n_units, m_Network := PySem.W.mg_of X G hC, M_Network := ⟨mk, a__Networku_initu, i__Networku_initu, kc⟩, isC := ⟨⟨pg, hd, po, sa⟩, ica, icn, ict, icm⟩, o_eq := a__Networku_equ, o_fn := i__Networku_equ, o_ne := one, o_sub := osub, kC := by unfold PySem.W.kitOne; simp, icl := x__icl, tyC := x__tyC, sb_non := x__sb_non, kt_non := kt_of x__icl x__tyC x__sb_non, sb_int := x__sb_int, kt_int := kt_of x__icl x__tyC x__sb_int, sb_tup := x__sb_tup, kt_tup := kt_of x__icl x__tyC x__sb_tup }
  exact ⟨_, fun s v => .of_eq rfl, fun base _ _ => ok_law T⟩
theorem walk {l : PySem.W.OpenLaw} {q : Program} {loose : List Str} {XP : (Str → Option Value) → Heap → Prop} {YP : World → Heap → Prop} {d : DefRec} {K : Params → PySem.W.Frag} (hn : l.most = some 63) (hdf : d.params.defaults = [])
    (hY : ∀ (w : World) (h : Heap), YP w h → (K w.params).In h)
    (F : ∀ (w : World) (mg : Str → Option Value) (fa : Addr) (h : Heap), (K w.params).In h → h.Ns mainGlobals mg → mg d.name = some (.ref fa) →
      ∃ fd : FuncData, (∀ (s : Shared) (u : Value), BindsTo s fd ⟨[u], []⟩ [("script", u)]) ∧ ∀ base : Heap, (K w.params).In base → base.Ns mainGlobals mg → FnOk l.prog w (K w.params) mg base CX0 10 fa fd ["script"] (SpD (K w.params) gLaw)) :
    PySem.W.WalkO q loose XP YP l.row.toRowW d [] (fun f vs => PySem.call f vs) :=
  L2.walk_of (n := 63) (k := 10) (x := "script") (CX := fun _ => CX0) (sp := fun w => SpD (K w.params) gLaw) hn (by decide) hdf ⟨rfl, by decide, by decide⟩ hY F (fun _ H a ns hl _ hS => ⟨H, [], [], [.d (.scr ns)], .bl true, [], ⟨Evl.Ex.refl _, rfl, fun k a s h => by simp at h, List.nodup_nil⟩, .cons (Rep.scr hS : Rep _ _ _ (.scr ns)) .nil, ⟨ns, rfl, hl, rfl, rfl, rfl⟩, fun v B' H' _ _ r => by cases r; rfl⟩) fun _ _ _ _ _ z => z
end N20
open PySem PySem.W PyProof.Rows
set_option maxRecDepth 100000 in
set_option maxHeartbeats 0 in
theorem PySem.Challenge.cw_rampworks_k20_whole_networks_put_togethe_holds : PySem.Challenge.rw_rampworks_k20_whole_networks_put_togethe.Holds := by
  w_on; o_law; k_head; (case hw => w_witness2)
  k_fill
  refine N20.walk (l := PySem.Challenge.rw_rampworks_k20_whole_networks_put_togethe) rfl rfl (fun w h Y => PySem.W.kIn_of Y) ?F
  case F =>
    intro w mg fa h KX G hmg
    refine' N20.all_mk KX G hmg ?hC ?c_BEYOND ?c_BENEATH ?c_MOST_INPUTS ?c_MOST_LAYERS ?c_MOST_IN_LAYER ?c_MOST_UNITS ?a__is_whole ?l__is_whole ?c__is_whole ?k__is_whole ?a__is_short ?l__is_short ?c__is_short ?k__is_short ?a__are_short ?l__are_short ?c__are_short ?k__are_short ?a__is_short_row ?l__is_short_row ?c__is_short_row ?k__is_short_row ?a__need_number ?l__need_number ?c__need_number ?k__need_number ?a__product_of ?l__product_of ?c__product_of ?k__product_of ?a__sum_of ?l__sum_of ?c__sum_of ?k__sum_of ?a__difference_of ?l__difference_of ?c__difference_of ?k__difference_of ?a__times ?l__times ?c__times ?k__times ?a__Networku_initu ?i__Networku_initu ?l__Networku_initu ?c__Networku_initu ?k__Networku_initu ?a__Networku_equ ?i__Networku_equ ?l__Networku_equ ?c__Networku_equ ?k__Networku_equ ?a__are_parts ?l__are_parts ?c__are_parts ?k__are_parts ?a__need_network ?l__need_network ?c__need_network ?k__need_network ?a__need_network_and_row ?l__need_network_and_row ?c__need_network_and_row ?k__need_network_and_row ?a__need_networks ?l__need_networks ?c__need_networks ?k__need_networks ?a__all_values ?l__all_values ?c__all_values ?k__all_values ?a__value_of ?l__value_of ?c__value_of ?k__value_of ?a__bounded ?l__bounded ?c__bounded ?k__bounded ?a__widened ?l__widened ?c__widened ?k__widened ?a__layer_at ?l__layer_at ?c__layer_at ?k__layer_at ?a__side_by_side ?l__side_by_side ?c__side_by_side ?k__side_by_side ?a__added ?l__added ?c__added ?k__added ?a__multiplied ?l__multiplied ?c__multiplied ?k__multiplied ?a__ramped ?l__ramped ?c__ramped ?k__ramped ?a__greater ?l__greater ?c__greater ?k__greater ?a___law_vat ?l___law_vat ?c___law_vat ?k___law_vat ?a___law_draw ?l___law_draw ?c___law_draw ?k___law_draw ?a___law_pick ?l___law_pick ?c___law_pick ?k___law_pick ?a___law_told ?l___law_told ?c___law_told ?k___law_told ?a___law_numbers ?l___law_numbers ?c___law_numbers ?k___law_numbers ?a___law_row ?l___law_row ?c___law_row ?k___law_row ?a___law_parts ?l___law_parts ?c___law_parts ?k___law_parts ?a___law_value ?l___law_value ?c___law_value ?k___law_value ?a___law_rows ?l___law_rows ?c___law_rows ?k___law_rows ?a___law_beside ?l___law_beside ?c___law_beside ?k___law_beside ?a___law_spread ?l___law_spread ?c___law_spread ?k___law_spread ?a___law_right ?l___law_right ?c___law_right ?k___law_right ?a__law ?l__law ?c__law ?k__law ?z_isinstance ?z_int ?z_bool ?z_tuple ?z_list ?z_len ?z_sum ?z_all ?z_any ?z_zip ?z_max ?z_min ?z_abs ?z_range ?z_enumerate ?z_reversed ?z_sorted ?z_str ?pg ?hd ?po ?sa ?mk ?kc ?n_inputs ?n_layers ?n_last ?n_depth ?n_units ?ica ?icn ?ict ?icm ?one ?osub ?x__icl ?x__tyC ?x__sb_non ?x__sb_int ?x__sb_tup
    (case hC => k_is)
    (case c_BEYOND => k_is)
    (case c_BENEATH => k_is)
    (case c_MOST_INPUTS => k_is)
    (case c_MOST_LAYERS => k_is)
    (case c_MOST_IN_LAYER => k_is)
    (case c_MOST_UNITS => k_is)
    (case a__is_whole => k_is)
    (case l__is_whole => k_is)
    (case c__is_whole => k_is)
    (case k__is_whole => k_is)
    (case a__is_short => k_is)
    (case l__is_short => k_is)
    (case c__is_short => k_is)
    (case k__is_short => k_is)
    (case a__are_short => k_is)
    (case l__are_short => k_is)
    (case c__are_short => k_is)
    (case k__are_short => k_is)
    (case a__is_short_row => k_is)
    (case l__is_short_row => k_is)
    (case c__is_short_row => k_is)
    (case k__is_short_row => k_is)
    (case a__need_number => k_is)
    (case l__need_number => k_is)
    (case c__need_number => k_is)
    (case k__need_number => k_is)
    (case a__product_of => k_is)
    (case l__product_of => k_is)
    (case c__product_of => k_is)
    (case k__product_of => k_is)
    (case a__sum_of => k_is)
    (case l__sum_of => k_is)
    (case c__sum_of => k_is)
    (case k__sum_of => k_is)
    (case a__difference_of => k_is)
    (case l__difference_of => k_is)
    (case c__difference_of => k_is)
    (case k__difference_of => k_is)
    (case a__times => k_is)
    (case l__times => k_is)
    (case c__times => k_is)
    (case k__times => k_is)
    (case a__Networku_initu => k_is)
    (case i__Networku_initu => k_is)
    (case l__Networku_initu => k_is)
    (case c__Networku_initu => k_is)
    (case k__Networku_initu => k_is)
    (case a__Networku_equ => k_is)
    (case i__Networku_equ => k_is)
    (case l__Networku_equ => k_is)
    (case c__Networku_equ => k_is)
    (case k__Networku_equ => k_is)
    (case a__are_parts => k_is)
    (case l__are_parts => k_is)
    (case c__are_parts => k_is)
    (case k__are_parts => k_is)
    (case a__need_network => k_is)
    (case l__need_network => k_is)
    (case c__need_network => k_is)
    (case k__need_network => k_is)
    (case a__need_network_and_row => k_is)
    (case l__need_network_and_row => k_is)
    (case c__need_network_and_row => k_is)
    (case k__need_network_and_row => k_is)
    (case a__need_networks => k_is)
    (case l__need_networks => k_is)
    (case c__need_networks => k_is)
    (case k__need_networks => k_is)
    (case a__all_values => k_is)
    (case l__all_values => k_is)
    (case c__all_values => k_is)
    (case k__all_values => k_is)
    (case a__value_of => k_is)
    (case l__value_of => k_is)
    (case c__value_of => k_is)
    (case k__value_of => k_is)
    (case a__bounded => k_is)
    (case l__bounded => k_is)
    (case c__bounded => k_is)
    (case k__bounded => k_is)
    (case a__widened => k_is)
    (case l__widened => k_is)
    (case c__widened => k_is)
    (case k__widened => k_is)
    (case a__layer_at => k_is)
    (case l__layer_at => k_is)
    (case c__layer_at => k_is)
    (case k__layer_at => k_is)
    (case a__side_by_side => k_is)
    (case l__side_by_side => k_is)
    (case c__side_by_side => k_is)
    (case k__side_by_side => k_is)
    (case a__added => k_is)
    (case l__added => k_is)
    (case c__added => k_is)
    (case k__added => k_is)
    (case a__multiplied => k_is)
    (case l__multiplied => k_is)
    (case c__multiplied => k_is)
    (case k__multiplied => k_is)
    (case a__ramped => k_is)
    (case l__ramped => k_is)
    (case c__ramped => k_is)
    (case k__ramped => k_is)
    (case a__greater => k_is)
    (case l__greater => k_is)
    (case c__greater => k_is)
    (case k__greater => k_is)
    (case a___law_vat => k_is)
    (case l___law_vat => k_is)
    (case c___law_vat => k_is)
    (case k___law_vat => k_is)
    (case a___law_draw => k_is)
    (case l___law_draw => k_is)
    (case c___law_draw => k_is)
    (case k___law_draw => k_is)
    (case a___law_pick => k_is)
    (case l___law_pick => k_is)
    (case c___law_pick => k_is)
    (case k___law_pick => k_is)
    (case a___law_told => k_is)
    (case l___law_told => k_is)
    (case c___law_told => k_is)
    (case k___law_told => k_is)
    (case a___law_numbers => k_is)
    (case l___law_numbers => k_is)
    (case c___law_numbers => k_is)
    (case k___law_numbers => k_is)
    (case a___law_row => k_is)
    (case l___law_row => k_is)
    (case c___law_row => k_is)
    (case k___law_row => k_is)
    (case a___law_parts => k_is)
    (case l___law_parts => k_is)
    (case c___law_parts => k_is)
    (case k___law_parts => k_is)
    (case a___law_value => k_is)
    (case l___law_value => k_is)
    (case c___law_value => k_is)
    (case k___law_value => k_is)
    (case a___law_rows => k_is)
    (case l___law_rows => k_is)
    (case c___law_rows => k_is)
    (case k___law_rows => k_is)
    (case a___law_beside => k_is)
    (case l___law_beside => k_is)
    (case c___law_beside => k_is)
    (case k___law_beside => k_is)
    (case a___law_spread => k_is)
    (case l___law_spread => k_is)
    (case c___law_spread => k_is)
    (case k___law_spread => k_is)
    (case a___law_right => k_is)
    (case l___law_right => k_is)
    (case c___law_right => k_is)
    (case k___law_right => k_is)
    (case a__law => k_is)
    (case l__law => k_is)
    (case c__law => k_is)
    (case k__law => k_is)
    (case z_isinstance => k_is)
    (case z_int => k_is)
    (case z_bool => k_is)
    (case z_tuple => k_is)
    (case z_list => k_is)
    (case z_len => k_is)
    (case z_sum => k_is)
    (case z_all => k_is)
    (case z_any => k_is)
    (case z_zip => k_is)
    (case z_max => k_is)
    (case z_min => k_is)
    (case z_abs => k_is)
    (case z_range => k_is)
    (case z_enumerate => k_is)
    (case z_reversed => k_is)
    (case z_sorted => k_is)
    (case z_str => k_is)
    (case pg => k_is)
    (case hd => k_is)
    (case po => k_is)
    (case sa => k_is)
    (case mk => k_is)
    (case kc => k_is)
    (case n_inputs => k_is)
    (case n_layers => k_is)
    (case n_last => k_is)
    (case n_depth => k_is)
    (case n_units => k_is)
    (case ica => k_is)
    (case icn => k_is)
    (case ict => k_is)
    (case icm => k_is)
    (case one => k_is)
    (case osub => k_is)
    (case x__icl => k_is)
    (case x__tyC => k_is)
    (case x__sb_non => k_is)
    (case x__sb_int => k_is)
    (case x__sb_tup => k_is)
