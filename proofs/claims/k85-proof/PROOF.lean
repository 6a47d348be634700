import PyProof.Rows.All
import Wide.All
import OpenK.AllK
import Wide.FinOn
import PyProof.EqAt
import PyProof.EqKinds
import PyProof.TupleCall
import KE.GoesEnum
import HandS.Base
import HandS.Call
import HandS.List
import HandS.Comp
import HandS.Iter
import HandS.Evl
import HandS.Words
import HandS.Conv
import HandS.TupAny
import HandS.TupMul
import HandS.IsInst
import HandS.Wide
import HandS.RevRange
import HandS.SortInts
import PyProof.IsRules
import HandS.OwnEq
import HandS.More
import PyProof.InstNe
import HandS.FStr
import HandS.Text
import KE.KCallOwn
import HandS.Star
import HandS.TupSets
import HandS.Small
import HandS.StrMore
import HandS.TupLe
import HandS.ReplaceLit
import HandS.Codes
import PySem.Challenge.RW_rampworks_k85_whole_texts_of_lots_readin
set_option Elab.async false
set_option linter.all false
set_option maxRecDepth 100000
set_option maxHeartbeats 4000000
namespace RW
open PySem PySem.Spec PyProof.Rows L2

/-- a sequence at a: a list (true), a tuple (false) -/
def Sq (K : PySem.W.Frag) (k : Bool) (H : Hp) (a : Addr) (xs : List V) : Prop := match k with
  | true => SqL K H a xs
  | false => SqT K H a xs
def itAt (k : Bool) (h : Heap) (it a : Addr) (i : Nat) : Prop := match k with
  | true => h.IsListIter it a i
  | false => h.IsTupleIter it a i
def seqAt (k : Bool) (h : Heap) (a : Addr) (its : Array Value) : Prop := match k with
  | true => h.IsList a its
  | false => h.IsTuple a its
def itObj (k : Bool) (a : Addr) : Obj := match k with
  | true => { cls := .type "list_iterator", data := .fields #[.ref a, .int 0 0] }
  | false => { cls := .type "tuple_iterator", data := .fields #[.ref a, .int 0 0] }
theorem itAt.there {k : Bool} {h : Heap} {it a : Addr} {i : Nat} (x : itAt k h it a i) : ∃ o, h.get? it = some o ∧ ∀ v, o.data ≠ .cell v := by
  cases k with
  | true => obtain ⟨o, e, c, d⟩ := x; exact ⟨o, e, fun v z => by rw [d] at z; cases z⟩
  | false => obtain ⟨o, e, c, d⟩ := x; exact ⟨o, e, fun v z => by rw [d] at z; cases z⟩
theorem itAt.at {k : Bool} {h h' : Heap} {it a : Addr} {i : Nat} (x : itAt k h it a i) (s : ∀ o, h.get? it = some o → h'.get? it = some o) : itAt k h' it a i := by
  cases k with
  | true => exact Heap.IsListIter.at x s
  | false => exact Heap.IsTupleIter.at x s
theorem draws_k {prog : Program} {w : World} {A : Around} (hh : A.handled = none) (k : Bool) (it t : Addr) (hne : t ≠ it) (items : Array Value) :
    Draws prog w A it [it, t] items.size (fun i v => items[i]? = some v) (fun i h => itAt k h it t i ∧ seqAt k h t items) := by
  cases k with
  | true => exact Draws.list hh it t hne items
  | false => exact Draws.tuple hh it t hne items
theorem begins_k (k : Bool) (t : Addr) (items : Array Value) : Begins (.ref t) (itObj k t) fun h => seqAt k h t items := by
  cases k with
  | true => exact begins_list t items
  | false => exact begins_tuple t items
theorem itAt_new {k : Bool} {h : Heap} {it a : Addr} (e : h.get? it = some (itObj k a)) : itAt k h it a 0 := by
  cases k with
  | true => exact ⟨_, e, rfl, rfl⟩
  | false => exact ⟨_, e, rfl, rfl⟩
section
variable {X : Cx} {pins : List (Addr × Obj)} {σ : L2.St} {H : Hp} {s : Shared} {k : Bool} {a : Addr} {xs ys : List V}
theorem inv_seq (I : Inv X pins σ H s) (h : Sq X.K k H a xs) : ∃ its : List Value, Vals xs its ∧ seqAt k s.heap a its.toArray := by
  cases k with
  | true =>
    obtain ⟨its, rv, p, _⟩ := I.list h
    exact ⟨its, rv, p.isList⟩
  | false =>
    obtain ⟨its, rv, p, _⟩ := I.tuple h
    exact ⟨its, rv, p⟩
theorem inv_inj (I : Inv X pins σ H s) (h : Sq X.K k H a xs) (h' : Sq X.K k H a ys) : xs = ys := by
  cases k with
  | true => exact I.list_inj h h'
  | false => exact I.tuple_inj h h'
theorem seqAt.lt {k : Bool} {h : Heap} {a : Addr} {its : Array Value} (x : seqAt k h a its) : a < h.objs.size := by
  cases k with
  | true => obtain ⟨o, e, _⟩ := x; exact Heap.lt_size e
  | false => obtain ⟨o, e, _⟩ := x; exact Heap.lt_size e
end

/-! ### a list or a tuple, walked -/
def ItS (K : PySem.W.Frag) (k : Bool) (a : Addr) : It := match k with
  | true => Itl K a
  | false => Itt K a
def iSeq (K : PySem.W.Frag) (tl : TE) : TI := fun σ H R => tl σ H fun x H1 => ∃ a k, x = .ref a ∧ (∃ xs, Sq K k H1 a xs) ∧ R (ItS K k a) H1
theorem pi_seq {X : Cx} {tg l : Expr} {tl : TE} (hl : PE X l tl) : PI X tg l (iSeq X.K tl) := by
  refine ⟨fun pins s σ H R I h => ?_⟩
  refine thn (hl.run pins s σ H _ I h) fun v s1 ⟨x, H1, I1, r1, q1⟩ => ?_
  obtain ⟨a, k, e, ⟨xs, hq⟩, q⟩ := q1
  subst e
  cases r1
  obtain ⟨its, rv, p⟩ := inv_seq I1 hq
  cases k with
  | true =>
    refine wpAny_pyIter_list p ?_
    refine ⟨s1.heap.objs.size, [s1.heap.objs.size], _, _, H1, rfl, I1.kept (t' := s1.toks) fun b o e => Heap.get?_push_of_some _ e, turn_list a _, ⟨_, Heap.get?_push_size _ rfl, rfl, rfl⟩, fun b hb => ?_, q⟩
    have e : b = s1.heap.objs.size := by simpa using hb
    subst e
    exact I1.fpOk (Nat.le_refl _) (I1.hok.fresh (Nat.le_refl _))
  | false =>
    refine wpAny_pyIter_tuple p ?_
    refine ⟨s1.heap.objs.size, [s1.heap.objs.size], _, _, H1, rfl, I1.kept (t' := s1.toks) fun b o e => Heap.get?_push_of_some _ e, turn_tuple a _, ⟨_, Heap.get?_push_size _ rfl, rfl, rfl⟩, fun b hb => ?_, q⟩
    have e : b = s1.heap.objs.size := by simpa using hb
    subst e
    exact I1.fpOk (Nat.le_refl _) (I1.hok.fresh (Nat.le_refl _))

/-! ### zip of two sequences -/
def ItzG (K : PySem.W.Frag) (k1 k2 : Bool) (a b : Addr) : It :=
  ⟨fun i H => ∃ (xs ys : List V) (x y : V), Sq K k1 H a xs ∧ Sq K k2 H b ys ∧ xs[i]? = some x ∧ ys[i]? = some y,
    fun i H v H' => ∃ T x y, v = .ref T ∧ H T = none ∧ H' = upd H T (.tup [x, y]) ∧ (∀ xs, Sq K k1 H a xs → xs[i]? = some x) ∧ ∀ ys, Sq K k2 H b ys → ys[i]? = some y,
    fun i H => ∃ xs ys : List V, Sq K k1 H a xs ∧ Sq K k2 H b ys ∧ i ≤ xs.length ∧ i ≤ ys.length ∧ (xs.length ≤ i ∨ ys.length ≤ i)⟩
theorem turn_zipG {P : Program} {w : World} {K : PySem.W.Frag} {elts : List Expr} {kk : Nat} {tpos : Pos} {k1 k2 : Bool} {a b z TI TO i1 i2 : Addr} (D : ZipSep2 z TI TO i1 i2 [i1, a] [i2, b]) (n1 : a ≠ i1) (n2 : b ≠ i2) :
    Turn P w K (.Tuple elts kk tpos) (ItzG K k1 k2 a b) [z, TI, TO, i1, i2] z (fun i h => IsZip h z TI TO .none ∧ IsTupOf2 h TI (.ref i1) (.ref i2) ∧ (∃ x y, IsTupOf2 h TO x y) ∧ itAt k1 h i1 a i ∧ itAt k2 h i2 b i) where
  mem := by simp
  obj := fun i h st c hc => by
    obtain ⟨hz, hTI, ⟨x, y, hTO⟩, h1, h2⟩ := st
    have e' : c = z ∨ c = TI ∨ c = TO ∨ c = i1 ∨ c = i2 := by simpa using hc
    rcases e' with q | q | q | q | q
    · rw [q]; exact ⟨_, hz, fun v q => nomatch q⟩
    · rw [q]; exact ⟨_, hTI, fun v q => nomatch q⟩
    · rw [q]; exact ⟨_, hTO, fun v q => nomatch q⟩
    · rw [q]; exact h1.there
    · rw [q]; exact h2.there
  keep := fun i h h' st k => by
    obtain ⟨hz, hTI, ⟨x, y, hTO⟩, h1, h2⟩ := st
    exact ⟨k z (by simp) _ hz, k TI (by simp) _ hTI, ⟨x, y, k TO (by simp) _ hTO⟩, h1.at fun o q => k i1 (by simp) o q, h2.at fun o q => k i2 (by simp) o q⟩
  item := by
    intro X hP hw hK hc i pins s σ H E I hf st hg
    subst hP hw hK
    obtain ⟨hz, hTI, ⟨x0, y0, hTO⟩, h1, h2⟩ := st
    obtain ⟨xs, ys, x, y, hqx, hqy, hx, hy⟩ := hg
    obtain ⟨its, rv, p⟩ := inv_seq I hqx
    obtain ⟨its2, rv2, p2⟩ := inv_seq I hqy
    obtain ⟨u, hu, ru⟩ := rv.get hx
    obtain ⟨u2, hu2, ru2⟩ := rv2.get hy
    have hzl : z < s.heap.objs.size := Heap.lt_size hz
    have hh : X.A.in1.handled = none := I.ok.hd hc
    have l1 : i < its.toArray.size := by
      have := (List.getElem?_eq_some_iff.mp hu).1
      simpa using this
    have l2 : i < its2.toArray.size := by
      have := (List.getElem?_eq_some_iff.mp hu2).1
      simpa using this
    refine wpAny_pyNext_zipD2_item D (draws_k hh k1 i1 a n1 its.toArray) (draws_k hh k2 i2 b n2 its2.toArray) hz hTI hTO ⟨h1, p⟩ ⟨h2, p2⟩ l1 l2 fun v1 v2 h' tk e1 e2 z' TO' h1' h2' hT hsz hk => ?_
    have e1' : v1 = u := by
      have q : its[i]? = some v1 := by simpa using e1
      rw [hu] at q
      exact (Option.some.inj q).symm
    have e2' : v2 = u2 := by
      have q : its2[i]? = some v2 := by simpa using e2
      rw [hu2] at q
      exact (Option.some.inj q).symm
    subst e1' e2'
    refine ⟨_, rfl, wpAny_letOwnedTupleGo_zip (s := { s with heap := h', toks := tk }) z' fun h'' z'' sb => ?_⟩
    have hT2 : h''.get? s.heap.objs.size = some { cls := .type "tuple", data := .seq #[v1, v2] } := (sb.2 _ (Nat.ne_of_gt hzl)).trans hT
    have new : ObjOk X.prog X.w (upd H s.heap.objs.size (.tup [x, y])) h'' s.heap.objs.size (.tup [x, y]) :=
      ⟨by show 2 ≤ sizeLine; decide, [v1, v2], .cons ru (.cons ru2 .nil), ⟨_, hT2, rfl, _, rfl⟩⟩
    have I1 : Inv X pins σ (upd H s.heap.objs.size (.tup [x, y])) { s with heap := h'', toks := tk } :=
      I.turnedNew (t' := tk) (ch := [z, TI, TO, i1, i2]) (fun c o hb q => (sb.2 c (fun q' => hb (by simp [q']))).trans (hk c o (fun q' => hb (by simp [q'])) (fun q' => hb (by simp [q'])) (fun q' => hb (by simp [q'])) (fun q' => hb (by simp [q'])) q)) hf (Nat.le_refl _) new
    refine ⟨.ref s.heap.objs.size, _, I1, rfl, ⟨_, x, y, rfl, I.hok.fresh (Nat.le_refl _), rfl, fun l hl => by rw [inv_inj I hl hqx]; exact hx, fun l hl => by rw [inv_inj I hl hqy]; exact hy⟩, ⟨z'', ?_, ⟨v1, v2, ?_⟩, ?_, ?_⟩, fun c hcm => ?_⟩
    · exact (sb.2 _ D.TIz).trans (hk _ _ D.TIz D.TITO D.TIi1 D.TIi2 hTI)
    · exact (sb.2 _ D.TOz).trans TO'
    · exact h1'.1.at fun o q => (sb.2 _ (Ne.symm D.zi1)).trans q
    · exact h2'.1.at fun o q => (sb.2 _ (Ne.symm D.zi2)).trans q
    · have hlt : c < s.heap.objs.size := by
        have e' : c = z ∨ c = TI ∨ c = TO ∨ c = i1 ∨ c = i2 := by simpa using hcm
        rcases e' with q | q | q | q | q
        · rw [q]; exact hzl
        · rw [q]; exact Heap.lt_size hTI
        · rw [q]; exact Heap.lt_size hTO
        · rw [q]; obtain ⟨_, e1, _⟩ := h1.there; exact Heap.lt_size e1
        · rw [q]; obtain ⟨_, e2, _⟩ := h2.there; exact Heap.lt_size e2
      rw [upd_ne (Nat.ne_of_lt hlt)]
      exact (hf c hcm).1
  done := by
    intro X hP hw hK hc i pins s σ H E I hf st hg
    subst hP hw hK
    obtain ⟨hz, hTI, ⟨x0, y0, hTO⟩, h1, h2⟩ := st
    obtain ⟨xs, ys, hqx, hqy, le1, le2, hend⟩ := hg
    obtain ⟨its, rv, p⟩ := inv_seq I hqx
    obtain ⟨its2, rv2, p2⟩ := inv_seq I hqy
    have l1 := rv.length
    have l2 := rv2.length
    have hh : X.A.in1.handled = none := I.ok.hd hc
    exact wpAny_pyNext_zipD2_end D (draws_k hh k1 i1 a n1 its.toArray) (draws_k hh k2 i2 b n2 its2.toArray) hz hTI hTO ⟨h1, p⟩ ⟨h2, p2⟩ (by simp; omega) (by simp; omega) (by simp; omega) fun h' tk hk => ⟨rfl, I.turnedL (t' := tk) (ch := [z, TI, TO, i1, i2]) (fun c o hb q =>
      hk c o (fun q' => hb (by simp [q'])) (fun q' => hb (by simp [q'])) (fun q' => hb (by simp [q'])) (fun q' => hb (by simp [q'])) q) hf⟩
  self := fun A i s Q E st h => wpAny_pyIter_zip st.1 h

def iZipG (K : PySem.W.Frag) (ta : TA) : TI := fun σ H R => ta σ H fun vs H1 => ∃ a b k1 k2 xs ys, vs = [.ref a, .ref b] ∧ Sq K k1 H1 a xs ∧ Sq K k2 H1 b ys ∧ R (ItzG K k1 k2 a b) H1
theorem pi_zipG {X : Cx} {e e2 : Expr} {ta : TA} {p pos tpos : Pos} {elts : List Expr} {kk : Nat} (hg : Gl X "zip") (hm : X.mg "zip" = none) (ha : PA X [e, e2] ta)
    (hs : starEach [e, e2] X.env = (false, eval e X.env) :: starEach [e2] X.env := by rfl) (hpl : (backTo pos (starEach [e2] X.env)).any (·.1) = false := by rfl) :
    PI X (.Tuple elts kk tpos) (.Call (.Name "zip" p) [e, e2] [] pos) (iZipG X.K ta) := by
  refine ⟨fun pins s σ H R I h => ?_⟩
  refine Call_ (ld_blt I hg hm PyProof.Rows.boot_zip (PyProof.Rows.callWith_type1 (thn (ha.run pos pins s σ H _ I h) fun us s1 ⟨vs, H1, I1, r1, q1⟩ => ?_) hs hpl))
  obtain ⟨a, b, k1, k2, xs, ys, ex, hqx, hqy, q⟩ := q1
  subst ex
  cases r1 with
  | cons r rr =>
    cases rr with
    | cons r' rr =>
      cases rr
      cases r
      cases r'
      have fresh5 : ∀ c, c ∈ [s1.heap.objs.size + 4, s1.heap.objs.size + 2, s1.heap.objs.size + 3, s1.heap.objs.size, s1.heap.objs.size + 1] → FpOk X pins H1 c := fun c hcm => by
        have e' : c = s1.heap.objs.size + 4 ∨ c = s1.heap.objs.size + 2 ∨ c = s1.heap.objs.size + 3 ∨ c = s1.heap.objs.size ∨ c = s1.heap.objs.size + 1 := by simpa using hcm
        have hle : s1.heap.objs.size ≤ c := by
          rcases e' with z | z | z | z | z
          · rw [z]; exact Nat.le_add_right _ _
          · rw [z]; exact Nat.le_add_right _ _
          · rw [z]; exact Nat.le_add_right _ _
          · rw [z]; exact Nat.le_refl _
          · rw [z]; exact Nat.le_add_right _ _
        exact I1.fpOk hle (I1.hok.fresh hle)
      obtain ⟨its, rv, p1⟩ := inv_seq I1 hqx
      obtain ⟨its2, rv2, p2⟩ := inv_seq I1 hqy
      have ha1 := p1.lt
      have ha2 := p2.lt
      refine zip_begins2 (begins_k k1 a its.toArray) (begins_k k2 b its2.toArray) p1 p2 fun h' hz hTI hTO h1 h2 hsz hk => wpAny_pyIter_zip hz ?_
      have I2 : Inv X pins σ H1 { s1 with heap := h' } := I1.kept (t' := s1.toks) hk
      have S : ZipSep2 (s1.heap.objs.size + 4) (s1.heap.objs.size + 2) (s1.heap.objs.size + 3) s1.heap.objs.size (s1.heap.objs.size + 1) [s1.heap.objs.size, a] [s1.heap.objs.size + 1, b] :=
        zip_sep2 (fp1 := [a]) (fp2 := [b]) (fun c hc => by rw [List.mem_singleton.mp hc]; exact ha1) (fun c hc => by rw [List.mem_singleton.mp hc]; exact ha2)
      exact ⟨s1.heap.objs.size + 4, [s1.heap.objs.size + 4, s1.heap.objs.size + 2, s1.heap.objs.size + 3, s1.heap.objs.size, s1.heap.objs.size + 1], _, _, H1, rfl, I2, turn_zipG S (Nat.ne_of_lt ha1) (Nat.ne_of_lt (Nat.lt_succ_of_lt ha2)), ⟨hz, hTI, ⟨_, _, hTO⟩, itAt_new h1, itAt_new h2⟩, fresh5, q⟩
end RW

set_option Elab.async false
set_option linter.all false
set_option maxRecDepth 100000
set_option maxHeartbeats 4000000
namespace RW
open PySem PySem.Spec PyProof.Rows L2
theorem meets_enumerate_new1 {v : Value} {o : Obj} {H : Heap → Prop} (B : Begins v o H) :
    Meets (Builtin.«enumerate.__new__» ⟨[.type "enumerate", v], []⟩) (fun _ R s => H s.heap ∧
      R (.ok (.ret (.ref (s.heap.push o).objs.size))) { s with heap := (s.heap.push o).push { cls := .type "enumerate", data := .fields #[.none, .bool false, .ref s.heap.objs.size, rawInt 0, .none, .none] } }) :=
  .of_wp fun prog w A R s h => by
    obtain ⟨hp, g, d, tk, os⟩ := s; obtain ⟨h1, h⟩ := h
    have hsub := sub_enumerate
    have q1 : ∀ {A' : Around} {E : Value → Shared → Prop} {Q : Value → Shared → Prop}, Q (.ref hp.objs.size) ⟨hp.push o, g, d, tk, os⟩ → wpAny (model prog w) A' (pyIter v) Q E ⟨hp, g, d, tk, os⟩ :=
      fun q => B.iter prog w _ _ ⟨hp, g, d, tk, os⟩ _ h1 q
    wp_walk using q1
    refine wpAny_stack_any fun st => wpAny_pure ?_
    split
    · rename_i c _ _ _ _ _
      cases (c == Value.type "enumerate")
      · wp_walk using q1
        exact ⟨_, rfl, h⟩
      · wp_walk using q1
        exact ⟨_, rfl, h⟩
    · wp_walk using q1
      exact ⟨_, rfl, h⟩
section
variable {prog : Program} {w : World} {A : Around} {E : Value → Shared → Prop} {s : Shared}
theorem enum_begins1 {v : Value} {o : Obj} {H : Heap → Prop} {Q : Value → Shared → Prop} (B : Begins v o H) (h1 : H s.heap)
    (h : ∀ h', IsEnum h' (s.heap.objs.size + 1) s.heap.objs.size 0 .none → h'.get? s.heap.objs.size = some o → h'.objs.size = s.heap.objs.size + 2 →
      (∀ b o, s.heap.get? b = some o → h'.get? b = some o) → Q (.ref (s.heap.objs.size + 1)) { s with heap := h' }) :
    wpAny (model prog w) A (call (.type "enumerate") [v]) Q E s := by
  refine callType_new F.called_enumerate (by decide) (F.typeCall_enumerate_1 _) (F.newCall_enumerate_1 _) (fun obj => F.args_object_init_2 obj _) F.entry_enumerate_new
    (meets_enumerate_new1 B) ⟨h1, ?_⟩
  have hz : (s.heap.push o).objs.size = s.heap.objs.size + 1 := Heap.size_push ..
  show _ ∧ _
  rw [hz]
  have he : IsEnum ((s.heap.push o).push { cls := .type "enumerate", data := .fields #[.none, .bool false, .ref s.heap.objs.size, rawInt 0, .none, .none] }) (s.heap.objs.size + 1) s.heap.objs.size 0 .none := by
    have := Heap.get?_push_size (s.heap.push o) (o := { cls := .type "enumerate", data := .fields #[.none, .bool false, .ref s.heap.objs.size, rawInt 0, .none, .none] }) rfl
    rw [hz] at this; exact this
  refine ⟨⟨_, he, rfl⟩, h _ he (Heap.get?_push_of_some _ (Heap.get?_push_size _ B.free)) (by rw [Heap.size_push, hz]) fun b o x => Heap.get?_push_of_some _ (Heap.get?_push_of_some _ x)⟩
end
def IteG (K : PySem.W.Frag) (k : Bool) (a : Addr) : It :=
  ⟨fun i H => ∃ (xs : List V) (x : V), Sq K k H a xs ∧ xs[i]? = some x, fun i H v H' => ∃ T x, v = .ref T ∧ H T = none ∧ H' = upd H T (.tup [.int (i : Nat), x]) ∧ ∀ xs, Sq K k H a xs → xs[i]? = some x, fun i H => ∃ xs : List V, Sq K k H a xs ∧ xs.length = i⟩
theorem turn_enumG {P : Program} {w : World} {K : PySem.W.Frag} {elts : List Expr} {kk : Nat} {tpos : Pos} {k : Bool} {a e it : Addr} (hne : e ≠ it) (hea : a ≠ e) (hia : a ≠ it) :
    Turn P w K (.Tuple elts kk tpos) (IteG K k a) [e, it] e (fun i h => (∃ old, IsEnum h e it ((i : Nat) : Int) old) ∧ itAt k h it a i) where
  mem := by simp
  obj := fun i h st b hb => by
    obtain ⟨⟨old, he⟩, hi⟩ := st
    have e' : b = e ∨ b = it := by simpa using hb
    rcases e' with z | z
    · rw [z]; exact ⟨_, he, fun v q => nomatch q⟩
    · rw [z]; exact hi.there
  keep := fun i h h' st k => let ⟨⟨old, he⟩, hi⟩ := st; ⟨⟨old, k e (by simp) _ he⟩, hi.at fun o q => k it (by simp) o q⟩
  item := by
    intro X hP hw hK hc i pins s σ H E I hf st hg
    subst hP hw hK
    obtain ⟨⟨old, he⟩, hit⟩ := st
    obtain ⟨xs, x, hq, hx⟩ := hg
    obtain ⟨its, rv, p⟩ := inv_seq I hq
    obtain ⟨u, hu, ru⟩ := rv.get hx
    have hel : e < s.heap.objs.size := Heap.lt_size he
    have hil : it < s.heap.objs.size := by obtain ⟨_, q, _⟩ := hit.there; exact Heap.lt_size q
    have hh : X.A.in1.handled = none := I.ok.hd hc
    have l1 : i < its.toArray.size := by
      have := (List.getElem?_eq_some_iff.mp hu).1
      simpa using this
    refine wpAny_pyNext_enum_itemC (draws_k hh k it a hia its.toArray) he ⟨hit, p⟩ l1 hne (by simp [hne, Ne.symm hea]) fun v1 h' tk e1 ho hst' hT hsz hk => ?_
    have e1' : v1 = u := by
      have q : its[i]? = some v1 := by simpa using e1
      rw [hu] at q
      exact (Option.some.inj q).symm
    subst e1'
    refine ⟨_, rfl, wpAny_letOwnedTupleGo_enum (s := { s with heap := h', toks := tk + 1 }) ho fun h'' he' sb => ?_⟩
    have hT2 : h''.get? s.heap.objs.size = some { cls := .type "tuple", data := .seq #[.int i tk, v1] } := (sb.2 _ (Nat.ne_of_gt hel)).trans hT
    have new : ObjOk X.prog X.w (upd H s.heap.objs.size (.tup [.int (i : Nat), x])) h'' s.heap.objs.size (.tup [.int (i : Nat), x]) :=
      ⟨by show 2 ≤ sizeLine; decide, [.int i tk, v1], .cons ⟨_, rfl⟩ (.cons ru .nil), ⟨_, hT2, rfl, _, rfl⟩⟩
    have I1 : Inv X pins σ (upd H s.heap.objs.size (.tup [.int (i : Nat), x])) { s with heap := h'', toks := tk + 1 } :=
      I.turnedNew (ch := [e, it]) (fun b ob hb q => (sb.2 b (fun z => hb (by simp [z]))).trans (hk b ob (fun z => hb (by simp [z])) (fun z => hb (by simp [z])) q)) hf (Nat.le_refl _) new
    refine ⟨.ref s.heap.objs.size, _, I1, rfl, ⟨_, x, rfl, I.hok.fresh (Nat.le_refl _), rfl, fun ys hy => by rw [inv_inj I hy hq]; exact hx⟩, ⟨⟨v1, ?_⟩, hst'.1.at fun o q => (sb.2 it (Ne.symm hne)).trans q⟩, fun b hb => ?_⟩
    · have e1 : ((i + 1 : Nat) : Int) = (i : Int) + 1 := by omega
      rw [e1]; exact he'
    · have hb' : b < s.heap.objs.size := by
        have e' : b = e ∨ b = it := by simpa using hb
        rcases e' with z | z
        · rw [z]; exact hel
        · rw [z]; exact hil
      rw [upd_ne (Nat.ne_of_lt hb')]
      exact (hf b hb).1
  done := by
    intro X hP hw hK hc i pins s σ H E I hf st hg
    subst hP hw hK
    obtain ⟨⟨old, he⟩, hit⟩ := st
    obtain ⟨xs, hq, hx⟩ := hg
    obtain ⟨its, rv, p⟩ := inv_seq I hq
    obtain ⟨f0, f1, f2, f3, f4, f5⟩ := hf it (by simp)
    have hh : X.A.in1.handled = none := I.ok.hd hc
    have hl := rv.length
    have hi : its.toArray.size = i := by simp; omega
    subst hi
    exact wpAny_pyNext_enum_endD (draws_k hh k it a hia its.toArray) he ⟨hit, p⟩ fun h' eb => ⟨rfl, I.turned (t' := s.toks) (fun b o hb q => eb b o hb q) f0 f1 f3 f4 f5⟩
  self := fun A i s Q E st h => let ⟨⟨_, he⟩, _⟩ := st; wpAny_pyIter_enum he h
def iEnumG (K : PySem.W.Frag) (ta : TA) : TI := fun σ H R => ta σ H fun vs H1 => ∃ a k xs, vs = [.ref a] ∧ Sq K k H1 a xs ∧ R (IteG K k a) H1
theorem pi_enumG {X : Cx} {e : Expr} {ta : TA} {p pos tpos : Pos} {elts : List Expr} {kk : Nat} (hg : Gl X "enumerate") (hm : X.mg "enumerate" = none) (ha : PA X [e] ta) (hs : starEach [e] X.env = [(false, eval e X.env)] := by rfl) :
    PI X (.Tuple elts kk tpos) (.Call (.Name "enumerate" p) [e] [] pos) (iEnumG X.K ta) := by
  refine ⟨fun pins s σ H R I h => ?_⟩
  refine Call_ (ld_blt I hg hm boot_enumerate (PyProof.Rows.callWith_type1 (thn (ha.run pos pins s σ H _ I h) fun us s1 ⟨vs, H1, I1, r1, q1⟩ => ?_) hs rfl))
  obtain ⟨a, k, xs, ex, hq, q⟩ := q1
  subst ex
  cases r1 with
  | cons r rr =>
    cases rr
    cases r
    obtain ⟨its, rv, p'⟩ := inv_seq I1 hq
    have hal := p'.lt
    refine enum_begins1 (begins_k k a its.toArray) p' fun h' he hit hsz hk => wpAny_pyIter_enum he ?_
    have I2 : Inv X pins σ H1 { s1 with heap := h' } := I1.kept (t' := s1.toks) hk
    refine ⟨s1.heap.objs.size + 1, [s1.heap.objs.size + 1, s1.heap.objs.size], _, _, H1, rfl, I2, turn_enumG (e := s1.heap.objs.size + 1) (it := s1.heap.objs.size) (Nat.succ_ne_self _) (Nat.ne_of_lt (Nat.lt_succ_of_lt hal)) (Nat.ne_of_lt hal), ⟨⟨.none, he⟩, itAt_new hit⟩, fun b hb => ?_, q⟩
    have e' : b = s1.heap.objs.size + 1 ∨ b = s1.heap.objs.size := by simpa using hb
    have hle : s1.heap.objs.size ≤ b := by
      rcases e' with z | z
      · rw [z]; exact Nat.le_add_right _ _
      · rw [z]; exact Nat.le_refl _
    exact I1.fpOk hle (I1.hok.fresh hle)
end RW

set_option Elab.async false
set_option linter.all false
set_option maxRecDepth 100000
set_option maxHeartbeats 4000000
namespace RW
open PySem PySem.Spec PyProof.Rows L2
open Evl (Ex)

/-! ### data: what a value is, whatever its address -/
inductive Dat where
  | non | bl (b : Bool) | int (i : Int) | str (s : Str) | ty (n : String)
  | tup (xs : List Dat) | lst (xs : List Dat) | scr (ns : List Int)
  | ins (C : Addr) (fs : List (Str × Dat))
  | adr (a : Addr)
  | dic (ks : List (List Int))
mutual
inductive Rep (K : PySem.W.Frag) (B : Hp) : V → Dat → Prop
  | non : Rep K B .non .non
  | bl (b : Bool) : Rep K B (.bl b) (.bl b)
  | int (i : Int) : Rep K B (.int i) (.int i)
  | str (s : Str) : Rep K B (.str s) (.str s)
  | ty (n : String) : Rep K B (.ty n) (.ty n)
  | tup {a : Addr} {xs : List V} {ds : List Dat} : SqT K B a xs → Reps K B xs ds → Rep K B (.ref a) (.tup ds)
  | lst {a : Addr} {xs : List V} {ds : List Dat} : B a = some (.lst xs) → Reps K B xs ds → Rep K B (.ref a) (.lst ds)
  | scr {a : Addr} {ns : List Int} : SqL K B a (ns.map V.int) → Rep K B (.ref a) (.scr ns)
  | ins {a C dx : Addr} {vs : List (Str × V)} {fs : List (Str × Dat)} : B a = some (.ins C dx vs) → RepF K B vs fs → Rep K B (.ref a) (.ins C fs)
  | adr (a : Addr) : Rep K B (.ref a) (.adr a)
inductive Reps (K : PySem.W.Frag) (B : Hp) : List V → List Dat → Prop
  | nil : Reps K B [] []
  | cons {v : V} {d : Dat} {vs : List V} {ds : List Dat} : Rep K B v d → Reps K B vs ds → Reps K B (v :: vs) (d :: ds)
inductive RepF (K : PySem.W.Frag) (B : Hp) : List (Str × V) → List (Str × Dat) → Prop
  | nil : RepF K B [] []
  | cons {f : Str} {v : V} {d : Dat} {vs : List (Str × V)} {ds : List (Str × Dat)} : Rep K B v d → RepF K B vs ds → RepF K B ((f, v) :: vs) ((f, d) :: ds)
end
section
variable {K : PySem.W.Frag} {B B' : Hp}
mutual
theorem Rep.mono (e : Ex B B') : ∀ {v : V} {d : Dat}, Rep K B v d → Rep K B' v d
  | _, _, .non => .non
  | _, _, .bl b => .bl b
  | _, _, .int i => .int i
  | _, _, .str s => .str s
  | _, _, .ty n => .ty n
  | _, _, .tup h r => .tup (Evl.ex_t e h) (Reps.mono e r)
  | _, _, .lst h r => .lst (e _ _ h) (Reps.mono e r)
  | _, _, .scr h => .scr (Evl.ex_l e h)
  | _, _, .ins h r => .ins (e _ _ h) (RepF.mono e r)
  | _, _, .adr a => .adr a
theorem Reps.mono (e : Ex B B') : ∀ {v : List V} {d : List Dat}, Reps K B v d → Reps K B' v d
  | _, _, .nil => .nil
  | _, _, .cons h r => .cons (Rep.mono e h) (Reps.mono e r)
theorem RepF.mono (e : Ex B B') : ∀ {v : List (Str × V)} {d : List (Str × Dat)}, RepF K B v d → RepF K B' v d
  | _, _, .nil => .nil
  | _, _, .cons h r => .cons (Rep.mono e h) (RepF.mono e r)
end
theorem Reps.length : ∀ {vs : List V} {ds : List Dat}, Reps K B vs ds → vs.length = ds.length
  | _, _, .nil => rfl
  | _, _, .cons _ r => by rw [List.length_cons, List.length_cons, Reps.length r]
theorem Reps.get : ∀ {vs : List V} {ds : List Dat} {i : Nat} {d : Dat}, Reps K B vs ds → ds[i]? = some d → ∃ v, vs[i]? = some v ∧ Rep K B v d
  | _, _, _, _, .nil, e => by simp at e
  | _, _, 0, _, .cons h _, e => by simp at e; subst e; exact ⟨_, rfl, h⟩
  | _, _, i + 1, d, .cons _ r, e => by
    obtain ⟨v, h1, h2⟩ := Reps.get (i := i) (d := d) r (by simpa using e)
    exact ⟨v, by simpa using h1, h2⟩
theorem Reps.get' : ∀ {vs : List V} {ds : List Dat} {i : Nat} {v : V}, Reps K B vs ds → vs[i]? = some v → ∃ d, ds[i]? = some d ∧ Rep K B v d
  | _, _, _, _, .nil, e => by simp at e
  | _, _, 0, _, .cons h _, e => by simp at e; subst e; exact ⟨_, rfl, h⟩
  | _, _, i + 1, v, .cons _ r, e => by
    obtain ⟨d, h1, h2⟩ := Reps.get' (i := i) (v := v) r (by simpa using e)
    exact ⟨d, by simpa using h1, h2⟩
theorem Reps.append : ∀ {vs ws : List V} {ds es : List Dat}, Reps K B vs ds → Reps K B ws es → Reps K B (vs ++ ws) (ds ++ es)
  | _, _, _, _, .nil, h => h
  | _, _, _, _, .cons h r, q => .cons h (Reps.append r q)
theorem Reps.take : ∀ {vs : List V} {ds : List Dat} (n : Nat), Reps K B vs ds → Reps K B (vs.take n) (ds.take n)
  | _, _, 0, _ => .nil
  | _, _, _ + 1, .nil => .nil
  | _, _, n + 1, .cons h r => .cons h (Reps.take n r)
theorem Reps.drop : ∀ {vs : List V} {ds : List Dat} (n : Nat), Reps K B vs ds → Reps K B (vs.drop n) (ds.drop n)
  | _, _, 0, r => r
  | _, _, _ + 1, .nil => .nil
  | _, _, n + 1, .cons _ r => Reps.drop n r
theorem Reps.set : ∀ {vs : List V} {ds : List Dat} {v : V} {d : Dat} (n : Nat), Rep K B v d → Reps K B vs ds → Reps K B (vs.set n v) (ds.set n d)
  | _, _, _, _, _, _, .nil => .nil
  | _, _, _, _, 0, h, .cons _ r => .cons h r
  | _, _, _, _, n + 1, h, .cons q r => .cons q (Reps.set n h r)
theorem Reps.ints : ∀ {vs : List V} {ns : List Int}, Reps K B vs (ns.map Dat.int) → vs = ns.map V.int
  | _, [], .nil => rfl
  | _, n :: ns, .cons h r => by
    cases h
    rw [List.map_cons, Reps.ints r]
theorem Reps.bls : ∀ {vs : List V} {ns : List Bool}, Reps K B vs (ns.map Dat.bl) → vs = ns.map V.bl
  | _, [], .nil => rfl
  | _, n :: ns, .cons h r => by
    cases h
    rw [List.map_cons, Reps.bls r]
theorem RepF.get : ∀ {vs : List (Str × V)} {fs : List (Str × Dat)} {f : Str} {d : Dat}, RepF K B vs fs → fs.lookup f = some d → ∃ v, vs.lookup f = some v ∧ Rep K B v d
  | _, _, _, _, .nil, e => by cases e
  | _, _, f, d, .cons (f := g) (vs := vs) (ds := ds) h r, e => by
    by_cases q : (f == g) = true
    · simp only [List.lookup, q] at e ⊢
      cases e
      exact ⟨_, rfl, h⟩
    · have q' : (f == g) = false := by simpa using q
      simp only [List.lookup, q'] at e ⊢
      exact RepF.get r e
end

/-! ### what a slot or an argument is: data, or a list that is changed (by its number) -/
inductive Sl where
  | d (x : Dat)
  | c (k : Nat)
def RepS (K : PySem.W.Frag) (B : Hp) (as : List Addr) (v : V) : Sl → Prop
  | .d x => Rep K B v x
  | .c k => ∃ a, as[k]? = some a ∧ v = .ref a
inductive RepSs (K : PySem.W.Frag) (B : Hp) (as : List Addr) : List V → List Sl → Prop
  | nil : RepSs K B as [] []
  | cons {v : V} {s : Sl} {vs : List V} {ss : List Sl} : RepS K B as v s → RepSs K B as vs ss → RepSs K B as (v :: vs) (s :: ss)
abbrev Env1 := List (Option Sl)
def EnvR (K : PySem.W.Frag) (B : Hp) (as : List Addr) (σ : L2.St) (env : Env1) : Prop :=
  σ.length = env.length ∧ ∀ (i : Nat) (s : Sl), env[i]? = some (some s) → ∃ v, σ[i]? = some (some v) ∧ RepS K B as v s
/-- what stands at a changed thing -/
def CellO (K : PySem.W.Frag) (B : Hp) : HO → Dat → Prop
  | .lst vs, .lst ds => Reps K B vs ds
  | .ins C _ vs, .ins C' fs => C = C' ∧ RepF K B vs fs
  | .dT kvs, .dic ks => kvs.map (·.1) = ks.map fun k => k.map Sum.inl
  | _, _ => False
def CellAt (K : PySem.W.Frag) (B H : Hp) (a : Addr) (s : Dat) : Prop := ∃ o, H a = some o ∧ CellO K B o s
theorem CellO.mono {K : PySem.W.Frag} {B B' : Hp} {o : HO} {s : Dat} (e : Ex B B') (h : CellO K B o s) : CellO K B' o s := by
  unfold CellO at h ⊢
  split at h <;> first
    | exact h.elim
    | exact Reps.mono e h
    | exact ⟨h.1, RepF.mono e h.2⟩
    | exact h
theorem CellAt.lst {K : PySem.W.Frag} {B H : Hp} {a : Addr} {ds : List Dat} (h : CellAt K B H a (.lst ds)) : ∃ vs, H a = some (.lst vs) ∧ Reps K B vs ds := by
  obtain ⟨o, h1, h2⟩ := h
  cases o <;> first
    | exact h2.elim
    | exact ⟨_, h1, h2⟩
theorem CellAt.ins {K : PySem.W.Frag} {B H : Hp} {a C : Addr} {fs : List (Str × Dat)} (h : CellAt K B H a (.ins C fs)) : ∃ dx vs, H a = some (.ins C dx vs) ∧ RepF K B vs fs := by
  obtain ⟨o, h1, h2⟩ := h
  cases o <;> first
    | exact h2.elim
    | (obtain ⟨rfl, h2⟩ := h2; exact ⟨_, _, h1, h2⟩)
theorem CellAt.dic {K : PySem.W.Frag} {B H : Hp} {a : Addr} {ks : List (List Int)} (h : CellAt K B H a (.dic ks)) : ∃ kvs, H a = some (.dT kvs) ∧ kvs.map (·.1) = ks.map fun k => k.map Sum.inl := by
  obtain ⟨o, h1, h2⟩ := h
  cases o <;> first
    | exact h2.elim
    | exact ⟨_, h1, h2⟩
theorem CellAt.ofL {K : PySem.W.Frag} {B H : Hp} {a : Addr} {vs : List V} {ds : List Dat} (h : H a = some (.lst vs)) (r : Reps K B vs ds) : CellAt K B H a (.lst ds) := ⟨_, h, r⟩
theorem CellAt.ofI {K : PySem.W.Frag} {B H : Hp} {a C dx : Addr} {vs : List (Str × V)} {fs : List (Str × Dat)} (h : H a = some (.ins C dx vs)) (r : RepF K B vs fs) : CellAt K B H a (.ins C fs) := ⟨_, h, rfl, r⟩
structure Ok (K : PySem.W.Frag) (B H : Hp) (as : List Addr) (S : List Dat) : Prop where
  ex : Ex B H
  len : as.length = S.length
  cells : ∀ (k : Nat) (a : Addr) (s : Dat), as[k]? = some a → S[k]? = some s → B a = none ∧ CellAt K B H a s
  nd : as.Nodup
structure Evo (B H : Hp) (as : List Addr) (B' H' : Hp) : Prop where
  ex : Ex B B'
  fr : ∀ a o, a ∉ as → H a = some o → H' a = some o
  gr : ∀ a, H a ≠ none → B' a = B a ∨ ∃ xs, H' a = some (.tup xs)
  tp : ∀ a xs, H a = some (.tup xs) → H' a = some (.tup xs)
  pr : ∀ a, H a ≠ none → H' a ≠ none
section
variable {K : PySem.W.Frag} {B B' B1 B2 H H' H1 H2 : Hp} {as as' : List Addr} {S S' : List Dat} {σ : L2.St} {env : Env1} {v : V} {s : Sl}
theorem RepS.mono (e : Ex B B') (h : RepS K B as v s) : RepS K B' as v s := by
  cases s with
  | d x => exact Rep.mono e h
  | c k => exact h
theorem RepS.grow {as1 : List Addr} (h : RepS K B as v s) : RepS K B (as ++ as1) v s := by
  cases s with
  | d x => exact h
  | c k =>
    obtain ⟨a, q, e⟩ := h
    exact ⟨a, by rw [List.getElem?_append_left (List.getElem?_eq_some_iff.mp q).1]; exact q, e⟩
theorem RepSs.mono (e : Ex B B') : ∀ {vs : List V} {ss : List Sl}, RepSs K B as vs ss → RepSs K B' as vs ss
  | _, _, .nil => .nil
  | _, _, .cons h r => .cons (h.mono e) (RepSs.mono e r)
theorem RepSs.append : ∀ {vs ws : List V} {ss ts : List Sl}, RepSs K B as vs ss → RepSs K B as ws ts → RepSs K B as (vs ++ ws) (ss ++ ts)
  | _, _, _, _, .nil, h => h
  | _, _, _, _, .cons h r, q => .cons h (RepSs.append r q)
theorem RepSs.length : ∀ {vs : List V} {ss : List Sl}, RepSs K B as vs ss → vs.length = ss.length
  | _, _, .nil => rfl
  | _, _, .cons _ r => by rw [List.length_cons, List.length_cons, RepSs.length r]
theorem RepSs.get : ∀ {vs : List V} {ss : List Sl} {i : Nat} {s : Sl}, RepSs K B as vs ss → ss[i]? = some s → ∃ v, vs[i]? = some v ∧ RepS K B as v s
  | _, _, _, _, .nil, e => by simp at e
  | _, _, 0, _, .cons h _, e => by simp at e; subst e; exact ⟨_, rfl, h⟩
  | _, _, i + 1, s, .cons _ r, e => by
    obtain ⟨v, h1, h2⟩ := RepSs.get (i := i) (s := s) r (by simpa using e)
    exact ⟨v, by simpa using h1, h2⟩
theorem RepSs.ds : ∀ {vs : List V} {ds : List Dat}, RepSs K B as vs (ds.map Sl.d) → Reps K B vs ds
  | _, [], .nil => .nil
  | _, d :: ds, .cons h r => .cons h (RepSs.ds r)
theorem EnvR.mono (e : Ex B B') (h : EnvR K B as σ env) : EnvR K B' as σ env :=
  ⟨h.1, fun i s q => by obtain ⟨v, q1, q2⟩ := h.2 i s q; exact ⟨v, q1, q2.mono e⟩⟩
theorem EnvR.grow {as1 : List Addr} (h : EnvR K B as σ env) : EnvR K B (as ++ as1) σ env :=
  ⟨h.1, fun i s q => by obtain ⟨v, q1, q2⟩ := h.2 i s q; exact ⟨v, q1, q2.grow⟩⟩
theorem EnvR.set (i : Nat) (h : EnvR K B as σ env) (hv : RepS K B as v s) : EnvR K B as (σ.set i (some v)) (env.set i (some s)) := by
  refine ⟨by rw [List.length_set, List.length_set, h.1], fun j t q => ?_⟩
  by_cases e : i = j
  · subst e
    have hi : i < env.length := by
      have := (List.getElem?_eq_some_iff.mp q).1
      rw [List.length_set] at this
      exact this
    rw [List.getElem?_set_self hi] at q
    cases q
    exact ⟨v, by rw [List.getElem?_set_self (by rw [h.1]; exact hi)], hv⟩
  · rw [List.getElem?_set_ne e] at q
    obtain ⟨w, q1, q2⟩ := h.2 j t q
    exact ⟨w, by rw [List.getElem?_set_ne e]; exact q1, q2⟩
theorem EnvR.unset (i : Nat) (h : EnvR K B as σ env) : EnvR K B as (σ.set i none) (env.set i none) := by
  refine ⟨by rw [List.length_set, List.length_set, h.1], fun j t q => ?_⟩
  by_cases e : i = j
  · subst e
    have hi : i < env.length := by
      have := (List.getElem?_eq_some_iff.mp q).1
      rw [List.length_set] at this
      exact this
    rw [List.getElem?_set_self hi] at q
    cases q
  · rw [List.getElem?_set_ne e] at q
    obtain ⟨w, q1, q2⟩ := h.2 j t q
    exact ⟨w, by rw [List.getElem?_set_ne e]; exact q1, q2⟩
theorem EnvR.forget (i : Nat) (x : Option V) (h : EnvR K B as σ env) : EnvR K B as (σ.set i x) (env.set i none) := by
  refine ⟨by rw [List.length_set, List.length_set, h.1], fun j t q => ?_⟩
  by_cases e : i = j
  · subst e
    have hi : i < env.length := by
      have := (List.getElem?_eq_some_iff.mp q).1
      rw [List.length_set] at this
      exact this
    rw [List.getElem?_set_self hi] at q
    cases q
  · rw [List.getElem?_set_ne e] at q
    obtain ⟨w, q1, q2⟩ := h.2 j t q
    exact ⟨w, by rw [List.getElem?_set_ne e]; exact q1, q2⟩
theorem EnvR.start {N : List Str} {vs : List V} {ss : List Sl} (h : RepSs K B as vs ss) : EnvR K B as (start N vs) (ss.map some ++ List.replicate (N.length - ss.length) none) := by
  unfold L2.start
  refine ⟨by rw [List.length_append, List.length_append, List.length_map, List.length_map, List.length_replicate, List.length_replicate, h.length], fun i s q => ?_⟩
  by_cases hi : i < ss.length
  · rw [List.getElem?_append_left (by simpa using hi), List.getElem?_map] at q
    cases e : ss[i]? with
    | none => rw [e] at q; cases q
    | some t =>
      rw [e] at q
      cases q
      obtain ⟨v, q1, q2⟩ := h.get e
      refine ⟨v, ?_, q2⟩
      rw [List.getElem?_append_left (by rw [List.length_map, h.length]; exact hi), List.getElem?_map, q1]
      rfl
  · rw [List.getElem?_append_right (by simpa using hi), List.getElem?_replicate] at q
    split at q <;> cases q
def wipeE (env : Env1) : List Nat → Env1
  | [] => env
  | v :: vs => (wipeE env vs).set v none
theorem EnvR.wipe (h : EnvR K B as σ env) : ∀ vs : List Nat, EnvR K B as (L2.wipe σ vs) (wipeE env vs)
  | [] => h
  | v :: vs => (EnvR.wipe h vs).unset v
theorem Evo.refl : Evo B H as B H := ⟨Evl.Ex.refl B, fun _ _ _ h => h, fun _ _ => .inl rfl, fun _ _ h => h, fun _ h => h⟩
theorem Evo.trans (a : Evo B H as B1 H1) (b : Evo B1 H1 as B2 H2) : Evo B H as B2 H2 :=
  ⟨a.ex.trans b.ex, fun x o n h => b.fr x o n (a.fr x o n h), fun x n => (b.gr x (a.pr x n)).elim (fun e => (a.gr x n).elim (fun e2 => .inl (e.trans e2)) fun ⟨xs, h⟩ => .inr ⟨xs, b.tp x xs h⟩) .inr, fun x xs h => b.tp x xs (a.tp x xs h), fun x n => b.pr x (a.pr x n)⟩
/-- a new object, known from then on -/
theorem Ok.new {p : Addr} {o : HO} (c : Ok K B H as S) (hp : H p = none) : Ok K (upd B p o) (upd H p o) as S where
  ex := fun a u e => by
    by_cases q : a = p
    · subst q; rw [upd_same] at e ⊢; exact e
    · rw [upd_ne q] at e ⊢; exact c.ex a u e
  len := c.len
  cells := fun k a s h1 h2 => by
    obtain ⟨q1, q2⟩ := c.cells k a s h1 h2
    have hB : Ex B (upd B p o) := Evl.Ex.new (by
      cases e : B p with
      | none => rfl
      | some u => rw [c.ex p u e] at hp; cases hp)
    have ne : a ≠ p := by
      intro z
      subst z
      obtain ⟨o, q3, _⟩ := q2; rw [hp] at q3; cases q3
    rw [upd_ne ne]
    refine ⟨q1, ?_⟩
    obtain ⟨o, q3, q4⟩ := q2
    exact ⟨o, by rw [upd_ne ne]; exact q3, q4.mono hB⟩
  nd := c.nd
theorem Ok.Bnone {p : Addr} (c : Ok K B H as S) (hp : H p = none) : B p = none := by
  cases e : B p with
  | none => rfl
  | some u => rw [c.ex p u e] at hp; cases hp
theorem Evo.new {p : Addr} {o : HO} (c : Ok K B H as S) (hp : H p = none) : Evo B H as (upd B p o) (upd H p o) :=
  ⟨Evl.Ex.new (c.Bnone hp), fun a u _ h => by rw [upd_ne (ne_of_none h hp)]; exact h, fun a h => .inl (upd_ne (by rintro rfl; exact h hp)), fun a xs h => by rw [upd_ne (ne_of_none h hp)]; exact h, fun a h => by
    by_cases q : a = p
    · subst q; rw [upd_same]; simp
    · rw [upd_ne q]; exact h⟩
end
end RW

set_option Elab.async false
set_option linter.all false
set_option maxRecDepth 100000
set_option maxHeartbeats 4000000
namespace RW
open PySem PySem.Spec PyProof.Rows L2
open Evl (Ex)

/-! ### what an expression gives -/
def Ev (K : PySem.W.Frag) (te : TE) (env : Env1) (S : List Dat) (r : Sl) (S' : List Dat) : Prop :=
  ∀ B H as σ, Ok K B H as S → EnvR K B as σ env → ∀ Q : VK, (∀ v B' H', Ok K B' H' as S' → Evo B H as B' H' → RepS K B' as v r → Q v H') → te σ H Q
/-- a new list that nothing else knows -/
def EvN (K : PySem.W.Frag) (te : TE) (env : Env1) (S : List Dat) (ds : List Dat) (S' : List Dat) : Prop :=
  ∀ B H as σ, Ok K B H as S → EnvR K B as σ env → ∀ Q : VK, (∀ p B' H' vs, Ok K B' H' as S' → Evo B H as B' H' → H p = none → B' p = none → H' p = some (.lst vs) → Reps K B' vs ds → Q (.ref p) H') → te σ H Q
def EvT (K : PySem.W.Frag) (tt : TT) (env : Env1) (S : List Dat) (b : Bool) (S' : List Dat) : Prop :=
  ∀ B H as σ, Ok K B H as S → EnvR K B as σ env → ∀ Q : Bool → Hp → Prop, (∀ B' H', Ok K B' H' as S' → Evo B H as B' H' → Q b H') → tt σ H Q
def EvA (K : PySem.W.Frag) (ta : TA) (env : Env1) (S : List Dat) (rs : List Sl) (S' : List Dat) : Prop :=
  ∀ B H as σ, Ok K B H as S → EnvR K B as σ env → ∀ Q : List V → Hp → Prop, (∀ vs B' H', Ok K B' H' as S' → Evo B H as B' H' → RepSs K B' as vs rs → Q vs H') → ta σ H Q
/-- a two-place operation by values -/
def Op2 (K : PySem.W.Frag) (r : R2) (x y : Sl) (S : List Dat) (z : Dat) : Prop :=
  ∀ B H as v w, Ok K B H as S → RepS K B as v x → RepS K B as w y → ∀ Q : VK, (∀ u B' H', Ok K B' H' as S → Evo B H as B' H' → Rep K B' u z → Q u H') → r v w H Q
def Op1 (K : PySem.W.Frag) (r : V → Hp → VK → Prop) (x : Sl) (S : List Dat) (z : Dat) : Prop :=
  ∀ B H as v, Ok K B H as S → RepS K B as v x → ∀ Q : VK, (∀ u B' H', Ok K B' H' as S → Evo B H as B' H' → Rep K B' u z → Q u H') → r v H Q
/-- a call by values; it may change what is changed -/
def CallD (K : PySem.W.Frag) (r : List V → Hp → VK → Prop) (xs : List Sl) (S : List Dat) (z : Dat) (S' : List Dat) : Prop :=
  ∀ B H as vs, Ok K B H as S → RepSs K B as vs xs → ∀ Q : VK, (∀ u B' H', Ok K B' H' as S' → Evo B H as B' H' → Rep K B' u z → Q u H') → r vs H Q
section
variable {K : PySem.W.Frag} {te ta tb tc : TE} {tt tu : TT} {tA tR : TA} {env : Env1} {S S1 S2 S3 : List Dat} {x y z : Sl} {d e : Dat} {r : R2}
theorem ev_var {i : Nat} (h : env[i]? = some (some x)) : Ev K (tVar i) env S x S := fun B H as σ c g Q q => by
  obtain ⟨v, h1, h2⟩ := g.2 i x h
  exact ⟨v, h1, q v B H c Evo.refl h2⟩
theorem ev_int {i : Int} : Ev K (tC (.int i)) env S (.d (.int i)) S := fun B H as σ c g Q q => q _ B H c Evo.refl (.int i)
theorem ev_bl {b : Bool} : Ev K (tC (.bl b)) env S (.d (.bl b)) S := fun B H as σ c g Q q => q _ B H c Evo.refl (.bl b)
theorem ev_str {b : Str} : Ev K (tC (.str b)) env S (.d (.str b)) S := fun B H as σ c g Q q => q _ B H c Evo.refl (.str b)
theorem ev_non : Ev K (tC .non) env S (.d .non) S := fun B H as σ c g Q q => q _ B H c Evo.refl .non
theorem ev_ty {n : String} : Ev K (tC (.ty n)) env S (.d (.ty n)) S := fun B H as σ c g Q q => q _ B H c Evo.refl (.ty n)
theorem ev_adr {a : Addr} : Ev K (tC (.ref a)) env S (.d (.adr a)) S := fun B H as σ c g Q q => q _ B H c Evo.refl (.adr a)
theorem Ev.to {r r' : Sl} (h : Ev K te env S r S1) (e : r = r') : Ev K te env S r' S1 := e ▸ h
theorem EvT.to {b b' : Bool} (h : EvT K tt env S b S1) (e : b = b') : EvT K tt env S b' S1 := e ▸ h
theorem ev_op (ha : Ev K ta env S x S1) (hb : Ev K tb env S1 y S2) (hr : Op2 K r x y S2 d) : Ev K (tOp r ta tb) env S (.d d) S2 := fun B H as σ c g Q q =>
  ha B H as σ c g _ fun v B1 H1 c1 e1 r1 => hb B1 H1 as σ c1 (g.mono e1.ex) _ fun w B2 H2 c2 e2 r2 =>
    hr B2 H2 as v w c2 (r1.mono e2.ex) r2 _ fun u B3 H3 c3 e3 r3 => q u B3 H3 c3 ((e1.trans e2).trans e3) r3
theorem ev_un {r : V → Hp → VK → Prop} (ha : Ev K ta env S x S1) (hr : Op1 K r x S1 d) : Ev K (tUn r ta) env S (.d d) S1 := fun B H as σ c g Q q =>
  ha B H as σ c g _ fun v B1 H1 c1 e1 r1 => hr B1 H1 as v c1 r1 _ fun u B3 H3 c3 e3 r3 => q u B3 H3 c3 (e1.trans e3) r3
theorem op2_int0 {g : Int → Int → V} {i j : Int} (h : ∀ B : Hp, Rep K B (g i j) d) : Op2 K (rI0 g) (.d (.int i)) (.d (.int j)) S d := fun B H as v w c h1 h2 Q q => by
  cases h1; cases h2
  exact ⟨i, j, rfl, rfl, q _ B H c Evo.refl (h B)⟩
theorem op2_int {C : Int → Int → Prop} {g : Int → Int → V} {i j : Int} (hc : C i j) (h : ∀ B : Hp, Rep K B (g i j) d) : Op2 K (rI C g) (.d (.int i)) (.d (.int j)) S d := fun B H as v w c h1 h2 Q q => by
  cases h1; cases h2
  exact ⟨i, j, rfl, rfl, hc, q _ B H c Evo.refl (h B)⟩
theorem op1_int {g : Int → V} {i : Int} (h : ∀ B : Hp, Rep K B (g i) d) : Op1 K (rU g) (.d (.int i)) S d := fun B H as v c h1 Q q => by
  cases h1
  exact ⟨i, rfl, q _ B H c Evo.refl (h B)⟩
theorem ea_nil : EvA K tNil env S [] S := fun B H as σ c g Q q => q [] B H c Evo.refl .nil
theorem ea_cons {xs : List Sl} (h : Ev K ta env S x S1) (hr : EvA K tA env S1 xs S2) : EvA K (tCons ta tA) env S (x :: xs) S2 := fun B H as σ c g Q q =>
  h B H as σ c g _ fun v B1 H1 c1 e1 r1 => hr B1 H1 as σ c1 (g.mono e1.ex) _ fun vs B2 H2 c2 e2 r2 => q _ B2 H2 c2 (e1.trans e2) (.cons (r1.mono e2.ex) r2)
theorem ev_tup {ds : List Dat} (h : EvA K tA env S (ds.map Sl.d) S1) (hl : ds.length ≤ sizeLine) : Ev K (tTup tA) env S (.d (.tup ds)) S1 := fun B H as σ c g Q q =>
  h B H as σ c g _ fun vs B1 H1 c1 e1 r1 => ⟨by rw [r1.ds.length]; exact hl, fun p hp =>
    q _ (upd B1 p (.tup vs)) _ (c1.new hp) (e1.trans (Evo.new c1 hp)) (.tup (.inl (.inl upd_same)) (r1.ds.mono (Evl.Ex.new (c1.Bnone hp))))⟩
/-- a list that nothing knows becomes known -/
theorem Ok.know {B H : Hp} {as : List Addr} {p : Addr} {ob : HO} (c : Ok K B H as S) (hp : H p = some ob) (hb : B p = none) (ha : p ∉ as) : Ok K (upd B p ob) H as S where
  ex := fun a u e => by
    by_cases q : a = p
    · subst q; rw [upd_same] at e; cases e; exact hp
    · rw [upd_ne q] at e; exact c.ex a u e
  len := c.len
  cells := fun k a s h1 h2 => by
    obtain ⟨q1, q2⟩ := c.cells k a s h1 h2
    have ne : a ≠ p := by
      intro z
      subst z
      exact ha (List.mem_of_getElem? h1)
    rw [upd_ne ne]
    refine ⟨q1, ?_⟩
    obtain ⟨o, q3, q4⟩ := q2
    exact ⟨o, q3, q4.mono (Evl.Ex.new hb)⟩
  nd := c.nd
theorem Ok.there {B H : Hp} {as : List Addr} {p : Addr} (c : Ok K B H as S) (hp : p ∈ as) : ∃ o, H p = some o := by
  obtain ⟨k, hk⟩ := List.mem_iff_getElem?.mp hp
  have hl : k < S.length := by rw [← c.len]; exact (List.getElem?_eq_some_iff.mp hk).1
  obtain ⟨_, o, q3, _⟩ := c.cells k p S[k] hk (List.getElem?_eq_getElem hl)
  exact ⟨o, q3⟩
theorem Ok.fresh {B H : Hp} {as : List Addr} {p : Addr} (c : Ok K B H as S) (hp : H p = none) : p ∉ as := fun h => by
  obtain ⟨o, q⟩ := c.there h
  rw [hp] at q; cases q
theorem EvN.ev {ds : List Dat} (h : EvN K te env S ds S1) : Ev K te env S (.d (.lst ds)) S1 := fun B H as σ c g Q q =>
  h B H as σ c g _ fun p B1 H1 vs c1 e1 hp hb hl r1 =>
    q _ (upd B1 p (.lst vs)) H1 (c1.know hl hb (c.fresh hp)) ⟨e1.ex.trans (Evl.Ex.new hb), e1.fr, fun a h => by rw [upd_ne (by rintro rfl; exact h hp)]; exact e1.gr a h, e1.tp, e1.pr⟩ (.lst upd_same (r1.mono (Evl.Ex.new hb)))
/-- made at p just now -/
theorem evn_new {B H B1 H1 : Hp} {as : List Addr} {p : Addr} {vs : List V} {ds : List Dat} {Q : VK} (c : Ok K B H as S) (c1 : Ok K B1 H1 as S1) (e1 : Evo B H as B1 H1) (hp : H1 p = none) (r1 : Reps K B1 vs ds)
    (q : ∀ p B' H' vs, Ok K B' H' as S1 → Evo B H as B' H' → H p = none → B' p = none → H' p = some (.lst vs) → Reps K B' vs ds → Q (.ref p) H') : Q (.ref p) (upd H1 p (.lst vs)) := by
  have hp0 : H p = none := by
    cases e : H p with
    | none => rfl
    | some u => exact absurd hp (e1.pr p (by rw [e]; simp))
  have hpa : p ∉ as := c1.fresh hp
  refine q p B1 _ vs ⟨fun a u e => ?_, c1.len, fun k a s h1 h2 => ?_, c1.nd⟩ ⟨e1.ex, fun a u n h => ?_, fun a h => ?_, fun a xs h => ?_, fun a h => ?_⟩ hp0 (c1.Bnone hp) upd_same r1
  · rw [upd_ne (by rintro rfl; rw [c1.Bnone hp] at e; cases e)]
    exact c1.ex a u e
  · obtain ⟨q1, q2⟩ := c1.cells k a s h1 h2
    have ne : a ≠ p := by rintro rfl; exact hpa (List.mem_of_getElem? h1)
    refine ⟨q1, ?_⟩
    obtain ⟨o, q3, q4⟩ := q2
    exact ⟨o, by rw [upd_ne ne]; exact q3, q4⟩
  · rw [upd_ne (by rintro rfl; rw [hp0] at h; cases h)]
    exact e1.fr a u n h
  · rw [upd_ne (by rintro rfl; exact h hp0)]
    exact e1.gr a h
  · rw [upd_ne (by rintro rfl; rw [hp0] at h; cases h)]
    exact e1.tp a xs h
  · rw [upd_ne (by rintro rfl; exact h hp0)]
    exact e1.pr a h
theorem en_lst {ds : List Dat} (h : EvA K tA env S (ds.map Sl.d) S1) (hl : ds.length ≤ sizeLine) : EvN K (tLst tA) env S ds S1 := fun B H as σ c g Q q =>
  h B H as σ c g _ fun vs B1 H1 c1 e1 r1 => ⟨by rw [r1.ds.length]; exact hl, fun p hp => evn_new c c1 e1 hp r1.ds q⟩

/-! ### sequences as they are read -/
/-- a list or a tuple (known, or changed now) of ds -/
def Seq (S : List Dat) (x : Sl) (ds : List Dat) : Prop := x = .d (.lst ds) ∨ x = .d (.tup ds) ∨ ∃ k, x = .c k ∧ S[k]? = some (.lst ds)
theorem Seq.lst {ds : List Dat} : Seq S (.d (.lst ds)) ds := .inl rfl
theorem Seq.tup {ds : List Dat} : Seq S (.d (.tup ds)) ds := .inr (.inl rfl)
theorem Seq.cell {ds : List Dat} {k : Nat} (h : S[k]? = some (.lst ds)) : Seq S (.c k) ds := .inr (.inr ⟨k, rfl, h⟩)
theorem Seq.read {B H : Hp} {as : List Addr} {v : V} {ds : List Dat} (c : Ok K B H as S) (h : Seq S x ds) (r : RepS K B as v x) : ∃ a k vs, v = .ref a ∧ Sq K k H a vs ∧ Reps K B vs ds := by
  rcases h with rfl | rfl | ⟨k, rfl, hk⟩
  · cases r with
    | lst h r => exact ⟨_, true, _, rfl, Or.inl (Or.inl (c.ex _ _ h)), r⟩
  · cases r with
    | tup h r => exact ⟨_, false, _, rfl, Evl.ex_t c.ex h, r⟩
  · obtain ⟨a, ha, rfl⟩ := r
    obtain ⟨_, q⟩ := c.cells k a _ ha hk
    obtain ⟨vs, q1, q2⟩ := q.lst
    exact ⟨a, true, vs, rfl, Or.inl (Or.inl q1), q2⟩
/-- .. that is a list -/
def SeqL (S : List Dat) (x : Sl) (ds : List Dat) : Prop := x = .d (.lst ds) ∨ ∃ k, x = .c k ∧ S[k]? = some (.lst ds)
theorem SeqL.read {B H : Hp} {as : List Addr} {v : V} {ds : List Dat} (c : Ok K B H as S) (h : SeqL S x ds) (r : RepS K B as v x) : ∃ a vs, v = .ref a ∧ H a = some (.lst vs) ∧ Reps K B vs ds := by
  rcases h with rfl | ⟨k, rfl, hk⟩
  · cases r with
    | lst h r => exact ⟨_, _, rfl, c.ex _ _ h, r⟩
  · obtain ⟨a, ha, rfl⟩ := r
    obtain ⟨_, q⟩ := c.cells k a _ ha hk
    obtain ⟨vs, q1, q2⟩ := q.lst
    exact ⟨a, vs, rfl, q1, q2⟩
theorem SeqL.lst {ds : List Dat} : SeqL S (.d (.lst ds)) ds := .inl rfl
theorem SeqL.cell {ds : List Dat} {k : Nat} (h : S[k]? = some (.lst ds)) : SeqL S (.c k) ds := .inr ⟨k, rfl, h⟩
theorem sq_or {H : Hp} {a : Addr} {vs : List V} {k : Bool} (h : Sq K k H a vs) : SqL K H a vs ∨ SqT K H a vs := by
  cases k with
  | true => exact .inl h
  | false => exact .inr h
theorem atI_reps {B : Hp} {vs : List V} {ds : List Dat} {i : Int} {d : Dat} (r : Reps K B vs ds) (h : atI ds i = some d) : ∃ v, atI vs i = some v ∧ Rep K B v d := by
  unfold atI at h ⊢
  rw [r.length]
  cases e : ixN ds.length i with
  | none => rw [e] at h; cases h
  | some j =>
    rw [e] at h
    exact r.get h
/-- xs[i] -/
theorem op2_ix {ds : List Dat} {i : Int} (h : Seq S x ds) (hi : atI ds i = some d) : Op2 K (rIx K) x (.d (.int i)) S d := fun B H as v w c h1 h2 Q q => by
  obtain ⟨a, k, vs, rfl, hq, hr⟩ := h.read c h1
  obtain ⟨u, hu, ru⟩ := atI_reps hr hi
  cases h2
  cases k with
  | true => exact .inl ⟨a, vs, i, u, rfl, rfl, hq, hu, q u B H c Evo.refl ru⟩
  | false => exact .inr (.inl ⟨a, vs, i, u, rfl, rfl, hq, hu, q u B H c Evo.refl ru⟩)
end
end RW

set_option Elab.async false
set_option linter.all false
set_option maxRecDepth 100000
set_option maxHeartbeats 4000000
namespace RW
open PySem PySem.Spec PyProof.Rows L2
open Evl (Ex)

/-! ### statements -/
structure Post where
  nx : Env1 → List Dat → Prop := fun _ _ => False
  rt : Dat → List Dat → Prop := fun _ _ => False
  bk : Env1 → List Dat → Prop := fun _ _ => False
  ct : Env1 → List Dat → Prop := fun _ _ => False
/-- where a def's body stands: it was entered at B0, H0 with the changed things as0 -/
structure Fr (B0 H0 : Hp) (as0 : List Addr) (Bk : Hp) (B H : Hp) (as : List Addr) : Prop where
  kn : Ex Bk B
  base : as.take as0.length = as0
  evo : Evo B0 H0 as0 B H
  loc : ∀ a ∈ as.drop as0.length, H0 a = none
def MeetE (K : PySem.W.Frag) (B0 H0 : Hp) (as0 : List Addr) (Bk : Hp) (p : Env1 → List Dat → Prop) (D : L2.St → Hp → Prop) : Prop :=
  ∀ env' S' B' H' as' σ', Fr B0 H0 as0 Bk B' H' as' → Ok K B' H' as' S' → EnvR K B' as' σ' env' → p env' S' → D σ' H'
structure Meets (K : PySem.W.Frag) (B0 H0 : Hp) (as0 : List Addr) (Bk : Hp) (D : Ends) (P : Post) : Prop where
  nx : MeetE K B0 H0 as0 Bk P.nx D.nx
  rt : ∀ v r S' B' H', Ok K B' H' as0 S' → Evo B0 H0 as0 B' H' → Rep K B' v r → P.rt r S' → D.rt v H'
  bk : MeetE K B0 H0 as0 Bk P.bk D.bk
  ct : MeetE K B0 H0 as0 Bk P.ct D.ct
/-- run from env, S, where n of the changed things came with the call, it ends in P -/
def SP (K : PySem.W.Frag) (n : Nat) (ts : TS) (env : Env1) (S : List Dat) (P : Post) : Prop :=
  ∀ B0 H0 as0 Bk B H as σ, as0.length = n → Fr B0 H0 as0 Bk B H as → Ok K B H as S → EnvR K B as σ env → ∀ D : Ends, Meets K B0 H0 as0 Bk D P → ts D σ H
section
variable {K : PySem.W.Frag} {n : Nat} {te ta tb tc to ti : TE} {tt : TT} {tA tR : TA} {env env' : Env1} {S S1 S2 S3 : List Dat} {x y z : Sl} {d e : Dat} {ds : List Dat} {r : R2} {P P' : Post} {t u : TS}
  {B B0 B1 B' Bk H H0 H1 H' : Hp} {as as0 as1 : List Addr} {D : Ends} {σ : L2.St} {i : Nat}
theorem Evo.old (e : Evo B H as B1 H1) {a : Addr} (h : H1 a = none) : H a = none := by
  cases q : H a with
  | none => rfl
  | some u => exact absurd h (e.pr a (by rw [q]; simp))
theorem Ok.upto (c : Ok K B H as S) (k : Nat) : Ok K B H (as.take k) (S.take k) where
  ex := c.ex
  len := by rw [List.length_take, List.length_take, c.len]
  cells := fun j a s h1 h2 => by
    have hk : j < (as.take k).length := (List.getElem?_eq_some_iff.mp h1).1
    rw [List.length_take] at hk
    have hk' : j < k := by omega
    rw [List.getElem?_take_of_lt hk'] at h1 h2
    exact c.cells j a s h1 h2
  nd := c.nd.sublist (List.take_sublist _ _)
theorem Fr.step (f : Fr B0 H0 as0 Bk B H as) (e : Evo B H as B1 H1) : Fr B0 H0 as0 Bk B1 H1 as where
  kn := f.kn.trans e.ex
  base := f.base
  evo := ⟨f.evo.ex.trans e.ex, fun a o hn q => e.fr a o (fun hm => by
      rw [← List.take_append_drop as0.length as, f.base] at hm
      rcases List.mem_append.mp hm with z | z
      · exact hn z
      · rw [f.loc a z] at q; cases q) (f.evo.fr a o hn q), fun a q => (e.gr a (f.evo.pr a q)).elim (fun z => (f.evo.gr a q).elim (fun z2 => .inl (z.trans z2)) fun ⟨xs, h⟩ => .inr ⟨xs, e.tp a xs h⟩) .inr, fun a xs h => e.tp a xs (f.evo.tp a xs h), fun a q => e.pr a (f.evo.pr a q)⟩
  loc := f.loc
theorem Fr.len (f : Fr B0 H0 as0 Bk B H as) : as0.length ≤ as.length := by
  have := congrArg List.length f.base
  rw [List.length_take] at this
  omega
/-- one more changed thing -/
theorem Fr.push {p : Addr} (f : Fr B0 H0 as0 Bk B H as) (h : H0 p = none) : Fr B0 H0 as0 Bk B H (as ++ [p]) where
  kn := f.kn
  base := by rw [List.take_append_of_le_length f.len]; exact f.base
  evo := f.evo
  loc := fun a ha => by
    rw [List.drop_append_of_le_length f.len] at ha
    rcases List.mem_append.mp ha with z | z
    · exact f.loc a z
    · rw [List.mem_singleton.mp z]; exact h
theorem Ok.push {p : Addr} {s0 : Dat} (c : Ok K B H as S) (hb : B p = none) (ha : p ∉ as) (r : CellAt K B H p s0) : Ok K B H (as ++ [p]) (S ++ [s0]) where
  ex := c.ex
  len := by rw [List.length_append, List.length_append, c.len]; rfl
  cells := fun k a s h1 h2 => by
    by_cases hk : k < as.length
    · rw [List.getElem?_append_left hk] at h1
      rw [List.getElem?_append_left (by rw [← c.len]; exact hk)] at h2
      exact c.cells k a s h1 h2
    · have hk2 : ¬ k < S.length := by rw [← c.len]; exact hk
      rw [List.getElem?_append_right (by omega)] at h1 h2
      have e0 : k - as.length = 0 := by
        have := (List.getElem?_eq_some_iff.mp h1).1
        simp at this
        omega
      have e1 : k - S.length = 0 := by rw [← c.len]; exact e0
      rw [e0] at h1
      rw [e1] at h2
      simp at h1 h2
      subst h1 h2
      exact ⟨hb, r⟩
  nd := List.nodup_append.mpr ⟨c.nd, by simp, fun a h1 b h2 => by rw [List.mem_singleton.mp h2]; rintro rfl; exact ha h1⟩
theorem SP.imp (h : SP K n t env S P) (hn : ∀ env' S', P.nx env' S' → P'.nx env' S') (hr : ∀ r S', P.rt r S' → P'.rt r S') (hb : ∀ env' S', P.bk env' S' → P'.bk env' S') (hc : ∀ env' S', P.ct env' S' → P'.ct env' S') : SP K n t env S P' :=
  fun B0 H0 as0 Bk B H as σ hl f c g D m => h B0 H0 as0 Bk B H as σ hl f c g D ⟨fun a b c d e f g h i p => m.nx a b c d e f g h i (hn _ _ p), fun a b c d e f g h p => m.rt a b c d e f g h (hr _ _ p),
    fun a b c d e f g h i p => m.bk a b c d e f g h i (hb _ _ p), fun a b c d e f g h i p => m.ct a b c d e f g h i (hc _ _ p)⟩
theorem sp_seq (h : SP K n t env S { P with nx := P'.nx }) (k : ∀ env' S', P'.nx env' S' → SP K n u env' S' P) : SP K n (tSeq t u) env S P := fun B0 H0 as0 Bk B H as σ hl f c g D m =>
  h B0 H0 as0 Bk B H as σ hl f c g { D with nx := u D } ⟨fun env' S' B' H' as' σ' f' c' g' p => k env' S' p B0 H0 as0 Bk B' H' as' σ' hl f' c' g' D m, m.rt, m.bk, m.ct⟩
/-- the first one goes on at one place alone -/
theorem sp_then (h : SP K n t env S { P with nx := fun env' S' => env' = env1 ∧ S' = S1 }) (k : SP K n u env1 S1 P) : SP K n (tSeq t u) env S P :=
  sp_seq (P' := { nx := fun env' S' => env' = env1 ∧ S' = S1 }) h fun env' S' ⟨e1, e2⟩ => by subst e1 e2; exact k
theorem sp_next (h : P.nx env S) : SP K n tNext env S P := fun B0 H0 as0 Bk B H as σ hl f c g D m => m.nx env S B H as σ f c g h
theorem sp_break (h : P.bk env S) : SP K n tBreak env S P := fun B0 H0 as0 Bk B H as σ hl f c g D m => m.bk env S B H as σ f c g h
theorem sp_cont (h : P.ct env S) : SP K n tCont env S P := fun B0 H0 as0 Bk B H as σ hl f c g D m => m.ct env S B H as σ f c g h
/-- x = e, and what follows -/
theorem sp_set (h : Ev K te env S x S1) (k : SP K n u (env.set i (some x)) S1 P) : SP K n (tSeq (tAsg te (gName i)) u) env S P := fun B0 H0 as0 Bk B H as σ hl f c g D m =>
  h B H as σ c g _ fun v B1 H1 c1 e1 r1 => k B0 H0 as0 Bk B1 H1 as _ hl (f.step e1) c1 ((g.mono e1.ex).set i r1) D m
theorem sp_set1 (h : Ev K te env S x S1) (k : P.nx (env.set i (some x)) S1) : SP K n (tAsg te (gName i)) env S P := fun B0 H0 as0 Bk B H as σ hl f c g D m =>
  h B H as σ c g _ fun v B1 H1 c1 e1 r1 => m.nx _ S1 B1 H1 as _ (f.step e1) c1 ((g.mono e1.ex).set i r1) k
/-- x = a new list, which will be changed -/
theorem sp_setC (h : EvN K te env S ds S1) (k : SP K n u (env.set i (some (.c S1.length))) (S1 ++ [.lst ds]) P) : SP K n (tSeq (tAsg te (gName i)) u) env S P := fun B0 H0 as0 Bk B H as σ hl f c g D m =>
  h B H as σ c g _ fun p B1 H1 vs c1 e1 hp hb h1 r1 => by
    have hpa := c.fresh hp
    refine k B0 H0 as0 Bk B1 H1 (as ++ [p]) _ hl ((f.step e1).push (f.evo.old hp)) (c1.push hb hpa (.ofL h1 r1)) (((g.mono e1.ex).grow).set i ?_) D m
    exact ⟨p, by rw [← c1.len]; simp, rfl⟩
/-- return e -/
theorem sp_ret (h : Ev K te env S (.d d) S1) (k : P.rt d (S1.take n)) : SP K n (tRet te) env S P := fun B0 H0 as0 Bk B H as σ hl f c g D m =>
  h B H as σ c g _ fun v B1 H1 c1 e1 r1 => by
    have f1 := f.step e1
    have c2 := c1.upto as0.length
    rw [f1.base] at c2
    subst hl
    exact m.rt v d _ B1 H1 c2 f1.evo r1 k
/-- return xs, a list that was made here and changed -/
theorem sp_retC {j k : Nat} (h : env[j]? = some (some (.c k))) (hs : S[k]? = some (.lst ds)) (hk : n ≤ k) (q : P.rt (.lst ds) (S.take n)) : SP K n (tRet (tVar j)) env S P := fun B0 H0 as0 Bk B H as σ hl f c g D m => by
  obtain ⟨v, h1, a, ha, rfl⟩ := g.2 j _ h
  obtain ⟨hb, q0⟩ := c.cells k a _ ha hs
  obtain ⟨vs, hv, rv⟩ := q0.lst
  refine ⟨.ref a, h1, ?_⟩
  have c2 := c.upto as0.length
  rw [f.base] at c2
  subst hl
  have hd : a ∈ as.drop as0.length := by
    have hkl := (List.getElem?_eq_some_iff.mp ha).1
    refine List.mem_of_getElem? (i := k - as0.length) ?_
    rw [List.getElem?_drop]
    rw [show as0.length + (k - as0.length) = k by omega]
    exact ha
  have hn : a ∉ as0 := by
    intro hm
    have nd := c.nd
    rw [← List.take_append_drop as0.length as, f.base] at nd
    exact (List.nodup_append.mp nd).2.2 a hm a hd rfl
  have h0 := f.loc a hd
  exact m.rt (.ref a) (.lst ds) _ (upd B a (.lst vs)) H (c2.know hv hb hn) ⟨f.evo.ex.trans (Evl.Ex.new hb), f.evo.fr, fun b hb' => by rw [upd_ne (by rintro rfl; exact hb' h0)]; exact f.evo.gr b hb', f.evo.tp, f.evo.pr⟩ (.lst upd_same (rv.mono (Evl.Ex.new hb))) q
theorem sp_retN (k : P.rt .non (S.take n)) : SP K n tRetN env S P := fun B0 H0 as0 Bk B H as σ hl f c g D m => by
  have c2 := c.upto as0.length
  rw [f.base] at c2
  subst hl
  exact m.rt .non .non _ B H c2 f.evo .non k
/-- e, and what follows -/
theorem sp_drop (h : Ev K te env S x S1) (k : SP K n u env S1 P) : SP K n (tSeq (tDrop te) u) env S P := fun B0 H0 as0 Bk B H as σ hl f c g D m =>
  h B H as σ c g _ fun v B1 H1 c1 e1 r1 => k B0 H0 as0 Bk B1 H1 as _ hl (f.step e1) c1 (g.mono e1.ex) D m
theorem sp_drop1 (h : Ev K te env S x S1) (k : P.nx env S1) : SP K n (tDrop te) env S P := fun B0 H0 as0 Bk B H as σ hl f c g D m =>
  h B H as σ c g _ fun v B1 H1 c1 e1 r1 => m.nx _ S1 B1 H1 as _ (f.step e1) c1 (g.mono e1.ex) k
theorem sp_if {b : Bool} (h : EvT K tt env S b S1) (h1 : b = true → SP K n t env S1 P) (h2 : b = false → SP K n u env S1 P) : SP K n (tIfS tt t u) env S P := fun B0 H0 as0 Bk B H as σ hl f c g D m =>
  h B H as σ c g _ fun B1 H1 c1 e1 => by
    cases b with
    | true => exact h1 rfl B0 H0 as0 Bk B1 H1 as _ hl (f.step e1) c1 (g.mono e1.ex) D m
    | false => exact h2 rfl B0 H0 as0 Bk B1 H1 as _ hl (f.step e1) c1 (g.mono e1.ex) D m
/-- an if, and what follows -/
theorem sp_ifq {v : TS} {b : Bool} (h : EvT K tt env S b S1) (h1 : b = true → SP K n (tSeq t v) env S1 P) (h2 : b = false → SP K n (tSeq u v) env S1 P) : SP K n (tSeq (tIfS tt t u) v) env S P := fun B0 H0 as0 Bk B H as σ hl f c g D m =>
  h B H as σ c g _ fun B1 H1 c1 e1 => by
    cases b with
    | true => exact h1 rfl B0 H0 as0 Bk B1 H1 as _ hl (f.step e1) c1 (g.mono e1.ex) D m
    | false => exact h2 rfl B0 H0 as0 Bk B1 H1 as _ hl (f.step e1) c1 (g.mono e1.ex) D m
theorem sp_nextq {v : TS} (h : SP K n v env S P) : SP K n (tSeq tNext v) env S P := fun B0 H0 as0 Bk B H as σ hl f c g D m => h B0 H0 as0 Bk B H as σ hl f c g D m
theorem sp_retq {v : TS} (h : SP K n (tRet te) env S P) : SP K n (tSeq (tRet te) v) env S P := fun B0 H0 as0 Bk B H as σ hl f c g D m =>
  h B0 H0 as0 Bk B H as σ hl f c g { D with nx := fun _ _ => True } ⟨fun _ _ _ _ _ _ _ _ _ _ => trivial, m.rt, m.bk, m.ct⟩
theorem sp_assoc {v : TS} (h : SP K n (tSeq t (tSeq u v)) env S P) : SP K n (tSeq (tSeq t u) v) env S P := h

/-! ### a def's promise: G args S result S' -/
def SpD (K : PySem.W.Frag) (G : List Sl → List Dat → Dat → List Dat → Prop) : Sp := fun vs H Q _ => ∃ B as S ss r S', Ok K B H as S ∧ RepSs K B as vs ss ∧ G ss S r S' ∧
  ∀ v B' H', Ok K B' H' as S' → Evo B H as B' H' → Rep K B' v r → Q v H'
theorem sp_body {G : List Sl → List Dat → Dat → List Dat → Prop} {N : List Str} {vs : List V} {Q : VK} {E : XK} (h : SpD K G vs H Q E)
    (k : ∀ ss S r S', G ss S r S' → SP K S.length t (ss.map some ++ List.replicate (N.length - ss.length) none) S { rt := fun r' T => r' = r ∧ T = S', nx := fun _ T => r = .non ∧ T.take S.length = S' }) :
    t { nx := fun _ H' => Q .non H', rt := Q } (start N vs) H := by
  obtain ⟨B, as, S, ss, r, S', c, rs, g, q⟩ := h
  refine k ss S r S' g B H as B B H as _ c.len ⟨Evl.Ex.refl B, List.take_length, Evo.refl, fun a ha => ?_⟩ c (EnvR.start rs) _ ⟨fun env' T B' H' as' σ' f c' g' ⟨p1, p2⟩ => ?_, fun v r' T B' H' c' e' r1 ⟨p1, p2⟩ => ?_, fun _ _ _ _ _ _ _ _ _ p => p.elim, fun _ _ _ _ _ _ _ _ _ p => p.elim⟩
  · rw [List.drop_length] at ha; cases ha
  · subst p1
    have c2 := c'.upto as.length
    rw [f.base, c.len, p2] at c2
    exact q .non B' H' c2 f.evo .non
  · subst p1 p2
    exact q v B' H' c' e' r1
theorem spd_len {G : List Sl → List Dat → Dat → List Dat → Prop} {k : Nat} (h : ∀ ss S r S', G ss S r S' → ss.length = k) : ∀ vs H Q E, SpD K G vs H Q E → vs.length = k := fun vs H Q E q => by
  obtain ⟨B, as, S, ss, r, S', c, rs, g, _⟩ := q
  rw [rs.length]
  exact h ss S r S' g
theorem ev_call {G : List Sl → List Dat → Dat → List Dat → Prop} {ss : List Sl} {E : XK} (h : EvA K tA env S ss S1) (hg : G ss S1 d S2) : Ev K (tCall (SpD K G) [] E tA) env S (.d d) S2 := fun B H as σ c g Q q =>
  h B H as σ c g _ fun vs B1 H1 c1 e1 r1 => ⟨B1, as, S1, ss, d, S2, c1, by rw [List.append_nil]; exact r1, hg, fun v B2 H2 c2 e2 r2 => q v B2 H2 c2 (e1.trans e2) r2⟩
end
end RW

set_option Elab.async false
set_option linter.all false
set_option maxRecDepth 100000
set_option maxHeartbeats 4000000
namespace RW
open PySem PySem.Spec PyProof.Rows L2
open Evl (Ex)
section
variable {K : PySem.W.Frag} {n : Nat} {te ta tb tc to ti : TE} {tt tu : TT} {tA tR : TA} {env env' : Env1} {S S1 S2 S3 : List Dat} {x y z : Sl} {d e : Dat} {ds es : List Dat} {r r' : R2} {P P' : Post} {t u : TS}
  {B B0 B1 B' H H0 H1 H' : Hp} {as as0 as1 : List Addr} {D : Ends} {σ : L2.St} {i : Nat} {a b c : Bool}
/-! ### truth -/
theorem et_test (h : Ev K te env S (.d (.bl b)) S1) : EvT K (tTest te) env S b S1 := fun B H as σ c g Q q => h B H as σ c g _ fun v B1 H1 c1 e1 r1 => by
  cases r1; exact ⟨b, rfl, q B1 H1 c1 e1⟩
theorem et_B (h : Ev K te env S (.d (.bl b)) S1) : EvT K (tB te) env S b S1 := fun B H as σ c g Q q => h B H as σ c g _ fun v B1 H1 c1 e1 r1 => by
  cases r1; exact ⟨b, rfl, q B1 H1 c1 e1⟩
theorem et_yes : EvT K tYes env S true S := fun B H as σ c g Q q => q B H c Evo.refl
theorem et_and (h1 : EvT K tt env S a S1) (h2 : a = true → EvT K tu env S1 b S2) (h3 : a = false → S2 = S1 ∧ b = false) : EvT K (tAnd tt tu) env S b S2 := fun B H as σ c g Q q =>
  h1 B H as σ c g _ fun B1 H1 c1 e1 => by
    cases a with
    | true => exact h2 rfl B1 H1 as σ c1 (g.mono e1.ex) Q fun B2 H2 c2 e2 => q B2 H2 c2 (e1.trans e2)
    | false =>
      obtain ⟨e2, e3⟩ := h3 rfl
      subst e2 e3
      exact q B1 H1 c1 e1
theorem et_or (h1 : EvT K tt env S a S1) (h2 : a = false → EvT K tu env S1 b S2) (h3 : a = true → S2 = S1 ∧ b = true) : EvT K (tOr tt tu) env S b S2 := fun B H as σ c g Q q =>
  h1 B H as σ c g _ fun B1 H1 c1 e1 => by
    cases a with
    | false => exact h2 rfl B1 H1 as σ c1 (g.mono e1.ex) Q fun B2 H2 c2 e2 => q B2 H2 c2 (e1.trans e2)
    | true =>
      obtain ⟨e2, e3⟩ := h3 rfl
      subst e2 e3
      exact q B1 H1 c1 e1
/-- both without change -/
theorem et_andP (h1 : EvT K tt env S a S) (h2 : a = true → EvT K tu env S b S) : EvT K (tAnd tt tu) env S (a && b) S := by
  cases a with
  | true => exact et_and h1 (fun _ => by simpa using h2 rfl) (fun h => by cases h)
  | false => exact et_and h1 (fun h => by cases h) (fun _ => ⟨rfl, rfl⟩)
theorem et_orP (h1 : EvT K tt env S a S) (h2 : a = false → EvT K tu env S b S) : EvT K (tOr tt tu) env S (a || b) S := by
  cases a with
  | false => exact et_or h1 (fun _ => by simpa using h2 rfl) (fun h => by cases h)
  | true => exact et_or h1 (fun h => by cases h) (fun _ => ⟨rfl, rfl⟩)
theorem et_not (h1 : EvT K tt env S a S1) : EvT K (tNot tt) env S (!a) S1 := fun B H as σ c g Q q => h1 B H as σ c g _ fun B1 H1 c1 e1 => q B1 H1 c1 e1
theorem ev_andV (h1 : Ev K ta env S (.d (.bl a)) S) (h2 : a = true → Ev K tb env S (.d (.bl b)) S) : Ev K (tAndV ta tb) env S (.d (.bl (a && b))) S := fun B H as σ c g Q q =>
  h1 B H as σ c g _ fun v B1 H1 c1 e1 r1 => by
    cases r1
    refine ⟨a, rfl, ?_⟩
    cases a with
    | true => exact h2 rfl B1 H1 as σ c1 (g.mono e1.ex) Q fun v B2 H2 c2 e2 r2 => q v B2 H2 c2 (e1.trans e2) r2
    | false => exact q _ B1 H1 c1 e1 (.bl false)
theorem ev_orV (h1 : Ev K ta env S (.d (.bl a)) S) (h2 : a = false → Ev K tb env S (.d (.bl b)) S) : Ev K (tOrV ta tb) env S (.d (.bl (a || b))) S := fun B H as σ c g Q q =>
  h1 B H as σ c g _ fun v B1 H1 c1 e1 r1 => by
    cases r1
    refine ⟨a, rfl, ?_⟩
    cases a with
    | false => exact h2 rfl B1 H1 as σ c1 (g.mono e1.ex) Q fun v B2 H2 c2 e2 r2 => q v B2 H2 c2 (e1.trans e2) r2
    | true => exact q _ B1 H1 c1 e1 (.bl true)
theorem ev_notV (h1 : Ev K ta env S (.d (.bl a)) S1) : Ev K (tNotV ta) env S (.d (.bl (!a))) S1 := fun B H as σ c g Q q =>
  h1 B H as σ c g _ fun v B1 H1 c1 e1 r1 => by
    cases r1
    exact ⟨a, rfl, q _ B1 H1 c1 e1 (.bl _)⟩
theorem ev_if (h : EvT K tt env S b S1) (h1 : b = true → Ev K ta env S1 x S2) (h2 : b = false → Ev K tb env S1 x S2) : Ev K (tIf tt ta tb) env S x S2 := fun B H as σ c g Q q =>
  h B H as σ c g _ fun B1 H1 c1 e1 => by
    cases b with
    | true => exact h1 rfl B1 H1 as σ c1 (g.mono e1.ex) Q fun v B2 H2 c2 e2 r2 => q v B2 H2 c2 (e1.trans e2) r2
    | false => exact h2 rfl B1 H1 as σ c1 (g.mono e1.ex) Q fun v B2 H2 c2 e2 r2 => q v B2 H2 c2 (e1.trans e2) r2
/-- a op b op' c -/
theorem ev_chain (h1 : Ev K ta env S x S1) (h2 : Ev K tb env S1 y S2) (hr : Op2 K r x y S2 (.bl a)) (h3 : a = true → Ev K tc env S2 z S2) (hr' : a = true → Op2 K r' y z S2 (.bl b)) : Ev K (tChain r r' ta tb tc) env S (.d (.bl (a && b))) S2 := fun B H as σ c g Q q =>
  h1 B H as σ c g _ fun v B1 H1 c1 e1 r1 => h2 B1 H1 as σ c1 (g.mono e1.ex) _ fun w B2 H2 c2 e2 r2 => hr B2 H2 as v w c2 (r1.mono e2.ex) r2 _ fun u B3 H3 c3 e3 r3 => by
    cases r3
    refine ⟨a, rfl, ?_⟩
    have e03 := (e1.trans e2).trans e3
    cases a with
    | true => exact h3 rfl B3 H3 as σ c3 (g.mono e03.ex) _ fun w' B4 H4 c4 e4 r4 => hr' rfl B4 H4 as w w' c4 ((r2.mono e3.ex).mono e4.ex) r4 Q fun u B5 H5 c5 e5 r5 => q u B5 H5 c5 ((e03.trans e4).trans e5) r5
    | false => exact q _ B3 H3 c3 e03 (.bl false)
/-- truth of a list, a tuple (if xs:) -/
def tTru (K : PySem.W.Frag) (ta : TE) : TT := fun σ H Q => ta σ H fun x H' => ∃ k, TruV K x H' k ∧ Q k H'
theorem pt_tru {X : Cx} {e : Expr} {ta : TE} (ha : PE X e ta) (he : ∀ whole, isTrue e X.env whole = (do let v ← whole; standAt e.pos; holding [v] (truthy v)) := by intro _; rfl) : PT X e (tTru X.K ta) := pt_truth ha he
theorem isEmpty_reps {vs : List V} {ds : List Dat} (r : Reps K B vs ds) : vs.isEmpty = ds.isEmpty := by cases r <;> rfl
theorem et_seq (h : Ev K ta env S x S1) (hs : Seq S1 x ds) : EvT K (tTru K ta) env S (!ds.isEmpty) S1 := fun B H as σ c g Q q => h B H as σ c g _ fun v B1 H1 c1 e1 r1 => by
  obtain ⟨a, k, vs, rfl, hq, hr⟩ := hs.read c1 r1
  refine ⟨!ds.isEmpty, ?_, q B1 H1 c1 e1⟩
  rw [← isEmpty_reps hr]
  cases k with
  | true => exact .inl ⟨vs, hq, rfl⟩
  | false => exact .inr (.inl ⟨vs, hq, rfl⟩)
theorem et_bl (h : Ev K ta env S (.d (.bl b)) S1) : EvT K (tTru K ta) env S b S1 := fun B H as σ c g Q q => h B H as σ c g _ fun v B1 H1 c1 e1 r1 => by
  cases r1; exact ⟨b, rfl, q B1 H1 c1 e1⟩

/-! ### calls of built-ins by values -/
theorem ev_cb {r : List V → Hp → VK → Prop} {xs : List Sl} (h : EvA K tA env S xs S1) (hc : CallD K r xs S1 d S2) : Ev K (tCB r tA) env S (.d d) S2 := fun B H as σ c g Q q =>
  h B H as σ c g _ fun vs B1 H1 c1 e1 r1 => hc B1 H1 as vs c1 r1 Q fun u B2 H2 c2 e2 r2 => q u B2 H2 c2 (e1.trans e2) r2
def rLenD (K : PySem.W.Frag) : List V → Hp → VK → Prop := fun xs H Q => ∃ p ys, xs = [.ref p] ∧ (SqL K H p ys ∨ SqT K H p ys) ∧ Q (.int ys.length) H
theorem call_lenD {X : Cx} : CallR X (.builtin "len") (rLenD X.K) := call_len_seq
theorem cd_len (h : Seq S x ds) : CallD K (rLenD K) [x] S (.int ds.length) S := fun B H as vs c r Q q => by
  cases r with
  | cons r1 rr =>
    cases rr
    obtain ⟨a, k, ws, rfl, hq, hr⟩ := h.read c r1
    exact ⟨a, ws, rfl, sq_or hq, by rw [hr.length]; exact q _ B H c Evo.refl (.int _)⟩
theorem cd_lenS {ns : List Int} : CallD K (rLenD K) [.d (.scr ns)] S (.int ns.length) S := fun B H as vs c r Q q => by
  cases r with
  | cons r1 rr =>
    cases rr
    cases r1 with
    | scr h =>
      refine ⟨_, _, rfl, .inl (Evl.ex_l c.ex h), ?_⟩
      rw [List.length_map]
      exact q _ B H c Evo.refl (.int _)
theorem cd_sum {ns : List Int} (h : SeqL S x (ns.map Dat.int)) : CallD K (rSum K) [x] S (.int ns.sum) S := fun B H as vs c r Q q => by
  cases r with
  | cons r1 rr =>
    cases rr
    obtain ⟨a, ws, rfl, hq, hr⟩ := h.read c r1
    rw [hr.ints] at hq
    exact ⟨a, ns, rfl, Evl.sq_of hq, q _ B H c Evo.refl (.int _)⟩
theorem cd_all {bs : List Bool} (h : SeqL S x (bs.map Dat.bl)) : CallD K (rAll K) [x] S (.bl (bs.all id)) S := fun B H as vs c r Q q => by
  cases r with
  | cons r1 rr =>
    cases rr
    obtain ⟨a, ws, rfl, hq, hr⟩ := h.read c r1
    rw [hr.bls] at hq
    exact ⟨a, bs, rfl, Evl.sq_of hq, q _ B H c Evo.refl (.bl _)⟩
theorem cd_any {bs : List Bool} (h : SeqL S x (bs.map Dat.bl)) : CallD K (rAny K) [x] S (.bl (bs.any id)) S := fun B H as vs c r Q q => by
  cases r with
  | cons r1 rr =>
    cases rr
    obtain ⟨a, ws, rfl, hq, hr⟩ := h.read c r1
    rw [hr.bls] at hq
    exact ⟨a, bs, rfl, Evl.sq_of hq, q _ B H c Evo.refl (.bl _)⟩
def rTupD (K : PySem.W.Frag) : List V → Hp → VK → Prop := fun xs H Q => ∃ p ys, xs = [.ref p] ∧ ((SqL K H p ys ∧ ∀ l, H l = none → Q (.ref l) (upd H l (.tup ys))) ∨ (SqT K H p ys ∧ Q (.ref p) H))
theorem call_tupD {X : Cx} (hc : X.calm = true) : CallR X (.type "tuple") (rTupD X.K) := by first | exact call_tuple_of | exact call_tuple_of hc
theorem cd_tup (h : SeqL S x ds) : CallD K (rTupD K) [x] S (.tup ds) S := fun B H as vs c r Q q => by
  cases r with
  | cons r1 rr =>
    cases rr
    obtain ⟨a, ws, rfl, hq, hr⟩ := h.read c r1
    exact ⟨a, ws, rfl, .inl ⟨Evl.sq_of hq, fun l hl => q _ (upd B l (.tup ws)) _ (c.new hl) (Evo.new c hl) (.tup (Evl.st_of upd_same) (hr.mono (Evl.Ex.new (c.Bnone hl))))⟩⟩
def rLstD (K : PySem.W.Frag) : List V → Hp → VK → Prop := fun xs H Q => ∃ p ys, xs = [.ref p] ∧ (SqL K H p ys ∨ SqT K H p ys) ∧ ∀ l, H l = none → Q (.ref l) (upd H l (.lst ys))
theorem call_lstD {X : Cx} (hc : X.calm = true) : CallR X (.type "list") (rLstD X.K) := by first | exact call_list_of | exact call_list_of hc
theorem en_list (h : EvA K tA env S [x] S1) (hs : Seq S1 x ds) : EvN K (tCB (rLstD K) tA) env S ds S1 := fun B H as σ c g Q q =>
  h B H as σ c g _ fun vs B1 H1 c1 e1 r1 => by
    cases r1 with
    | cons r1 rr =>
      cases rr
      obtain ⟨a, k, ws, rfl, hq, hr⟩ := hs.read c1 r1
      exact ⟨a, ws, rfl, sq_or hq, fun l hl => evn_new c c1 e1 hl hr q⟩
def rMax2D : List V → Hp → VK → Prop := fun xs H Q => ∃ i j, xs = [.int i, .int j] ∧ Q (.int (if j > i then j else i)) H
theorem call_max2D {X : Cx} (hc : X.calm = true) : CallR X (.builtin "max") rMax2D := call_max2 hc
theorem cd_max2 {i j : Int} : CallD K rMax2D [.d (.int i), .d (.int j)] S (.int (max i j)) S := fun B H as vs c r Q q => by
  cases r with
  | cons r1 rr =>
    cases rr with
    | cons r2 rr =>
      cases rr; cases r1; cases r2
      refine ⟨i, j, rfl, ?_⟩
      have e : (if j > i then j else i) = max i j := by rw [Int.max_def]; split <;> split <;> omega
      rw [e]
      exact q _ B H c Evo.refl (.int _)
def rMin2D : List V → Hp → VK → Prop := fun xs H Q => ∃ i j, xs = [.int i, .int j] ∧ Q (.int (if j < i then j else i)) H
theorem call_min2D {X : Cx} (hc : X.calm = true) : CallR X (.builtin "min") rMin2D := call_min2 hc
theorem cd_min2 {i j : Int} : CallD K rMin2D [.d (.int i), .d (.int j)] S (.int (min i j)) S := fun B H as vs c r Q q => by
  cases r with
  | cons r1 rr =>
    cases rr with
    | cons r2 rr =>
      cases rr; cases r1; cases r2
      refine ⟨i, j, rfl, ?_⟩
      have e : (if j < i then j else i) = min i j := by rw [Int.min_def]; split <;> split <;> omega
      rw [e]
      exact q _ B H c Evo.refl (.int _)
def rAbsD : List V → Hp → VK → Prop := fun xs H Q => ∃ i, xs = [.int i] ∧ Q (.int (if i < 0 then -i else i)) H
theorem call_absD {X : Cx} : CallR X (.builtin "abs") rAbsD := call_abs
theorem cd_abs {i : Int} : CallD K rAbsD [.d (.int i)] S (.int (i.natAbs : Int)) S := fun B H as vs c r Q q => by
  cases r with
  | cons r1 rr =>
    cases rr; cases r1
    refine ⟨i, rfl, ?_⟩
    have e : (if i < 0 then -i else i) = (i.natAbs : Int) := by split <;> omega
    rw [e]
    exact q _ B H c Evo.refl (.int _)
def rIntD : List V → Hp → VK → Prop := fun xs H Q => (∃ i, xs = [.int i] ∧ Q (.int i) H) ∨ ∃ b, xs = [.bl b] ∧ Q (.int (b2i b)) H
theorem call_intD {X : Cx} : CallR X (.type "int") rIntD := call_int1
theorem cd_int {i : Int} : CallD K rIntD [.d (.int i)] S (.int i) S := fun B H as vs c r Q q => by
  cases r with
  | cons r1 rr =>
    cases rr; cases r1
    exact .inl ⟨i, rfl, q _ B H c Evo.refl (.int _)⟩
theorem cd_intB : CallD K rIntD [.d (.bl b)] S (.int (b2i b)) S := fun B H as vs c r Q q => by
  cases r with
  | cons r1 rr =>
    cases rr; cases r1
    exact .inr ⟨b, rfl, q _ B H c Evo.refl (.int _)⟩
end
end RW

set_option Elab.async false
set_option linter.all false
set_option maxRecDepth 100000
set_option maxHeartbeats 4000000
namespace RW
open PySem PySem.Spec PyProof.Rows L2
open Evl (Ex)
section
variable {K : PySem.W.Frag} {n : Nat} {te ta tb tc to ti : TE} {tt tu : TT} {tA tR : TA} {env env' : Env1} {S S1 S2 S3 : List Dat} {x y z : Sl} {d e : Dat} {ds es : List Dat} {r r' : R2} {P P' : Post} {t u : TS}
  {B B0 B1 B' H H0 H1 H' : Hp} {as as0 as1 : List Addr} {D : Ends} {σ : L2.St} {i : Nat} {a b c : Bool}
/-! ### + and slices -/
theorem reps_nil {vs : List V} : Reps K B vs [] → vs = [] := fun h => by cases h; rfl
theorem reps_ne {vs : List V} (r : Reps K B vs ds) : vs = [] ↔ ds = [] := by cases r <;> simp
theorem op2_catT (hl : ds.length + es.length ≤ sizeLine) : Op2 K (rCatA K) (.d (.tup ds)) (.d (.tup es)) S (.tup (ds ++ es)) := fun B H as v w c h1 h2 Q q => by
  cases h1 with
  | tup h1 r1 =>
    cases h2 with
    | tup h2 r2 =>
      rename_i a1 xs a2 ys
      refine ⟨a1, a2, xs, ys, rfl, rfl, Evl.ex_t c.ex h1, Evl.ex_t c.ex h2, by rw [r1.length, r2.length]; exact hl, fun e => ?_, fun _ e => ?_, fun _ _ p hp => ?_⟩
      · have : ds = [] := (reps_ne r1).mp e
        subst this
        exact q _ B H c Evo.refl (.tup h2 r2)
      · have : es = [] := (reps_ne r2).mp e
        subst this
        rw [List.append_nil] at q
        exact q _ B H c Evo.refl (.tup h1 r1)
      · exact q _ (upd B p _) _ (c.new hp) (Evo.new c hp) (.tup (Evl.st_of upd_same) ((r1.append r2).mono (Evl.Ex.new (c.Bnone hp))))
/-- a binary operation that makes a new list -/
theorem en_cat {ds es : List Dat} (ha : Ev K ta env S x S1) (hb : Ev K tb env S1 y S2) (hx : SeqL S2 x ds) (hy : SeqL S2 y es) (hl : ds.length + es.length ≤ sizeLine) : EvN K (tOp rCat ta tb) env S (ds ++ es) S2 := fun B H as σ c g Q q =>
  ha B H as σ c g _ fun v B1 H1 c1 e1 r1 => hb B1 H1 as σ c1 (g.mono e1.ex) _ fun w B2 H2 c2 e2 r2 => by
    obtain ⟨a1, xs, rfl, h1, q1⟩ := hx.read c2 (r1.mono e2.ex)
    obtain ⟨a2, ys, rfl, h2, q2⟩ := hy.read c2 r2
    exact ⟨a1, a2, xs, ys, rfl, rfl, h1, h2, by rw [q1.length, q2.length]; exact hl, fun p hp => evn_new c c2 (e1.trans e2) hp (q1.append q2) q⟩
theorem reps_rep {vs : List V} (r : Reps K B vs ds) : ∀ k : Nat, Reps K B (List.replicate k vs).flatten (List.replicate k ds).flatten
  | 0 => .nil
  | k + 1 => by
    rw [List.replicate_succ, List.replicate_succ, List.flatten_cons, List.flatten_cons]
    exact r.append (reps_rep r k)
theorem en_rep {ds : List Dat} {k : Int} (ha : Ev K ta env S x S1) (hb : Ev K tb env S1 (.d (.int k)) S2) (hx : SeqL S2 x ds) (hk : -(2 ^ 63) ≤ k ∧ k < 2 ^ 63) (hl : ds.length * k.toNat ≤ sizeLine) : EvN K (tOp rRep ta tb) env S (List.replicate k.toNat ds).flatten S2 := fun B H as σ c g Q q =>
  ha B H as σ c g _ fun v B1 H1 c1 e1 r1 => hb B1 H1 as σ c1 (g.mono e1.ex) _ fun w B2 H2 c2 e2 r2 => by
    obtain ⟨a1, xs, rfl, h1, q1⟩ := hx.read c2 (r1.mono e2.ex)
    cases r2
    exact ⟨a1, k, xs, rfl, rfl, h1, hk.1, hk.2, by rw [q1.length]; exact hl, fun p hp => evn_new c c2 (e1.trans e2) hp (reps_rep q1 _) q⟩
def cutD (xs : List Dat) (lo hi : Option Int) : List Dat := (xs.drop (HT.sIx xs.length 0 lo)).take (HT.sIx xs.length xs.length hi - HT.sIx xs.length 0 lo)
theorem reps_cut {vs : List V} (r : Reps K B vs ds) (lo hi : Option Int) : Reps K B (cutV vs lo hi) (cutD ds lo hi) := by
  unfold cutV cutD
  rw [r.length]
  exact (r.drop _).take _
def EvO (K : PySem.W.Frag) (to : TO) (env : Env1) (S : List Dat) (o : Option Int) (S' : List Dat) : Prop :=
  ∀ B H as σ, Ok K B H as S → EnvR K B as σ env → ∀ Q : Option Int → Hp → Prop, (∀ B' H', Ok K B' H' as S' → Evo B H as B' H' → Q o H') → to σ H Q
theorem eo_none : EvO K tNoPart env S none S := fun B H as σ c g Q q => q B H c Evo.refl
theorem eo_some {k : Int} (h : Ev K te env S (.d (.int k)) S1) : EvO K (tPart te) env S (some k) S1 := fun B H as σ c g Q q => h B H as σ c g _ fun v B1 H1 c1 e1 r1 => by
  cases r1; exact ⟨k, rfl, q B1 H1 c1 e1⟩
theorem cutD_whole {lo hi : Option Int} (h : HT.sIx ds.length 0 lo = 0 ∧ HT.sIx ds.length ds.length hi = ds.length) : cutD ds lo hi = ds := by
  unfold cutD
  rw [h.1, h.2, List.drop_zero, Nat.sub_zero, List.take_length]
/-- t[lo:hi], a tuple -/
theorem ev_slT {tl th : TO} {lo hi : Option Int} (h : Ev K te env S (.d (.tup ds)) S1) (hl : EvO K tl env S1 lo S2) (hh : EvO K th env S2 hi S3) : Ev K (tSl (rSlA K) te tl th) env S (.d (.tup (cutD ds lo hi))) S3 := fun B H as σ c g Q q =>
  h B H as σ c g _ fun v B1 H1 c1 e1 r1 => hl B1 H1 as σ c1 (g.mono e1.ex) _ fun B2 H2 c2 e2 => hh B2 H2 as σ c2 (g.mono (e1.trans e2).ex) _ fun B3 H3 c3 e3 => by
    have r3 : Rep K B3 v (.tup ds) := Rep.mono (e2.trans e3).ex r1
    have e03 := (e1.trans e2).trans e3
    cases r3 with
    | tup h1 r1 =>
      refine ⟨_, _, rfl, Evl.ex_t c3.ex h1, fun hw => ?_, fun hw p hp => ?_⟩
      · rw [r1.length] at hw
        rw [cutD_whole hw] at q
        exact q _ B3 H3 c3 e03 (.tup h1 r1)
      · exact q _ (upd B3 p _) _ (c3.new hp) (e03.trans (Evo.new c3 hp)) (.tup (Evl.st_of upd_same) ((reps_cut r1 lo hi).mono (Evl.Ex.new (c3.Bnone hp))))
/-- xs[lo:hi], a list -/
theorem en_slL {tl th : TO} {lo hi : Option Int} (h : Ev K te env S x S1) (hl : EvO K tl env S1 lo S2) (hh : EvO K th env S2 hi S3) (hx : SeqL S3 x ds) : EvN K (tSl (rSlL K) te tl th) env S (cutD ds lo hi) S3 := fun B H as σ c g Q q =>
  h B H as σ c g _ fun v B1 H1 c1 e1 r1 => hl B1 H1 as σ c1 (g.mono e1.ex) _ fun B2 H2 c2 e2 => hh B2 H2 as σ c2 (g.mono (e1.trans e2).ex) _ fun B3 H3 c3 e3 => by
    obtain ⟨a1, xs, rfl, h1, q1⟩ := hx.read c3 (r1.mono (e2.trans e3).ex)
    exact ⟨a1, xs, rfl, Evl.sq_of h1, fun p hp => evn_new c c3 ((e1.trans e2).trans e3) hp (reps_cut q1 lo hi) q⟩

/-! ### what is walked -/
structure WalkD (K : PySem.W.Frag) (B : Hp) (J : It) (G : List Addr → List Dat → Prop) (ds : List Dat) : Prop where
  go : ∀ B2 H2 as2 S2 i, Ex B B2 → Ok K B2 H2 as2 S2 → G as2 S2 → i < ds.length → J.go i H2
  yld : ∀ B2 H2 as2 S2 i x H3, Ex B B2 → Ok K B2 H2 as2 S2 → G as2 S2 → i < ds.length → J.yld i H2 x H3 → ∃ B3 d, Ok K B3 H3 as2 S2 ∧ Evo B2 H2 as2 B3 H3 ∧ ds[i]? = some d ∧ Rep K B3 x d
  stop : ∀ B2 H2 as2 S2, Ex B B2 → Ok K B2 H2 as2 S2 → G as2 S2 → J.stop ds.length H2
def IterD (K : PySem.W.Frag) (wi : TI) (env : Env1) (S : List Dat) (G : List Addr → List Addr → List Dat → Prop) (ds : List Dat) (S1 : List Dat) : Prop :=
  ∀ B H as σ, Ok K B H as S → EnvR K B as σ env → ∀ R : It → Hp → Prop, (∀ J B1 H1, Ok K B1 H1 as S1 → Evo B H as B1 H1 → WalkD K B1 J (G as) ds → R J H1) → wi σ H R
/-- nothing is asked: what is walked is known -/
def G0 : List Addr → List Addr → List Dat → Prop := fun _ _ _ => True
/-- the k-th changed thing, left as it is while it is walked -/
def Gc (k : Nat) (ds : List Dat) : List Addr → List Addr → List Dat → Prop := fun as as2 S2 => as2[k]? = as[k]? ∧ S2[k]? = some (.lst ds)
theorem walk_known {a : Addr} {vs : List V} {k : Bool} (hq : Sq K k B a vs) (r : Reps K B vs ds) (G : List Addr → List Dat → Prop) : WalkD K B (ItS K k a) G ds where
  go := fun B2 H2 as2 S2 i e c _ hi => by
    obtain ⟨v, hv, _⟩ := r.get (List.getElem?_eq_getElem hi)
    cases k with
    | true => exact ⟨vs, v, Evl.ex_l c.ex (Evl.ex_l e hq), hv⟩
    | false => exact ⟨vs, v, Evl.ex_t c.ex (Evl.ex_t e hq), hv⟩
  yld := fun B2 H2 as2 S2 i x H3 e c _ hi y => by
    obtain ⟨v, hv, rv⟩ := r.get (List.getElem?_eq_getElem hi)
    cases k with
    | true =>
      obtain ⟨rfl, y⟩ := y
      have := y vs (Evl.ex_l c.ex (Evl.ex_l e hq))
      rw [hv] at this
      cases this
      exact ⟨B2, _, c, Evo.refl, List.getElem?_eq_getElem hi, rv.mono e⟩
    | false =>
      obtain ⟨rfl, y⟩ := y
      have := y vs (Evl.ex_t c.ex (Evl.ex_t e hq))
      rw [hv] at this
      cases this
      exact ⟨B2, _, c, Evo.refl, List.getElem?_eq_getElem hi, rv.mono e⟩
  stop := fun B2 H2 as2 S2 e c _ => by
    cases k with
    | true => exact ⟨vs, Evl.ex_l c.ex (Evl.ex_l e hq), by rw [r.length]; exact Nat.le_refl _⟩
    | false => exact ⟨vs, Evl.ex_t c.ex (Evl.ex_t e hq), by rw [r.length]; exact Nat.le_refl _⟩
theorem it_lst (h : Ev K te env S (.d (.lst ds)) S1) : IterD K (iSeq K te) env S G0 ds S1 := fun B H as σ c g R q => h B H as σ c g _ fun v B1 H1 c1 e1 r1 => by
  cases r1 with
  | lst h r => exact ⟨_, true, rfl, ⟨_, Evl.sq_of (c1.ex _ _ h)⟩, q _ B1 H1 c1 e1 (walk_known (k := true) (Evl.sq_of h) r _)⟩
theorem it_tup (h : Ev K te env S (.d (.tup ds)) S1) : IterD K (iSeq K te) env S G0 ds S1 := fun B H as σ c g R q => h B H as σ c g _ fun v B1 H1 c1 e1 r1 => by
  cases r1 with
  | tup h r => exact ⟨_, false, rfl, ⟨_, Evl.ex_t c1.ex h⟩, q _ B1 H1 c1 e1 (walk_known (k := false) h r _)⟩
theorem it_cell {k : Nat} (h : Ev K te env S (.c k) S1) (hk : S1[k]? = some (.lst ds)) : IterD K (iSeq K te) env S (Gc k ds) ds S1 := fun B H as σ c g R q => h B H as σ c g _ fun v B1 H1 c1 e1 r1 => by
  obtain ⟨a, ha, rfl⟩ := r1
  obtain ⟨_, q0⟩ := c1.cells k a _ ha hk
  obtain ⟨vs, hv, rv⟩ := q0.lst
  have rd : ∀ {B2 H2 as2 S2}, Ok K B2 H2 as2 S2 → Gc k ds as as2 S2 → ∃ ws, H2 a = some (.lst ws) ∧ Reps K B2 ws ds := fun {B2 H2 as2 S2} c2 g2 => by
    obtain ⟨g1, g2⟩ := g2
    obtain ⟨_, q0⟩ := c2.cells k a _ (g1.trans ha) g2
    obtain ⟨ws, hw, rw'⟩ := q0.lst
    exact ⟨ws, hw, rw'⟩
  refine ⟨a, true, rfl, ⟨vs, Evl.sq_of hv⟩, q _ B1 H1 c1 e1 ⟨fun B2 H2 as2 S2 i e c2 g2 hi => ?_, fun B2 H2 as2 S2 i x H3 e c2 g2 hi y => ?_, fun B2 H2 as2 S2 e c2 g2 => ?_⟩⟩
  · obtain ⟨ws, hw, rw'⟩ := rd c2 g2
    obtain ⟨v, hv, _⟩ := rw'.get (List.getElem?_eq_getElem hi)
    exact ⟨ws, v, Evl.sq_of hw, hv⟩
  · obtain ⟨ws, hw, rw'⟩ := rd c2 g2
    obtain ⟨v, hv, rv⟩ := rw'.get (List.getElem?_eq_getElem hi)
    obtain ⟨rfl, y⟩ := y
    have := y ws (Evl.sq_of hw)
    rw [hv] at this
    cases this
    exact ⟨B2, _, c2, Evo.refl, List.getElem?_eq_getElem hi, rv⟩
  · obtain ⟨ws, hw, rw'⟩ := rd c2 g2
    exact ⟨ws, Evl.sq_of hw, by rw [rw'.length]; exact Nat.le_refl _⟩
theorem it_script {ns : List Int} (h : Ev K te env S (.d (.scr ns)) S1) : IterD K (iSeq K te) env S G0 (ns.map Dat.int) S1 := fun B H as σ c g R q => h B H as σ c g _ fun v B1 H1 c1 e1 r1 => by
  cases r1 with
  | scr h =>
    have rr : ∀ ns : List Int, Reps K B1 (ns.map V.int) (ns.map Dat.int) := fun ns => by
      induction ns with
      | nil => exact .nil
      | cons n ns ih => exact .cons (.int n) ih
    exact ⟨_, true, rfl, ⟨_, Evl.ex_l c1.ex h⟩, q _ B1 H1 c1 e1 (walk_known (k := true) h (rr ns) _)⟩
/-- range(n), range(lo, hi) -/
def rng (lo : Int) (n : Nat) : List Dat := (List.range n).map fun i => Dat.int (lo + (i : Nat))
theorem rng_get {lo : Int} {n i : Nat} (h : i < n) : (rng lo n)[i]? = some (.int (lo + (i : Nat))) := by
  unfold rng
  rw [List.getElem?_map, List.getElem?_range h]
  rfl
theorem rng_len {lo : Int} {n : Nat} : (rng lo n).length = n := by unfold rng; rw [List.length_map, List.length_range]
theorem walk_rng {lo : Int} {n : Nat} {G : List Addr → List Dat → Prop} : WalkD K B (Itr lo n) G (rng lo n) where
  go := fun B2 H2 as2 S2 i _ _ _ hi => by rw [rng_len] at hi; exact hi
  yld := fun B2 H2 as2 S2 i x H3 _ c _ hi y => by
    rw [rng_len] at hi
    obtain ⟨rfl, rfl⟩ := y
    exact ⟨B2, _, c, Evo.refl, rng_get hi, .int _⟩
  stop := fun B2 H2 as2 S2 _ _ _ => by rw [rng_len]; exact Nat.le_refl _
theorem it_range1 {j : Int} (h : EvA K tA env S [.d (.int j)] S1) (hj : -(2 ^ 62) ≤ j ∧ j < 2 ^ 62) : IterD K (iRng1 tA) env S G0 (rng 0 j.toNat) S1 := fun B H as σ c g R q => h B H as σ c g _ fun vs B1 H1 c1 e1 r1 => by
  cases r1 with
  | cons r1 rr =>
    cases rr; cases r1
    exact ⟨j, rfl, hj.1, hj.2, q _ B1 H1 c1 e1 walk_rng⟩
theorem it_range2 {i j : Int} (h : EvA K tA env S [.d (.int i), .d (.int j)] S1) (hi : -(2 ^ 62) ≤ i ∧ i < 2 ^ 62) (hj : -(2 ^ 62) ≤ j ∧ j < 2 ^ 62) : IterD K (iRng2 tA) env S G0 (rng i (j - i).toNat) S1 := fun B H as σ c g R q => h B H as σ c g _ fun vs B1 H1 c1 e1 r1 => by
  cases r1 with
  | cons r1 rr =>
    cases rr with
    | cons r2 rr =>
      cases rr; cases r1; cases r2
      exact ⟨i, j, rfl, ⟨hi.1, hi.2, hj.1, hj.2⟩, q _ B1 H1 c1 e1 walk_rng⟩
/-- zip -/
def zipD (ds es : List Dat) : List Dat := List.zipWith (fun x y => Dat.tup [x, y]) ds es
theorem zipD_len : (zipD ds es).length = min ds.length es.length := by unfold zipD; rw [List.length_zipWith]
theorem zipD_get {i : Nat} {d e : Dat} (h1 : ds[i]? = some d) (h2 : es[i]? = some e) : (zipD ds es)[i]? = some (.tup [d, e]) := by
  unfold zipD
  rw [List.getElem?_zipWith, h1, h2]
/-- a sequence that stays: known data, or a changed thing that no one changes now -/
def GS (x : Sl) (ds : List Dat) : List Addr → List Addr → List Dat → Prop := match x with
  | .d _ => fun _ _ _ => True
  | .c k => fun as as2 S2 => as2[k]? = as[k]? ∧ S2[k]? = some (.lst ds)
theorem seq_stays {v : V} (c : Ok K B H as S) (hx : Seq S x ds) (r : RepS K B as v x) : ∃ a k, v = .ref a ∧ (∃ vs, Sq K k H a vs) ∧ ∀ B2 H2 as2 S2, Ex B B2 → Ok K B2 H2 as2 S2 → GS x ds as as2 S2 → ∃ ws, Sq K k H2 a ws ∧ Reps K B2 ws ds := by
  rcases hx with rfl | rfl | ⟨k, rfl, hk⟩
  · cases r with
    | lst h r => exact ⟨_, true, rfl, ⟨_, Evl.sq_of (c.ex _ _ h)⟩, fun B2 H2 as2 S2 e c2 _ => ⟨_, Evl.sq_of (c2.ex _ _ (e _ _ h)), r.mono e⟩⟩
  · cases r with
    | tup h r => exact ⟨_, false, rfl, ⟨_, Evl.ex_t c.ex h⟩, fun B2 H2 as2 S2 e c2 _ => ⟨_, Evl.ex_t c2.ex (Evl.ex_t e h), r.mono e⟩⟩
  · obtain ⟨a, ha, rfl⟩ := r
    obtain ⟨_, q0⟩ := c.cells k a _ ha hk
    obtain ⟨vs, hv, _⟩ := q0.lst
    refine ⟨a, true, rfl, ⟨vs, Evl.sq_of hv⟩, fun B2 H2 as2 S2 e c2 g2 => ?_⟩
    obtain ⟨g1, g2⟩ := g2
    obtain ⟨_, q0⟩ := c2.cells k a _ (g1.trans ha) g2
    obtain ⟨ws, hw, rw'⟩ := q0.lst
    exact ⟨ws, Evl.sq_of hw, rw'⟩
theorem sq_inj {k : Bool} {a : Addr} {xs ys : List V} (c : Ok K B H as S) (h1 : Sq K k H a xs) (h2 : Sq K k H a ys) (hk : ∀ o : Obj, K.lookup a = some o → False ∨ True) : True := trivial
theorem it_zip (h : EvA K tA env S [x, y] S1) (hx : Seq S1 x ds) (hy : Seq S1 y es) : IterD K (iZipG K tA) env S (fun as as2 S2 => GS x ds as as2 S2 ∧ GS y es as as2 S2) (zipD ds es) S1 := fun B H as σ c g R q => h B H as σ c g _ fun vs B1 H1 c1 e1 r1 => by
  cases r1 with
  | cons r1 rr =>
    cases rr with
    | cons r2 rr =>
      cases rr
      obtain ⟨a1, k1, rfl, ⟨w1, q1⟩, st1⟩ := seq_stays c1 hx r1
      obtain ⟨a2, k2, rfl, ⟨w2, q2⟩, st2⟩ := seq_stays c1 hy r2
      refine ⟨a1, a2, k1, k2, w1, w2, rfl, q1, q2, q _ B1 H1 c1 e1 ⟨fun B2 H2 as2 S2 i e c2 g2 hi => ?_, fun B2 H2 as2 S2 i x H3 e c2 g2 hi y => ?_, fun B2 H2 as2 S2 e c2 g2 => ?_⟩⟩
      · obtain ⟨u1, p1, rp1⟩ := st1 B2 H2 as2 S2 e c2 g2.1
        obtain ⟨u2, p2, rp2⟩ := st2 B2 H2 as2 S2 e c2 g2.2
        rw [zipD_len] at hi
        obtain ⟨v1, hv1, _⟩ := rp1.get (List.getElem?_eq_getElem (show i < ds.length by omega))
        obtain ⟨v2, hv2, _⟩ := rp2.get (List.getElem?_eq_getElem (show i < es.length by omega))
        exact ⟨u1, u2, v1, v2, p1, p2, hv1, hv2⟩
      · obtain ⟨u1, p1, rp1⟩ := st1 B2 H2 as2 S2 e c2 g2.1
        obtain ⟨u2, p2, rp2⟩ := st2 B2 H2 as2 S2 e c2 g2.2
        obtain ⟨T, v1, v2, rfl, hT, rfl, y1, y2⟩ := y
        obtain ⟨d1, hd1, r1⟩ := rp1.get' (y1 u1 p1)
        obtain ⟨d2, hd2, r2⟩ := rp2.get' (y2 u2 p2)
        have hB : Ex B2 (upd B2 T (.tup [v1, v2])) := Evl.Ex.new (c2.Bnone hT)
        exact ⟨upd B2 T (.tup [v1, v2]), .tup [d1, d2], c2.new hT, Evo.new c2 hT, zipD_get hd1 hd2, .tup (Evl.st_of upd_same) (.cons (r1.mono hB) (.cons (r2.mono hB) .nil))⟩
      · obtain ⟨u1, p1, rp1⟩ := st1 B2 H2 as2 S2 e c2 g2.1
        obtain ⟨u2, p2, rp2⟩ := st2 B2 H2 as2 S2 e c2 g2.2
        refine ⟨u1, u2, p1, p2, ?_, ?_, ?_⟩ <;> rw [zipD_len] <;> have := rp1.length <;> have := rp2.length <;> omega

/-! ### targets -/
def TgD (K : PySem.W.Frag) (g : TG) (d : Dat) (is : List Nat) (f : Env1 → Env1) : Prop :=
  ∀ B H as S σ env v, Ok K B H as S → EnvR K B as σ env → Rep K B v d → ∀ Q : L2.St → Hp → Prop, (∀ σ', EnvR K B as σ' (f env) → (∀ vs : List Nat, (∀ i ∈ is, i ∈ vs) → L2.wipe σ' vs = L2.wipe σ vs) → Q σ' H) → g v σ H Q
theorem set_comm_none {σ : L2.St} {i j : Nat} {x : Option V} (h : i ≠ j) : (σ.set i x).set j none = (σ.set j none).set i x := (List.set_comm _ _ h)
theorem wipe_set {σ : L2.St} {i : Nat} {x : Option V} : ∀ {vs : List Nat}, i ∈ vs → L2.wipe (σ.set i x) vs = L2.wipe σ vs
  | [], h => by cases h
  | v :: vs, h => by
    unfold L2.wipe
    by_cases hi : i ∈ vs
    · rw [wipe_set hi]
    · have hv : i = v := by
        rcases List.mem_cons.mp h with h | h
        · exact h
        · exact absurd h hi
      subst hv
      have key : ∀ ws : List Nat, i ∉ ws → L2.wipe (σ.set i x) ws = (L2.wipe σ ws).set i x := by
        intro ws
        induction ws with
        | nil => intro _; rfl
        | cons w ws ih =>
          intro hn
          unfold L2.wipe
          rw [ih (fun z => hn (List.mem_cons_of_mem _ z))]
          exact List.set_comm _ _ (fun z => hn (by rw [z]; exact List.mem_cons_self))
      rw [key vs hi, List.set_set]
theorem tg_name {j : Nat} : TgD K (gName j) d [j] (fun env => env.set j (some (.d d))) := fun B H as S σ env v c g r Q q =>
  q _ (EnvR.set (s := .d d) j g r) fun vs h => wipe_set (h j (by simp))
theorem tg_pair {j k : Nat} : TgD K (gTup K 2 (gCons (gName j) (gCons (gName k) gNil))) (.tup [d, e]) [j, k] (fun env => (env.set j (some (.d d))).set k (some (.d e))) := fun B H as S σ env v c g r Q q => by
  cases r with
  | tup h r =>
    cases r with
    | cons r1 r =>
      cases r with
      | cons r2 r =>
        cases r
        refine ⟨_, _, rfl, Evl.ex_t c.ex h, rfl, _, _, rfl, _, _, rfl, rfl, q _ (EnvR.set (s := .d e) k (EnvR.set (s := .d d) j g r1) r2) fun vs hv => ?_⟩
        rw [wipe_set (hv k (by simp)), wipe_set (hv j (by simp))]
theorem tg_three {j k l : Nat} {f : Dat} : TgD K (gTup K 3 (gCons (gName j) (gCons (gName k) (gCons (gName l) gNil)))) (.tup [d, e, f]) [j, k, l] (fun env => ((env.set j (some (.d d))).set k (some (.d e))).set l (some (.d f))) := fun B H as S σ env v c g r Q q => by
  cases r with
  | tup h r =>
    cases r with
    | cons r1 r =>
      cases r with
      | cons r2 r =>
        cases r with
        | cons r3 r =>
          cases r
          refine ⟨_, _, rfl, Evl.ex_t c.ex h, rfl, _, _, rfl, _, _, rfl, _, _, rfl, rfl, q _ (EnvR.set (s := .d f) l (EnvR.set (s := .d e) k (EnvR.set (s := .d d) j g r1) r2) r3) fun vs hv => ?_⟩
          rw [wipe_set (hv l (by simp)), wipe_set (hv k (by simp)), wipe_set (hv j (by simp))]
/-- (a, b) = e -/
theorem sp_asg {g : TG} {is : List Nat} {f : Env1 → Env1} (h : Ev K te env S (.d d) S1) (hg : TgD K g d is f) (k : SP K n u (f env) S1 P) : SP K n (tSeq (tAsg te g) u) env S P := fun B0 H0 as0 Bk B H as σ hl f0 c g0 D m =>
  h B H as σ c g0 _ fun v B1 H1 c1 e1 r1 => hg B1 H1 as S1 σ env v c1 (g0.mono e1.ex) r1 _ fun σ' g' _ => k B0 H0 as0 Bk B1 H1 as σ' hl (f0.step e1) c1 g' D m

/-! ### for -/
/-- env may know less -/
theorem sp_for {wi : TI} {g : TG} {tb : TS} {G : List Addr → List Addr → List Dat → Prop} (hw : IterD K wi env S G ds S1) (Inv : Nat → Env1 → List Dat → Prop) (h0 : Inv 0 env S1)
    (hG : ∀ i env' S' as as2, Inv i env' S' → as.length = S1.length → as2.length = S'.length → as2.take n = as.take n → G as as2 S')
    (hs : ∀ i d env' S', ds[i]? = some d → Inv i env' S' → ∃ is f, TgD K g d is f ∧ SP K n tb (f env') S' { P with nx := Inv (i + 1), ct := Inv (i + 1), bk := P.nx })
    (hd : ∀ env' S', Inv ds.length env' S' → P.nx env' S') : SP K n (tFor wi g tb) env S P := fun B0 H0 as0 Bk B H as σ hl f0 c g0 D m =>
  hw B H as σ c g0 _ fun J B1 H1 c1 e1 w => by
    subst hl
    have f1 := f0.step e1
    refine ⟨fun i mm σ' H' => mm = ds.length - i ∧ i ≤ ds.length ∧ ∃ env' S' B' as', Fr B0 H0 as0 B1 B' H' as' ∧ Ok K B' H' as' S' ∧ EnvR K B' as' σ' env' ∧ Inv i env' S', ⟨_, rfl, Nat.zero_le _, env, S1, B1, as, ⟨Evl.Ex.refl _, f1.base, f1.evo, f1.loc⟩, c1, g0.mono e1.ex, h0⟩, ?_⟩
    rintro i mm σ' H' ⟨rfl, hi, env', S', B', as', f', c', g', hinv⟩
    have ex' := f'.kn
    have hg := hG i env' S' as as' hinv c1.len c'.len (by rw [f'.base, f1.base])
    by_cases hlt : i < ds.length
    · refine .inr ⟨w.go B' H' as' S' i ex' c' hg hlt, fun σ2 H2 => ∃ env2 S2 B2 as2, Fr B0 H0 as0 B1 B2 H2 as2 ∧ Ok K B2 H2 as2 S2 ∧ EnvR K B2 as2 σ2 env2 ∧ Inv (i + 1) env2 S2, fun σ2 H2 hN => ⟨ds.length - (i + 1), by omega, rfl, hlt, hN⟩, fun x H2 hy => ?_⟩
      obtain ⟨B2, d, c2, e2, hd2, r2⟩ := w.yld B' H' as' S' i x H2 ex' c' hg hlt hy
      obtain ⟨is, f, tg, hbody⟩ := hs i d env' S' hd2 hinv
      refine tg B2 H2 as' S' σ' env' x c2 (g'.mono e2.ex) r2 _ fun σ3 g3 _ => ?_
      have f2 := f'.step e2
      refine hbody B0 H0 as0 B1 B2 H2 as' σ3 rfl f2 c2 g3 _ ⟨?_, m.rt, ?_, ?_⟩
      · exact fun env4 S4 B4 H4 as4 σ4 f4 c4 g4 p4 => ⟨env4, S4, B4, as4, f4, c4, g4, p4⟩
      · exact fun env4 S4 B4 H4 as4 σ4 f4 c4 g4 p4 => m.nx env4 S4 B4 H4 as4 σ4 ⟨f1.kn.trans f4.kn, f4.base, f4.evo, f4.loc⟩ c4 g4 p4
      · exact fun env4 S4 B4 H4 as4 σ4 f4 c4 g4 p4 => ⟨env4, S4, B4, as4, f4, c4, g4, p4⟩
    · have e : i = ds.length := by omega
      subst e
      exact .inl ⟨w.stop B' H' as' S' ex' c' hg, m.nx env' S' B' H' as' σ' ⟨f1.kn.trans f'.kn, f'.base, f'.evo, f'.loc⟩ c' g' (hd env' S' hinv)⟩
end
end RW

set_option Elab.async false
set_option linter.all false
set_option maxRecDepth 100000
set_option maxHeartbeats 4000000
namespace RW
open PySem PySem.Spec PyProof.Rows L2
open Evl (Ex)
section
variable {K : PySem.W.Frag} {n : Nat} {te ta tb tc to ti : TE} {tt tu : TT} {tA tR : TA} {env env' : Env1} {S S1 S2 S3 : List Dat} {x y z : Sl} {d e : Dat} {ds es : List Dat} {r r' : R2} {P P' : Post} {t u : TS}
  {B B0 B1 B' H H0 H1 H' : Hp} {as as0 as1 : List Addr} {D : Ends} {σ : L2.St} {i : Nat} {a b c : Bool}
/-- a list that nothing knows, and what it holds -/
structure Acc (K : PySem.W.Frag) (p : Addr) (B H : Hp) (as : List Addr) (acc : List Dat) : Prop where
  nb : B p = none
  na : p ∉ as
  at_ : ∃ vs, H p = some (.lst vs) ∧ Reps K B vs acc
theorem Acc.step {p : Addr} {acc : List Dat} (h : Acc K p B H as acc) (e : Evo B H as B1 H1) : Acc K p B1 H1 as acc := by
  obtain ⟨vs, h1, h2⟩ := h.at_
  have h3 := e.fr p _ h.na h1
  refine ⟨?_, h.na, vs, h3, h2.mono e.ex⟩
  rcases e.gr p (by rw [h1]; simp) with z | ⟨xs, z⟩
  · exact z.trans h.nb
  · rw [h3] at z; cases z
/-- a list that nothing knows may change -/
theorem Ok.other {p : Addr} {o : HO} (c : Ok K B H as S) (hb : B p = none) (ha : p ∉ as) : Ok K B (upd H p o) as S where
  ex := fun a u q => by
    rw [upd_ne (by rintro rfl; rw [hb] at q; cases q)]
    exact c.ex a u q
  len := c.len
  cells := fun k a s h1 h2 => by
    obtain ⟨q1, q2⟩ := c.cells k a s h1 h2
    have ne : a ≠ p := by rintro rfl; exact ha (List.mem_of_getElem? h1)
    refine ⟨q1, ?_⟩
    obtain ⟨o, q3, q4⟩ := q2
    exact ⟨o, by rw [upd_ne ne]; exact q3, q4⟩
  nd := c.nd
theorem Evo.other {p : Addr} {o : HO} (e : Evo B H as B1 H1) (hp : H p = none) : Evo B H as B1 (upd H1 p o) :=
  ⟨e.ex, fun a u n q => by rw [upd_ne (by rintro rfl; rw [hp] at q; cases q)]; exact e.fr a u n q, fun a q => by rw [upd_ne (by rintro rfl; exact q hp)]; exact e.gr a q, fun a xs q => by rw [upd_ne (by rintro rfl; rw [hp] at q; cases q)]; exact e.tp a xs q, fun a q => by rw [upd_ne (by rintro rfl; exact q hp)]; exact e.pr a q⟩
theorem Acc.snoc {p : Addr} {acc : List Dat} {v : V} (h : Acc K p B H as acc) (r : Rep K B v d) : ∃ vs, H p = some (.lst vs) ∧ vs.length = acc.length ∧ Acc K p B (upd H p (.lst (vs ++ [v]))) as (acc ++ [d]) := by
  obtain ⟨vs, h1, h2⟩ := h.at_
  exact ⟨vs, h1, h2.length, h.nb, h.na, _, upd_same, h2.append (.cons r .nil)⟩
/-- [e for target in iter if test] -/
theorem en_lc {wi : TI} {g : TG} {vs : List Nat} {G : List Addr → List Addr → List Dat → Prop} (hw : IterD K wi env S G ds S1) (hz : ds.length ≤ sizeLine) (Inv : Nat → List Dat → List Dat → Prop) (h0 : Inv 0 [] S1)
    (hG : ∀ i acc S', Inv i acc S' → ∀ as : List Addr, as.length = S1.length → as.length = S'.length → G as as S')
    (hs : ∀ i d acc S', ds[i]? = some d → Inv i acc S' → ∃ is f b S2, TgD K g d is f ∧ (∀ i ∈ is, i ∈ vs) ∧ EvT K tt (f (wipeE env vs)) S' b S2 ∧
      (b = true → ∃ r S3, Ev K te (f (wipeE env vs)) S2 (.d r) S3 ∧ Inv (i + 1) (acc ++ [r]) S3) ∧ (b = false → Inv (i + 1) acc S2))
    {S' : List Dat} (hd : ∀ acc S2, Inv ds.length acc S2 → acc = es ∧ S2 = S') : EvN K (tLc wi g tt te vs) env S es S' := fun B H as σ c g0 Q q =>
  hw B H as σ c g0 _ fun J B1 H1 c1 e1 w Dl hDl => by
    have hD0 : H Dl = none := e1.old hDl
    have c1' : Ok K B1 (upd H1 Dl (.lst [])) as S1 := c1.other (c1.Bnone hDl) (c1.fresh hDl)
    have e1' : Evo B H as B1 (upd H1 Dl (.lst [])) := e1.other hD0
    refine ⟨fun i mm H' => mm = ds.length - i ∧ i ≤ ds.length ∧ ∃ S' B' acc, Ok K B' H' as S' ∧ Evo B H as B' H' ∧ Ex B1 B' ∧ Acc K Dl B' H' as acc ∧ acc.length ≤ i ∧ Inv i acc S', ⟨_, rfl, Nat.zero_le _, S1, B1, [], c1', e1', Evl.Ex.refl _, ⟨c1.Bnone hDl, c1.fresh hDl, [], upd_same, .nil⟩, Nat.zero_le _, h0⟩, ?_⟩
    rintro i mm H' ⟨rfl, hi, S', B', acc, c', e', ex', hacc, hal, hinv⟩
    have hg := hG i acc S' hinv as c1.len c'.len
    by_cases hlt : i < ds.length
    · refine .inr ⟨w.go B' H' as S' i ex' c' hg hlt, fun H2 => ∃ S2 B2 acc2, Ok K B2 H2 as S2 ∧ Evo B H as B2 H2 ∧ Ex B1 B2 ∧ Acc K Dl B2 H2 as acc2 ∧ acc2.length ≤ i + 1 ∧ Inv (i + 1) acc2 S2, fun H2 hN => ⟨ds.length - (i + 1), by omega, rfl, hlt, hN⟩, fun x H2 hy => ?_⟩
      obtain ⟨B2, d, c2, e2, hd2, r2⟩ := w.yld B' H' as S' i x H2 ex' c' hg hlt hy
      obtain ⟨is, f, b, S2, tg, his, htt, ht, hf⟩ := hs i d acc S' hd2 hinv
      have gw : EnvR K B2 as (L2.wipe σ vs) (wipeE env vs) := ((g0.mono e1.ex).wipe vs).mono (ex'.trans e2.ex)
      refine tg B2 H2 as S' _ _ x c2 gw r2 _ fun σ3 g3 hw3 => ⟨?_, ?_⟩
      · rw [hw3 vs his]
        have : ∀ ws : List Nat, (∀ j ∈ ws, j ∈ vs) → L2.wipe (L2.wipe σ vs) ws = L2.wipe σ vs := by
          intro ws
          induction ws with
          | nil => intro _; rfl
          | cons j ws ih =>
            intro h
            show (L2.wipe (L2.wipe σ vs) ws).set j none = L2.wipe σ vs
            have e0 : L2.wipe (L2.wipe σ vs) ws = L2.wipe σ vs := ih fun k hk => h k (List.mem_cons_of_mem _ hk)
            rw [e0]
            have hj := h j List.mem_cons_self
            have key : ∀ (us : List Nat), j ∈ us → (L2.wipe σ us).set j none = L2.wipe σ us := by
              intro us
              induction us with
              | nil => intro h; cases h
              | cons k us ih =>
                intro hk
                unfold L2.wipe
                by_cases hj : j = k
                · subst hj; rw [List.set_set]
                · rw [List.set_comm _ _ (fun z => hj z.symm)]
                  rw [ih ((List.mem_cons.mp hk).resolve_left hj)]
            exact key vs hj
        exact this vs fun _ h => h
      · refine htt B2 H2 as σ3 c2 g3 _ fun B3 H3 c3 e3 => ?_
        have ac3 := (hacc.step e2).step e3
        have e03 := (e'.trans e2).trans e3
        have ex3 := (ex'.trans e2.ex).trans e3.ex
        cases b with
        | false => exact ⟨S2, B3, acc, c3, e03, ex3, ac3, by omega, hf rfl⟩
        | true =>
          obtain ⟨r, S3, hev, hinv'⟩ := ht rfl
          show te σ3 H3 _
          refine hev B3 H3 as σ3 c3 (g3.mono e3.ex) _ fun v B4 H4 c4 e4 r4 => ?_
          have ac4 := ac3.step e4
          obtain ⟨ws, hw4, hl4, ac5⟩ := ac4.snoc r4
          refine ⟨ws, hw4, by rw [hl4]; omega, S3, B4, acc ++ [r], c4.other ac4.nb ac4.na, (e03.trans e4).other hD0, ex3.trans e4.ex, ac5, by rw [List.length_append]; simp; omega, hinv'⟩
    · have e : i = ds.length := by omega
      subst e
      obtain ⟨e1, e2⟩ := hd acc S' hinv
      subst e1 e2
      obtain ⟨ws, hw4, hr4⟩ := hacc.at_
      exact .inl ⟨w.stop B' H' as S' ex' c' hg, q Dl B' H' ws c' e' hD0 hacc.nb hw4 hr4⟩
/-- without a test, each element by itself -/
theorem en_map {wi : TI} {g : TG} {vs : List Nat} {G : List Addr → List Addr → List Dat → Prop} {is : List Nat} (hw : IterD K wi env S G ds S1) (hz : ds.length ≤ sizeLine)
    (hG : ∀ as : List Addr, as.length = S1.length → G as as S1) (his : ∀ i ∈ is, i ∈ vs) (f : Dat → Env1 → Env1) (F : Dat → Dat)
    (hs : ∀ (i : Nat) (d : Dat), ds[i]? = some d → TgD K g d is (f d) ∧ Ev K te (f d (wipeE env vs)) S1 (.d (F d)) S1) : EvN K (tLc wi g tYes te vs) env S (ds.map F) S1 := by
  refine en_lc (es := ds.map F) (S' := S1) hw hz (fun i acc S' => acc = (ds.take i).map F ∧ S' = S1) ⟨by simp, rfl⟩ (fun i acc S' h as l1 l2 => by rw [h.2]; exact hG as l1) (fun i d acc S' hd h => ?_) (fun acc S2 h => ?_)
  · obtain ⟨rfl, rfl⟩ := h
    obtain ⟨tg, hev⟩ := hs i d hd
    refine ⟨is, f d, true, S', tg, his, et_yes, fun _ => ⟨_, _, hev, ?_, rfl⟩, fun h => by cases h⟩
    have hl := (List.getElem?_eq_some_iff.mp hd).1
    have e : ds[i] = d := (List.getElem?_eq_some_iff.mp hd).2
    rw [List.take_succ_eq_append_getElem hl, e, List.map_append]
    rfl
  · obtain ⟨rfl, rfl⟩ := h
    exact ⟨by rw [List.take_length], rfl⟩
/-- with a test -/
theorem en_filter {wi : TI} {g : TG} {vs : List Nat} {G : List Addr → List Addr → List Dat → Prop} {is : List Nat} (hw : IterD K wi env S G ds S1) (hz : ds.length ≤ sizeLine)
    (hG : ∀ as : List Addr, as.length = S1.length → G as as S1) (his : ∀ i ∈ is, i ∈ vs) (f : Dat → Env1 → Env1) (F : Dat → Dat) (T : Dat → Bool)
    (hs : ∀ (i : Nat) (d : Dat), ds[i]? = some d → TgD K g d is (f d) ∧ EvT K tt (f d (wipeE env vs)) S1 (T d) S1 ∧ (T d = true → Ev K te (f d (wipeE env vs)) S1 (.d (F d)) S1)) : EvN K (tLc wi g tt te vs) env S ((ds.filter T).map F) S1 := by
  refine en_lc (es := (ds.filter T).map F) (S' := S1) hw hz (fun i acc S' => acc = ((ds.take i).filter T).map F ∧ S' = S1) ⟨by simp, rfl⟩ (fun i acc S' h as l1 l2 => by rw [h.2]; exact hG as l1) (fun i d acc S' hd h => ?_) (fun acc S2 h => ?_)
  · obtain ⟨rfl, rfl⟩ := h
    obtain ⟨tg, htt, hev⟩ := hs i d hd
    have hl := (List.getElem?_eq_some_iff.mp hd).1
    have e : ds[i] = d := (List.getElem?_eq_some_iff.mp hd).2
    refine ⟨is, f d, T d, S', tg, his, htt, fun h => ⟨_, _, hev h, ?_, rfl⟩, fun h => ⟨?_, rfl⟩⟩
    · rw [List.take_succ_eq_append_getElem hl, e, List.filter_append, List.map_append]
      simp [h]
    · rw [List.take_succ_eq_append_getElem hl, e, List.filter_append, List.map_append]
      simp [h]
  · obtain ⟨rfl, rfl⟩ := h
    exact ⟨by rw [List.take_length], rfl⟩
end
end RW

set_option Elab.async false
set_option linter.all false
set_option maxRecDepth 100000
set_option maxHeartbeats 4000000
namespace RW
open PySem PySem.Spec PyProof.Rows L2
open Evl (Ex)
section
variable {K : PySem.W.Frag} {n : Nat} {te ta tb tc to ti : TE} {tt tu : TT} {tA tR : TA} {env env' : Env1} {S S1 S2 S3 : List Dat} {x y z : Sl} {d e : Dat} {ds es : List Dat} {r r' : R2} {P P' : Post} {t u : TS}
  {B B0 B1 B' H H0 H1 H' : Hp} {as as0 as1 : List Addr} {D : Ends} {σ : L2.St} {i : Nat} {a b c : Bool}
theorem wipe_none {j : Nat} : ∀ {us : List Nat}, j ∈ us → (L2.wipe σ us).set j none = L2.wipe σ us
  | [], h => by cases h
  | k :: us, hk => by
    show ((L2.wipe σ us).set k none).set j none = (L2.wipe σ us).set k none
    by_cases hj : j = k
    · subst hj; rw [List.set_set]
    · rw [List.set_comm _ _ (fun z => hj z.symm), wipe_none ((List.mem_cons.mp hk).resolve_left hj)]
theorem wipe_wipe {vs : List Nat} : ∀ {ws : List Nat}, (∀ j ∈ ws, j ∈ vs) → L2.wipe (L2.wipe σ vs) ws = L2.wipe σ vs
  | [], _ => rfl
  | j :: ws, h => by
    show (L2.wipe (L2.wipe σ vs) ws).set j none = L2.wipe σ vs
    rw [wipe_wipe fun k hk => h k (List.mem_cons_of_mem _ hk), wipe_none (h j List.mem_cons_self)]
theorem flat_take {α β : Type} (f : α → List β) {l : List α} {i : Nat} {x : α} (h : l[i]? = some x) : (l.take (i + 1)).flatMap f = (l.take i).flatMap f ++ f x := by
  obtain ⟨hl, e⟩ := List.getElem?_eq_some_iff.mp h
  rw [List.take_succ_eq_append_getElem hl, e, List.flatMap_append]
  simp
theorem flat_le {α β : Type} (f : α → List β) {l : List α} {i : Nat} {x : α} (h : l[i]? = some x) : ((l.take i).flatMap f).length + (f x).length ≤ (l.flatMap f).length := by
  have h1 : (l.take (i + 1)).flatMap f ++ (l.drop (i + 1)).flatMap f = l.flatMap f := by
    rw [← List.flatMap_append, List.take_append_drop]
  rw [← h1, flat_take f h, List.length_append, List.length_append]
  omega
theorem map_take {α β : Type} (f : α → β) {l : List α} {i : Nat} {x : α} (h : l[i]? = some x) : (l.take (i + 1)).map f = (l.take i).map f ++ [f x] := by
  obtain ⟨hl, e⟩ := List.getElem?_eq_some_iff.mp h
  rw [List.take_succ_eq_append_getElem hl, e, List.map_append]
  rfl
/-- [e for x in xs for y in ..] -/
theorem en_flat {wi wi1 : TI} {g g1 : TG} {vs vs1 : List Nat} {G G1 : List Addr → List Addr → List Dat → Prop} {is is1 : List Nat} (hw : IterD K wi env S G ds S1) (inn : Dat → List Dat) (F : Dat → Dat → Dat)
    (hz : (ds.flatMap fun d => (inn d).map (F d)).length ≤ sizeLine) (hG : ∀ as : List Addr, as.length = S1.length → G as as S1) (hG1 : ∀ as : List Addr, as.length = S1.length → G1 as as S1)
    (his : ∀ i ∈ is, i ∈ vs) (his1 : ∀ i ∈ is1, i ∈ vs1) (hv1 : ∀ i ∈ vs1, i ∈ vs) (f : Dat → Env1 → Env1) (f1 : Dat → Dat → Env1 → Env1)
    (hs : ∀ (i : Nat) (d : Dat), ds[i]? = some d → TgD K g d is (f d) ∧ IterD K wi1 (f d (wipeE env vs)) S1 G1 (inn d) S1 ∧ ∀ (j : Nat) (e : Dat), (inn d)[j]? = some e →
      TgD K g1 e is1 (f1 d e) ∧ Ev K te (f1 d e (wipeE (f d (wipeE env vs)) vs1)) S1 (.d (F d e)) S1) :
    EvN K (tLc2 wi g tYes wi1 g1 tYes te vs vs1) env S (ds.flatMap fun d => (inn d).map (F d)) S1 := fun B H as σ c g0 Q q =>
  hw B H as σ c g0 _ fun J B1 H1 c1 e1 w Dl hDl => by
    have hD0 : H Dl = none := e1.old hDl
    have c1' : Ok K B1 (upd H1 Dl (.lst [])) as S1 := c1.other (c1.Bnone hDl) (c1.fresh hDl)
    have e1' : Evo B H as B1 (upd H1 Dl (.lst [])) := e1.other hD0
    have hg := hG as c1.len
    have hg1 := hG1 as c1.len
    refine ⟨fun i mm H' => mm = ds.length - i ∧ i ≤ ds.length ∧ ∃ B', Ok K B' H' as S1 ∧ Evo B H as B' H' ∧ Ex B1 B' ∧ Acc K Dl B' H' as ((ds.take i).flatMap fun d => (inn d).map (F d)), ⟨_, rfl, Nat.zero_le _, B1, c1', e1', Evl.Ex.refl _, ⟨c1.Bnone hDl, c1.fresh hDl, [], upd_same, .nil⟩⟩, ?_⟩
    rintro i mm H' ⟨rfl, hi, B', c', e', ex', hacc⟩
    by_cases hlt : i < ds.length
    · refine .inr ⟨w.go B' H' as S1 i ex' c' hg hlt, fun H2 => ∃ B2, Ok K B2 H2 as S1 ∧ Evo B H as B2 H2 ∧ Ex B1 B2 ∧ Acc K Dl B2 H2 as ((ds.take (i + 1)).flatMap fun d => (inn d).map (F d)), fun H2 hN => ⟨ds.length - (i + 1), by omega, rfl, hlt, hN⟩, fun x H2 hy => ?_⟩
      obtain ⟨B2, d, c2, e2, hd2, r2⟩ := w.yld B' H' as S1 i x H2 ex' c' hg hlt hy
      obtain ⟨tg, hw1, hin⟩ := hs i d hd2
      have gw : EnvR K B2 as (L2.wipe σ vs) (wipeE env vs) := ((g0.mono e1.ex).wipe vs).mono (ex'.trans e2.ex)
      refine tg B2 H2 as S1 _ _ x c2 gw r2 _ fun σ3 g3 hw3 => ⟨?_, ?_⟩
      · rw [hw3 vs his, wipe_wipe fun _ h => h]
      · show wi1 σ3 H2 _
        refine hw1 B2 H2 as σ3 c2 g3 _ fun J1 B3 H3 c3 e3 w1 => ?_
        have ac3 := (hacc.step e2).step e3
        have e03 := (e'.trans e2).trans e3
        have ex3 := (ex'.trans e2.ex).trans e3.ex
        refine ⟨fun j kk H5 => kk = (inn d).length - j ∧ j ≤ (inn d).length ∧ ∃ B5, Ok K B5 H5 as S1 ∧ Evo B H as B5 H5 ∧ Ex B3 B5 ∧ Acc K Dl B5 H5 as (((ds.take i).flatMap fun d => (inn d).map (F d)) ++ ((inn d).take j).map (F d)),
          ⟨_, rfl, Nat.zero_le _, B3, c3, e03, Evl.Ex.refl _, by simpa using ac3⟩, ?_⟩
        rintro j kk H5 ⟨rfl, hj, B5, c5, e5, ex5, ac5⟩
        by_cases hlj : j < (inn d).length
        · refine .inr ⟨w1.go B5 H5 as S1 j ex5 c5 hg1 hlj, fun H6 => ∃ B6, Ok K B6 H6 as S1 ∧ Evo B H as B6 H6 ∧ Ex B3 B6 ∧ Acc K Dl B6 H6 as (((ds.take i).flatMap fun d => (inn d).map (F d)) ++ ((inn d).take (j + 1)).map (F d)), fun H6 hN => ⟨(inn d).length - (j + 1), by omega, rfl, hlj, hN⟩, fun x6 H6 hy6 => ?_⟩
          obtain ⟨B6, e6, c6, ev6, he6, r6⟩ := w1.yld B5 H5 as S1 j x6 H6 ex5 c5 hg1 hlj hy6
          obtain ⟨tg1, hev⟩ := hin j e6 he6
          have gw1 : EnvR K B6 as (L2.wipe σ3 vs1) (wipeE (f d (wipeE env vs)) vs1) := (((g3.mono e3.ex).mono ex5).wipe vs1).mono ev6.ex
          refine tg1 B6 H6 as S1 _ _ x6 c6 gw1 r6 _ fun σ7 g7 hw7 => ⟨?_, ?_⟩
          · rw [hw7 vs1 his1, wipe_wipe fun _ h => h]
          · show te σ7 H6 _
            refine hev B6 H6 as σ7 c6 g7 _ fun v B7 H7 c7 e7 r7 => ?_
            have ac7 := (ac5.step ev6).step e7
            obtain ⟨ws, hw8, hl8, ac8⟩ := ac7.snoc r7
            refine ⟨ws, hw8, ?_, B7, c7.other ac7.nb ac7.na, ((e5.trans ev6).trans e7).other hD0, (ex5.trans ev6.ex).trans e7.ex, ?_⟩
            · have hb := flat_le (fun d => (inn d).map (F d)) hd2
              rw [hl8, List.length_append, List.length_map, List.length_take]
              rw [List.length_map] at hb
              omega
            · rw [map_take (F d) he6, ← List.append_assoc]
              exact ac8
        · have ej : j = (inn d).length := by omega
          subst ej
          refine .inl ⟨w1.stop B5 H5 as S1 ex5 c5 hg1, B5, c5, e5, ex3.trans ex5, ?_⟩
          rw [flat_take (fun d => (inn d).map (F d)) hd2]
          rw [List.take_length] at ac5
          exact ac5
    · have e : i = ds.length := by omega
      subst e
      rw [List.take_length] at hacc
      obtain ⟨ws, hw4, hr4⟩ := hacc.at_
      exact .inl ⟨w.stop B' H' as S1 ex' c' hg, q Dl B' H' ws c' e' hD0 hacc.nb hw4 hr4⟩
end
end RW

set_option Elab.async false
set_option linter.all false
set_option maxRecDepth 100000
set_option maxHeartbeats 4000000
namespace RW
open PySem PySem.Spec PyProof.Rows L2
open Evl (Ex)
section
variable {K : PySem.W.Frag} {n : Nat} {te ta tb tc to ti tv : TE} {tt tu : TT} {tA tR : TA} {env env' : Env1} {S S1 S2 S3 : List Dat} {x y z : Sl} {d e : Dat} {ds es : List Dat} {r r' : R2} {P P' : Post} {t u : TS}
  {B B0 B1 B' H H0 H1 H' : Hp} {as as0 as1 : List Addr} {D : Ends} {σ : L2.St} {i k : Nat} {a b c : Bool}
/-! ### what is changed -/
theorem Ok.setc {p : Addr} {o : HO} {s : Dat} (c : Ok K B H as S) (hk : as[k]? = some p) (r : CellO K B o s) : Ok K B (upd H p o) as (S.set k s) where
  ex := fun a u q => by
    have hl : k < S.length := by rw [← c.len]; exact (List.getElem?_eq_some_iff.mp hk).1
    obtain ⟨hb, _⟩ := c.cells k p S[k] hk (List.getElem?_eq_getElem hl)
    rw [upd_ne (by rintro rfl; rw [hb] at q; cases q)]
    exact c.ex a u q
  len := by rw [List.length_set]; exact c.len
  cells := fun j a s' h1 h2 => by
    by_cases hj : k = j
    · subst hj
      have hl : k < S.length := by rw [← c.len]; exact (List.getElem?_eq_some_iff.mp hk).1
      rw [List.getElem?_set_self hl] at h2
      cases h2
      rw [hk] at h1
      cases h1
      exact ⟨(c.cells k p S[k] hk (List.getElem?_eq_getElem hl)).1, o, upd_same, r⟩
    · rw [List.getElem?_set_ne hj] at h2
      obtain ⟨q1, o', q3, q4⟩ := c.cells j a s' h1 h2
      have ne : a ≠ p := by
        rintro rfl
        have hkl := (List.getElem?_eq_some_iff.mp hk).1
        exact hj ((List.getElem_inj (h₀ := hkl) (h₁ := (List.getElem?_eq_some_iff.mp h1).1) c.nd).mp (by rw [(List.getElem?_eq_some_iff.mp hk).2, (List.getElem?_eq_some_iff.mp h1).2]))
      exact ⟨q1, o', by rw [upd_ne ne]; exact q3, q4⟩
  nd := c.nd
theorem Evo.setc {p : Addr} {o o1 : HO} (hk : p ∈ as) (h1 : H p = some o1) (ht : ∀ xs, o1 ≠ .tup xs) : Evo B H as B (upd H p o) :=
  ⟨Evl.Ex.refl B, fun a u n q => by rw [upd_ne (by rintro rfl; exact n hk)]; exact q, fun _ _ => .inl rfl, fun a xs q => by rw [upd_ne (by rintro rfl; rw [h1] at q; cases q; exact ht xs rfl)]; exact q, fun a q => by
    by_cases h : a = p
    · subst h; rw [upd_same]; simp
    · rw [upd_ne h]; exact q⟩
/-- xs.append(e) -/
theorem ev_append (ho : Ev K to env S (.c k) S1) (h : Ev K te env S1 (.d d) S2) (h1 : ∃ es, S1[k]? = some (.lst es)) (hs : S2[k]? = some (.lst ds)) (hl : ds.length < sizeLine) : Ev K (tBM K "list" rAppend to (tCons te tNil)) env S (.d .non) (S2.set k (.lst (ds ++ [d]))) := fun B H as σ c g Q q =>
  ho B H as σ c g _ fun v B1 H1 c1 e1 r1 => by
    obtain ⟨p, hp, rfl⟩ := r1
    obtain ⟨es, hes⟩ := h1
    obtain ⟨ws, hw, rw'⟩ := (c1.cells k p _ hp hes).2.lst
    refine ⟨.inl ⟨rfl, ws, Evl.sq_of hw⟩, h B1 H1 as σ c1 (g.mono e1.ex) _ fun v B2 H2 c2 e2 r2 => ?_⟩
    obtain ⟨vs, hv, rv⟩ := (c2.cells k p _ hp hs).2.lst
    refine ⟨p, vs, v, rfl, rfl, hv, by rw [rv.length]; exact hl, q .non B2 _ (c2.setc hp (show CellO K B2 (.lst _) (.lst _) from rv.append (.cons r2 .nil))) ((e1.trans e2).trans (Evo.setc (List.mem_of_getElem? hp) hv (fun _ z => nomatch z))) .non⟩
/-- xs.extend(ys) -/
theorem ev_extend (ho : Ev K to env S (.c k) S1) (h : Ev K te env S1 (.d (.lst es)) S2) (h1 : ∃ es, S1[k]? = some (.lst es)) (hs : S2[k]? = some (.lst ds)) (hl : ds.length + es.length ≤ sizeLine) : Ev K (tBM K "list" rExtend to (tCons te tNil)) env S (.d .non) (S2.set k (.lst (ds ++ es))) := fun B H as σ c g Q q =>
  ho B H as σ c g _ fun v B1 H1 c1 e1 r1 => by
    obtain ⟨p, hp, rfl⟩ := r1
    obtain ⟨es', hes⟩ := h1
    obtain ⟨ws, hw, rw'⟩ := (c1.cells k p _ hp hes).2.lst
    refine ⟨.inl ⟨rfl, ws, Evl.sq_of hw⟩, h B1 H1 as σ c1 (g.mono e1.ex) _ fun v B2 H2 c2 e2 r2 => ?_⟩
    obtain ⟨vs, hv, rv⟩ := (c2.cells k p _ hp hs).2.lst
    cases r2 with
    | lst h3 r3 =>
      refine ⟨p, _, vs, _, rfl, rfl, hv, c2.ex _ _ h3, by rw [rv.length, r3.length]; exact hl, q .non B2 _ (c2.setc hp (show CellO K B2 (.lst _) (.lst _) from rv.append r3)) ((e1.trans e2).trans (Evo.setc (List.mem_of_getElem? hp) hv (fun _ z => nomatch z))) .non⟩
/-- xs[i] = e -/
theorem sp_setitem {j : Nat} {iv : Int} (h : Ev K te env S (.d d) S1) (ho : Ev K to env S1 (.c k) S2) (hi : Ev K ti env S2 (.d (.int iv)) S3) (hs : S3[k]? = some (.lst ds)) (hj : ixN ds.length iv = some j) (q : SP K n u env (S3.set k (.lst (ds.set j d))) P) :
    SP K n (tSeq (tAsg te (gSub to ti rSetL)) u) env S P := fun B0 H0 as0 Bk B H as σ hl f c g D m =>
  h B H as σ c g _ fun v B1 H1 c1 e1 r1 => ho B1 H1 as σ c1 (g.mono e1.ex) _ fun w B2 H2 c2 e2 r2 => hi B2 H2 as σ c2 (g.mono (e1.trans e2).ex) _ fun w3 B3 H3 c3 e3 r3 => by
    obtain ⟨p, hp, rfl⟩ := r2
    cases r3
    obtain ⟨vs, hv, rv⟩ := (c3.cells k p _ hp hs).2.lst
    have e03 := ((e1.trans e2).trans e3).trans (Evo.setc (o := .lst (vs.set j v)) (List.mem_of_getElem? hp) hv (fun _ z => nomatch z))
    exact ⟨p, vs, iv, j, rfl, rfl, hv, by rw [rv.length]; exact hj, q B0 H0 as0 Bk B3 _ as σ hl (f.step e03) (c3.setc hp (show CellO K B3 (.lst _) (.lst _) from Reps.set j (Rep.mono (e2.trans e3).ex r1) rv)) (g.mono e03.ex) D m⟩
/-- x op= e -/
theorem sp_aug {fn : Int → Int → Int} {p q : Int} (hx : env[i]? = some (some (.d (.int p)))) (h : Ev K te env S (.d (.int q)) S1) (k : SP K n u (env.set i (some (.d (.int (fn p q))))) S1 P) : SP K n (tSeq (tAug i te (ipI fn)) u) env S P := fun B0 H0 as0 Bk B H as σ hl f c g D m => by
  obtain ⟨v, h1, h2⟩ := g.2 i _ hx
  cases h2
  exact ⟨_, h1, h B H as σ c g _ fun w B1 H1 c1 e1 r1 => by
    cases r1
    exact ⟨p, q, rfl, rfl, k B0 H0 as0 Bk B1 H1 as _ hl (f.step e1) c1 (EnvR.set (s := .d (.int (fn p q))) i (g.mono e1.ex) (.int _)) D m⟩⟩
theorem sp_aug1 {fn : Int → Int → Int} {p q : Int} (hx : env[i]? = some (some (.d (.int p)))) (h : Ev K te env S (.d (.int q)) S1) (k : P.nx (env.set i (some (.d (.int (fn p q))))) S1) : SP K n (tAug i te (ipI fn)) env S P := fun B0 H0 as0 Bk B H as σ hl f c g D m => by
  obtain ⟨v, h1, h2⟩ := g.2 i _ hx
  cases h2
  exact ⟨_, h1, h B H as σ c g _ fun w B1 H1 c1 e1 r1 => by
    cases r1
    exact ⟨p, q, rfl, rfl, m.nx _ S1 B1 H1 as _ (f.step e1) c1 (EnvR.set (s := .d (.int (fn p q))) i (g.mono e1.ex) (.int _)) k⟩⟩
/-- a, b = e1, e2 -/
theorem sp_par {i j : Nat} (h : EvA K tA env S [x, y] S1) (k : SP K n u ((env.set i (some x)).set j (some y)) S1 P) : SP K n (tSeq (tPar i j tA) u) env S P := fun B0 H0 as0 Bk B H as σ hl f c g D m =>
  h B H as σ c g _ fun vs B1 H1 c1 e1 r1 => by
    cases r1 with
    | cons r1 rr =>
      cases rr with
      | cons r2 rr =>
        cases rr
        exact ⟨_, _, rfl, k B0 H0 as0 Bk B1 H1 as _ hl (f.step e1) c1 (((g.mono e1.ex).set i r1).set j r2) D m⟩
/-! ### instances -/
def putFD (f : Str) (v : Dat) : List (Str × Dat) → List (Str × Dat)
  | [] => [(f, v)]
  | (g, x) :: r => if g = f then (g, v) :: r else (g, x) :: putFD f v r
theorem RepF.put {f : Str} {v : V} : ∀ {vs : List (Str × V)} {fs : List (Str × Dat)}, Rep K B v d → RepF K B vs fs → RepF K B (putF f v vs) (putFD f d fs)
  | _, _, h, .nil => .cons h .nil
  | _, _, h, .cons (f := g) h1 r => by
    unfold putF putFD
    split
    · exact .cons h r
    · exact .cons h1 (RepF.put h r)
theorem RepF.length : ∀ {vs : List (Str × V)} {fs : List (Str × Dat)}, RepF K B vs fs → vs.length = fs.length
  | _, _, .nil => rfl
  | _, _, .cons _ r => by rw [List.length_cons, List.length_cons, RepF.length r]
theorem ev_fld {C : Addr} {fs : List (Str × Dat)} {f : Str} (h : Ev K ta env S (.d (.ins C fs)) S1) (cl : Cls K C) (na : NoAttr K C f) (hf : fs.lookup f = some d) : Ev K (tFld K ta f) env S (.d d) S1 := fun B H as σ c g Q q =>
  h B H as σ c g _ fun v B1 H1 c1 e1 r1 => by
    cases r1 with
    | ins h1 r1 =>
      obtain ⟨v, hv, rv⟩ := r1.get hf
      exact ⟨_, C, _, _, v, rfl, c1.ex _ _ h1, cl, na, hv, q v B1 H1 c1 e1 rv⟩
theorem ev_fldC {C : Addr} {fs : List (Str × Dat)} {f : Str} (h : Ev K ta env S (.c k) S1) (hs : S1[k]? = some (.ins C fs)) (cl : Cls K C) (na : NoAttr K C f) (hf : fs.lookup f = some d) : Ev K (tFld K ta f) env S (.d d) S1 := fun B H as σ c g Q q =>
  h B H as σ c g _ fun v B1 H1 c1 e1 r1 => by
    obtain ⟨p, hp, rfl⟩ := r1
    obtain ⟨dx, vs, hv, rv⟩ := (c1.cells k p _ hp hs).2.ins
    obtain ⟨v, hv', rv'⟩ := rv.get hf
    exact ⟨p, C, dx, vs, v, rfl, hv, cl, na, hv', q v B1 H1 c1 e1 rv'⟩
/-- self.f = e -/
theorem sp_fld {C : Addr} {fs : List (Str × Dat)} {f : Str} (h : Ev K tv env S (.d d) S1) (ho : Ev K ta env S1 (.c k) S2) (hs : S2[k]? = some (.ins C fs)) (cl : Cls K C) (na : NoAttr K C f) (hl : fs.length < 1000) (q : SP K n u env (S2.set k (.ins C (putFD f d fs))) P) :
    SP K n (tSeq (sFld K ta tv f) u) env S P := fun B0 H0 as0 Bk B H as σ hl0 f0 c g D m =>
  h B H as σ c g _ fun v B1 H1 c1 e1 r1 => ho B1 H1 as σ c1 (g.mono e1.ex) _ fun w B2 H2 c2 e2 r2 => by
    obtain ⟨p, hp, rfl⟩ := r2
    obtain ⟨dx, vs, hv, rv⟩ := (c2.cells k p _ hp hs).2.ins
    have e03 := (e1.trans e2).trans (Evo.setc (o := .ins C dx (putF f v vs)) (List.mem_of_getElem? hp) hv (fun _ z => nomatch z))
    exact ⟨p, C, dx, vs, rfl, hv, cl, na, by rw [rv.length]; exact hl, q B0 H0 as0 Bk B2 _ as σ hl0 (f0.step e03) (c2.setc hp (show CellO K B2 (.ins C dx _) (.ins C _) from ⟨rfl, RepF.put (Rep.mono e2.ex r1) rv⟩)) (g.mono e03.ex) D m⟩
theorem sp_fld1 {C : Addr} {fs : List (Str × Dat)} {f : Str} (h : Ev K tv env S (.d d) S1) (ho : Ev K ta env S1 (.c k) S2) (hs : S2[k]? = some (.ins C fs)) (cl : Cls K C) (na : NoAttr K C f) (hl : fs.length < 1000) (q : P.nx env (S2.set k (.ins C (putFD f d fs)))) :
    SP K n (sFld K ta tv f) env S P := fun B0 H0 as0 Bk B H as σ hl0 f0 c g D m =>
  h B H as σ c g _ fun v B1 H1 c1 e1 r1 => ho B1 H1 as σ c1 (g.mono e1.ex) _ fun w B2 H2 c2 e2 r2 => by
    obtain ⟨p, hp, rfl⟩ := r2
    obtain ⟨dx, vs, hv, rv⟩ := (c2.cells k p _ hp hs).2.ins
    have e03 := (e1.trans e2).trans (Evo.setc (o := .ins C dx (putF f v vs)) (List.mem_of_getElem? hp) hv (fun _ z => nomatch z))
    exact ⟨p, C, dx, vs, rfl, hv, cl, na, by rw [rv.length]; exact hl, m.nx _ _ B2 _ as _ (f0.step e03) (c2.setc hp (show CellO K B2 (.ins C dx _) (.ins C _) from ⟨rfl, RepF.put (Rep.mono e2.ex r1) rv⟩)) (g.mono e03.ex) q⟩
/-- C(e, ..): a new instance, filled by its __init__ -/
theorem ev_make {C : Addr} {G : List Sl → List Dat → Dat → List Dat → Prop} {ss : List Sl} {E : XK} {fs : List (Str × Dat)} (h : EvA K tA env S ss S1) (hg : G (.c S1.length :: ss) (S1 ++ [.ins C []]) .non (S2 ++ [.ins C fs])) (hl : S2.length = S1.length) :
    Ev K (tMake C (SpD K G) [] E tA) env S (.d (.ins C fs)) S2 := fun B H as σ c g Q q =>
  h B H as σ c g _ fun vs B1 H1 c1 e1 r1 x dx hx hdx hne => by
    have hB := c1.Bnone hx
    have hxa := c1.fresh hx
    have hdB := c1.Bnone hdx
    have hda := c1.fresh hdx
    have c2 : Ok K B1 (upd (upd H1 dx (.own x)) x (.ins C dx [])) as S1 := (c1.other hdB hda).other hB hxa
    have e2 : Evo B1 H1 as B1 (upd (upd H1 dx (.own x)) x (.ins C dx [])) := (Evo.refl.other hdx).other hx
    have c3 : Ok K B1 (upd (upd H1 dx (.own x)) x (.ins C dx [])) (as ++ [x]) (S1 ++ [.ins C []]) := c2.push hB hxa (CellAt.ofI upd_same .nil)
    have r3 : RepSs K B1 (as ++ [x]) (.ref x :: (vs ++ [])) (.c S1.length :: ss) := by
      refine .cons ⟨x, by rw [← c1.len]; simp, rfl⟩ ?_
      rw [List.append_nil]
      have grow : ∀ {vs : List V} {ss : List Sl}, RepSs K B1 as vs ss → RepSs K B1 (as ++ [x]) vs ss := by
        intro vs ss h
        induction h with
        | nil => exact .nil
        | cons h _ ih => exact .cons h.grow ih
      exact grow r1
    refine ⟨B1, as ++ [x], _, _, _, _, c3, r3, hg, fun v B4 H4 c4 e4 r4 => ⟨by cases r4; rfl, ?_⟩⟩
    have hk : (as ++ [x])[as.length]? = some x := by simp
    have hs : (S2 ++ [Dat.ins C fs])[as.length]? = some (.ins C fs) := by
      rw [c1.len, ← hl]; simp
    obtain ⟨hb4, hc4⟩ := c4.cells as.length x _ hk hs
    obtain ⟨dx', ws, hw, rw'⟩ := hc4.ins
    have c5 : Ok K B4 H4 as S2 := by
      have := c4.upto as.length
      rw [List.take_left, show as.length = S2.length by rw [c1.len, hl], List.take_left] at this
      exact this
    have nd := c4.nd
    have hx4 : x ∉ as := fun hm => (List.nodup_append.mp nd).2.2 x hm x (by simp) rfl
    have x0 : H x = none := e1.old hx
    have e5 : Evo B H as B4 H4 := by
      have e12 := e1.trans e2
      refine ⟨e12.ex.trans e4.ex, fun a o hn q => e4.fr a o (fun hm => (List.mem_append.mp hm).elim hn fun z => ?_) (e12.fr a o hn q), fun a q => (e4.gr a (e12.pr a q)).elim (fun z => (e12.gr a q).elim (fun z2 => .inl (z.trans z2)) fun ⟨xs, h⟩ => .inr ⟨xs, e4.tp a xs h⟩) .inr, fun a xs h => e4.tp a xs (e12.tp a xs h), fun a q => e4.pr a (e12.pr a q)⟩
      rw [List.mem_singleton.mp z, x0] at q
      cases q
    refine q (.ref x) (upd B4 x (.ins C dx' ws)) H4 (c5.know hw hb4 hx4) ⟨e5.ex.trans (Evl.Ex.new hb4), e5.fr, fun a q => by rw [upd_ne (by rintro rfl; exact q x0)]; exact e5.gr a q, e5.tp, e5.pr⟩ (.ins upd_same (RepF.mono (Evl.Ex.new hb4) rw'))
end
end RW

set_option Elab.async false
set_option linter.all false
set_option maxRecDepth 100000
set_option maxHeartbeats 4000000
namespace RW
open PySem PySem.Spec PyProof.Rows L2
open Evl (Ex)
section
variable {K : PySem.W.Frag} {n : Nat} {te ta tb tc to ti tv : TE} {tt tu : TT} {tA tR : TA} {env env' : Env1} {S S1 S2 S3 : List Dat} {x y z : Sl} {d e : Dat} {ds es : List Dat} {r r' : R2} {P P' : Post} {t u : TS}
  {B B0 B1 B' H H0 H1 H' : Hp} {as as0 as1 : List Addr} {D : Ends} {σ : L2.St} {i k : Nat} {a b c : Bool}
/-! ### enumerate, reversed(range) -/
def enumD (ds : List Dat) : List Dat := ds.mapIdx fun i d => Dat.tup [.int (i : Nat), d]
theorem enumD_len : (enumD ds).length = ds.length := by unfold enumD; rw [List.length_mapIdx]
theorem enumD_get {i : Nat} {d : Dat} (h : ds[i]? = some d) : (enumD ds)[i]? = some (.tup [.int (i : Nat), d]) := by
  unfold enumD
  rw [List.getElem?_mapIdx, h]
  rfl
theorem it_enum (h : EvA K tA env S [x] S1) (hx : Seq S1 x ds) : IterD K (iEnumG K tA) env S (fun as as2 S2 => GS x ds as as2 S2) (enumD ds) S1 := fun B H as σ c g R q => h B H as σ c g _ fun vs B1 H1 c1 e1 r1 => by
  cases r1 with
  | cons r1 rr =>
    cases rr
    obtain ⟨a1, k1, rfl, ⟨w1, q1⟩, st1⟩ := seq_stays c1 hx r1
    refine ⟨a1, k1, w1, rfl, q1, q _ B1 H1 c1 e1 ⟨fun B2 H2 as2 S2 i e c2 g2 hi => ?_, fun B2 H2 as2 S2 i x H3 e c2 g2 hi y => ?_, fun B2 H2 as2 S2 e c2 g2 => ?_⟩⟩
    · obtain ⟨u1, p1, rp1⟩ := st1 B2 H2 as2 S2 e c2 g2
      rw [enumD_len] at hi
      obtain ⟨v1, hv1, _⟩ := rp1.get (List.getElem?_eq_getElem hi)
      exact ⟨u1, v1, p1, hv1⟩
    · obtain ⟨u1, p1, rp1⟩ := st1 B2 H2 as2 S2 e c2 g2
      obtain ⟨T, v1, rfl, hT, rfl, y1⟩ := y
      obtain ⟨d1, hd1, r1⟩ := rp1.get' (y1 u1 p1)
      have hB : Ex B2 (upd B2 T (.tup [.int (i : Nat), v1])) := Evl.Ex.new (c2.Bnone hT)
      exact ⟨upd B2 T (.tup [.int (i : Nat), v1]), .tup [.int (i : Nat), d1], c2.new hT, Evo.new c2 hT, enumD_get hd1, .tup (Evl.st_of upd_same) (.cons (.int _) (.cons (r1.mono hB) .nil))⟩
    · obtain ⟨u1, p1, rp1⟩ := st1 B2 H2 as2 S2 e c2 g2
      exact ⟨u1, p1, by rw [enumD_len, rp1.length]⟩
/-- hi - 1, .., lo -/
def rngR (lo : Int) (n : Nat) : List Dat := (List.range n).map fun i => Dat.int (lo + (n : Int) - 1 + (i : Nat) * (-1))
theorem rngR_len {lo : Int} {n : Nat} : (rngR lo n).length = n := by unfold rngR; rw [List.length_map, List.length_range]
theorem rngR_get {lo : Int} {n i : Nat} (h : i < n) : (rngR lo n)[i]? = some (.int (lo + (n : Int) - 1 + (i : Nat) * (-1))) := by
  unfold rngR
  rw [List.getElem?_map, List.getElem?_range h]
  rfl
theorem walk_rngR {lo : Int} {n : Nat} {G : List Addr → List Dat → Prop} : WalkD K B (Itc (lo + (n : Int) - 1) (-1) n) G (rngR lo n) where
  go := fun B2 H2 as2 S2 i _ _ _ hi => by rw [rngR_len] at hi; exact hi
  yld := fun B2 H2 as2 S2 i x H3 _ c _ hi y => by
    rw [rngR_len] at hi
    obtain ⟨rfl, rfl⟩ := y
    exact ⟨B2, _, c, Evo.refl, rngR_get hi, .int _⟩
  stop := fun B2 H2 as2 S2 _ _ _ => by rw [rngR_len]; exact Nat.le_refl _
theorem it_rev1 {j : Int} (h : Ev K ta env S (.d (.int j)) S1) (hj : -(2 ^ 62) ≤ j ∧ j < 2 ^ 62) : IterD K (iRevR (tRg1 ta)) env S G0 (rngR 0 j.toNat) S1 := fun B H as σ c g R q => h B H as σ c g _ fun v B1 H1 c1 e1 r1 => by
  cases r1
  refine ⟨j, rfl, by decide, by decide, hj.1, hj.2, ?_⟩
  have e0 : (j - 0).toNat = j.toNat := by rw [Int.sub_zero]
  rw [e0]
  exact q _ B1 H1 c1 e1 walk_rngR
/-! ### == of data -/
mutual
def py : Dat → PyData
  | .non => .none
  | .bl b => .bool b
  | .int i => .int i
  | .str s => .str s
  | .tup xs => .tuple (pyAll xs)
  | .lst xs => .list (pyAll xs)
  | .ty _ => .none
  | .scr _ => .none
  | .ins _ _ => .none
  | .adr _ => .none
  | .dic _ => .none
def pyAll : List Dat → List PyData
  | [] => []
  | x :: xs => py x :: pyAll xs
end
inductive Pl : Nat → Dat → Prop
  | non {m : Nat} : Pl m .non
  | bl {m : Nat} (b : Bool) : Pl m (.bl b)
  | int {m : Nat} (i : Int) : Pl m (.int i)
  | str {m : Nat} {s : Str} (h : (PyData.str s).canLay0 = true) : Pl m (.str s)
  | tup {m : Nat} {ds : List Dat} (h : ∀ d ∈ ds, Pl m d) : Pl (m + 1) (.tup ds)
  | lst {m : Nat} {ds : List Dat} (h : ∀ d ∈ ds, Pl m d) : Pl (m + 1) (.lst ds)
theorem pyAll_lay {m : Nat} : ∀ {ds : List Dat}, (∀ d ∈ ds, (py d).canLay0 = true ∧ (py d).depth ≤ m) → PyData.canLayAll0 (pyAll ds) = true ∧ PyData.depthAll (pyAll ds) ≤ m
  | [], _ => ⟨rfl, Nat.zero_le _⟩
  | d :: ds, h => by
    obtain ⟨h1, h2⟩ := pyAll_lay (ds := ds) fun d hd => h d (List.mem_cons_of_mem _ hd)
    obtain ⟨h3, h4⟩ := h d List.mem_cons_self
    refine ⟨?_, ?_⟩
    · show (PyData.canLay0 (py d) && PyData.canLayAll0 (pyAll ds)) = true
      rw [h1, h3]; rfl
    · show max (PyData.depth (py d)) (PyData.depthAll (pyAll ds)) ≤ m
      omega
theorem Pl.lay {m : Nat} (h : Pl m d) : (py d).canLay0 = true ∧ (py d).depth ≤ m := by
  induction h with
  | non => exact ⟨rfl, Nat.zero_le _⟩
  | bl b => exact ⟨rfl, Nat.zero_le _⟩
  | int i => exact ⟨rfl, Nat.zero_le _⟩
  | str h => exact ⟨h, Nat.zero_le _⟩
  | tup h ih =>
    obtain ⟨h1, h2⟩ := pyAll_lay ih
    exact ⟨h1, Nat.succ_le_succ h2⟩
  | lst h ih =>
    obtain ⟨h1, h2⟩ := pyAll_lay ih
    exact ⟨h1, Nat.succ_le_succ h2⟩
theorem Pl.shaped {m : Nat} (h : Pl m d) (hm : m ≤ 64) : SeqAt.shaped (py d) = true := by
  unfold SeqAt.shaped
  rw [h.lay.1, decide_eq_true (Nat.le_trans h.lay.2 hm)]
  rfl
theorem dpAll_of {m : Nat} : ∀ {vs : List V} {ds : List Dat}, (∀ d ∈ ds, ∀ v, Rep K H v d → Dp K H v (py d)) → Reps K H vs ds → DpAll K H vs (pyAll ds)
  | _, [], _, .nil => .nil
  | _, d :: ds, h, .cons r rr => .cons (h d List.mem_cons_self _ r) (dpAll_of (m := m) (fun d hd => h d (List.mem_cons_of_mem _ hd)) rr)
theorem Pl.dp {m : Nat} (h : Pl m d) : ∀ v, Rep K H v d → Dp K H v (py d) := by
  induction h with
  | non => intro v r; cases r; exact .non
  | bl b => intro v r; cases r; exact .bl b
  | int i => intro v r; cases r; exact .int i
  | str h => intro v r; cases r; exact .str _
  | tup h ih =>
    intro v r
    cases r with
    | tup h1 r1 => exact .tup h1 (dpAll_of (m := 0) ih r1)
  | lst h ih =>
    intro v r
    cases r with
    | lst h1 r1 => exact .lst (Evl.sq_of h1) (dpAll_of (m := 0) ih r1)
/-- what an operand is, as data -/
def PlS (S : List Dat) (x : Sl) (m : Nat) (d : Dat) : Prop := Pl m d ∧ (x = .d d ∨ ∃ k ds, x = .c k ∧ d = .lst ds ∧ S[k]? = some (.lst ds))
theorem plS_d {m : Nat} (h : Pl m d) : PlS S (.d d) m d := ⟨h, .inl rfl⟩
theorem plS_c {m k : Nat} (h : Pl m (.lst ds)) (hk : S[k]? = some (.lst ds)) : PlS S (.c k) m (.lst ds) := ⟨h, .inr ⟨k, ds, rfl, rfl, hk⟩⟩
theorem PlS.dp {m : Nat} {v : V} (h : PlS S x m d) (c : Ok K B H as S) (r : RepS K B as v x) : Dp K H v (py d) := by
  obtain ⟨hp, rfl | ⟨k, ds, rfl, rfl, hk⟩⟩ := h
  · exact hp.dp v (Rep.mono c.ex r)
  · obtain ⟨a, ha, rfl⟩ := r
    obtain ⟨vs, hv, rv⟩ := (c.cells k a _ ha hk).2.lst
    have rv' : Reps K H vs ds := Reps.mono c.ex rv
    exact hp.dp (.ref a) (.lst hv rv')
def eqD (d e : Dat) : Bool := PyData.eqv (py d) (py e)
theorem op2_eqD {m1 m2 : Nat} (h1 : PlS S x m1 d) (h2 : PlS S y m2 e) (hm1 : m1 ≤ 64) (hm2 : m2 ≤ 64) : Op2 K (rEqD K) x y S (.bl (eqD d e)) := fun B H as v w c r1 r2 Q q =>
  ⟨py d, py e, h1.dp c r1, h2.dp c r2, h1.1.shaped hm1, h2.1.shaped hm2, q _ B H c Evo.refl (.bl _)⟩
theorem op2_neD {m1 m2 : Nat} (h1 : PlS S x m1 d) (h2 : PlS S y m2 e) (hm1 : m1 ≤ 64) (hm2 : m2 ≤ 64) : Op2 K (rNeD K) x y S (.bl (!eqD d e)) := fun B H as v w c r1 r2 Q q =>
  ⟨py d, py e, h1.dp c r1, h2.dp c r2, h1.1.shaped hm1, h2.1.shaped hm2, q _ B H c Evo.refl (.bl _)⟩
theorem eqD_refl {m : Nat} (h : Pl m d) : eqD d d = true := SeqAt.eqv_refl _ h.lay.1
theorem eqD_int {i j : Int} : eqD (.int i) (.int j) = decide (i = j) := by
  show (i == j) = _
  by_cases h : i = j
  · subst h; simp
  · simp [h]
theorem eqvAll_map {α : Type} [DecidableEq α] (f : α → Dat) (h : ∀ x y, eqD (f x) (f y) = decide (x = y)) : ∀ xs ys : List α, PyData.eqvAll (pyAll (xs.map f)) (pyAll (ys.map f)) = decide (xs = ys)
  | [], [] => by simp [pyAll, PyData.eqvAll]
  | [], y :: ys => by simp [pyAll, PyData.eqvAll]
  | x :: xs, [] => by simp [pyAll, PyData.eqvAll]
  | x :: xs, y :: ys => by
    show (PyData.eqv (py (f x)) (py (f y)) && PyData.eqvAll (pyAll (xs.map f)) (pyAll (ys.map f))) = _
    rw [eqvAll_map f h xs ys]
    have := h x y
    unfold eqD at this
    rw [this]
    by_cases h1 : x = y <;> by_cases h2 : xs = ys <;> simp [h1, h2]
theorem eqD_tup {α : Type} [DecidableEq α] (f : α → Dat) (h : ∀ x y, eqD (f x) (f y) = decide (x = y)) (xs ys : List α) : eqD (.tup (xs.map f)) (.tup (ys.map f)) = decide (xs = ys) := eqvAll_map f h xs ys
theorem eqD_lst {α : Type} [DecidableEq α] (f : α → Dat) (h : ∀ x y, eqD (f x) (f y) = decide (x = y)) (xs ys : List α) : eqD (.lst (xs.map f)) (.lst (ys.map f)) = decide (xs = ys) := eqvAll_map f h xs ys
theorem op2_eq_int {i j : Int} : Op2 K rEq (.d (.int i)) (.d (.int j)) S (.bl (decide (i = j))) := fun B H as v w c h1 h2 Q q => by
  cases h1; cases h2
  have e : decide (V.int i = V.int j) = decide (i = j) := by
    by_cases h : i = j
    · subst h; simp
    · simp [h]
  refine ⟨rfl, ?_⟩
  rw [e]
  exact q _ B H c Evo.refl (.bl _)
theorem op2_ne_int {i j : Int} : Op2 K rNe (.d (.int i)) (.d (.int j)) S (.bl (!decide (i = j))) := fun B H as v w c h1 h2 Q q => by
  cases h1; cases h2
  have e : decide (V.int i = V.int j) = decide (i = j) := by
    by_cases h : i = j
    · subst h; simp
    · simp [h]
  refine ⟨rfl, ?_⟩
  rw [e]
  exact q _ B H c Evo.refl (.bl _)
/-! ### isinstance -/
def tyD : Dat → Option String
  | .non => some "NoneType"
  | .bl _ => some "bool"
  | .int _ => some "int"
  | .str _ => some "str"
  | .tup _ => some "tuple"
  | .lst _ => some "list"
  | _ => none
theorem tyX_of {T : String} {v : V} (c : Ok K B H as S) (h : tyD d = some T) (r : Rep K B v d) : TyX K H v (.type T) := by
  cases r with
  | non => cases h; exact .base .non
  | bl b => cases h; exact .base (.bl b)
  | int i => cases h; exact .base (.int i)
  | str s => cases h; exact .base (.str s)
  | ty n => cases h
  | tup h1 r1 =>
    cases h
    rcases Evl.ex_t c.ex h1 with (z | ⟨o, z⟩) | ⟨o, its, n, z, zc, _⟩
    · exact .base (.tup z)
    · exact .fTuple z
    · exact .kTuple z zc
  | lst h1 r1 => cases h; exact .base (.lst (c.ex _ _ h1))
  | scr h1 => cases h
  | ins h1 r1 => cases h
  | adr a => cases h
theorem cd_isi {T N : String} (h : tyD d = some T) (hk : kitB T N = some b) : CallD K (rIsi K) [.d d, .d (.ty N)] S (.bl b) S := fun B H as vs c r Q q => by
  cases r with
  | cons r1 rr =>
    cases rr with
    | cons r2 rr =>
      cases rr; cases r2
      exact ⟨_, _, .type T, .type N, b, rfl, .ty N, tyX_of c h r1, kit_ty hk, q _ B H c Evo.refl (.bl b)⟩
/-- what an own class is for isinstance -/
structure InsC (K : PySem.W.Frag) (C : Addr) : Prop where
  cl : Cls K C
  ha : PySem.W.findIn K (.ref C) "__class__" = some (some (.builtin "object.__class__"))
  hn : PySem.W.specialIn K (.builtin "object.__class__") "__get__" = some (some (.builtin "getset_descriptor.__get__"))
  htk : PySem.W.takesIn K (.builtin "object.__class__") = some true
  hm : PySem.W.mroIn K C (.type "object") = some true
theorem cd_isiI {C : Addr} {fs : List (Str × Dat)} {cv : V} {cu : Value} {cd : Dat} (T : InsC K C) (hc : ∀ B v, Rep K B v cd → v = cv) (hcv : ClsV cv cu) (hk : PySem.W.kitOne K (.ref C) cu = some b) : CallD K (rIsi K) [.d (.ins C fs), .d cd] S (.bl b) S := fun B H as vs c r Q q => by
  cases r with
  | cons r1 rr =>
    cases rr with
    | cons r2 rr =>
      cases rr
      have e := hc _ _ r2
      subst e
      cases r1 with
      | ins h1 r1 => exact ⟨_, _, .ref C, cu, b, rfl, hcv, .base (.ins (c.ex _ _ h1) T.cl T.ha T.hn T.htk T.hm), hk, q _ B H c Evo.refl (.bl b)⟩
/-- an instance, asked for its own class -/
theorem cd_isiO {C C' : Addr} {fs : List (Str × Dat)} (T : InsC K C) (hk : PySem.W.kitOne K (.ref C) (.ref C') = some b) : CallD K (rIsi K) [.d (.ins C fs), .d (.adr C')] S (.bl b) S :=
  cd_isiI T (fun B v r => by cases r; rfl) (.own C') hk
/-- another value, asked for an own class -/
theorem cd_isiN {T : String} {C : Addr} (h : tyD d = some T) (hk : PySem.W.kitOne K (.type T) (.ref C) = some b) : CallD K (rIsi K) [.d d, .d (.adr C)] S (.bl b) S := fun B H as vs c r Q q => by
  cases r with
  | cons r1 rr =>
    cases rr with
    | cons r2 rr =>
      cases rr; cases r2
      exact ⟨_, _, .type T, .ref C, b, rfl, .own C, tyX_of c h r1, hk, q _ B H c Evo.refl (.bl b)⟩
end
end RW

set_option Elab.async false
set_option linter.all false
set_option maxRecDepth 100000
set_option maxHeartbeats 4000000
namespace RW
open PySem PySem.Spec PyProof.Rows L2
open Evl (Ex)
section
variable {K : PySem.W.Frag} {n : Nat} {te ta tb tc to ti tv : TE} {tt tu : TT} {tA tR : TA} {env env' : Env1} {S S1 S2 S3 : List Dat} {x y z : Sl} {d e : Dat} {ds es : List Dat} {r r' : R2} {P P' : Post} {t u : TS}
  {B B0 B1 B' H H0 H1 H' : Hp} {as as0 as1 : List Addr} {D : Ends} {σ : L2.St} {i j : Int} {k : Nat} {a b c : Bool}
theorem o_le : Op2 K (rI0 fun i j => V.bl (decide (i ≤ j))) (.d (.int i)) (.d (.int j)) S (.bl (decide (i ≤ j))) := op2_int0 fun B => .bl _
theorem o_lt : Op2 K (rI0 fun i j => V.bl (decide (i < j))) (.d (.int i)) (.d (.int j)) S (.bl (decide (i < j))) := op2_int0 fun B => .bl _
theorem o_gt : Op2 K (rI0 fun i j => V.bl (decide (j < i))) (.d (.int i)) (.d (.int j)) S (.bl (decide (j < i))) := op2_int0 fun B => .bl _
theorem o_ge : Op2 K (rI0 fun i j => V.bl (decide (j ≤ i))) (.d (.int i)) (.d (.int j)) S (.bl (decide (j ≤ i))) := op2_int0 fun B => .bl _
theorem o_leT (h : i ≤ j) : Op2 K (rI0 fun i j => V.bl (decide (i ≤ j))) (.d (.int i)) (.d (.int j)) S (.bl true) := by have := @o_le K S i j; rwa [decide_eq_true h] at this
theorem o_ltT (h : i < j) : Op2 K (rI0 fun i j => V.bl (decide (i < j))) (.d (.int i)) (.d (.int j)) S (.bl true) := by have := @o_lt K S i j; rwa [decide_eq_true h] at this
theorem o_add : Op2 K (rI0 fun i j => V.int (i + j)) (.d (.int i)) (.d (.int j)) S (.int (i + j)) := op2_int0 fun B => .int _
theorem o_sub : Op2 K (rI0 fun i j => V.int (i - j)) (.d (.int i)) (.d (.int j)) S (.int (i - j)) := op2_int0 fun B => .int _
theorem o_mul (h : CMul i j) : Op2 K (rI CMul fun i j => V.int (i * j)) (.d (.int i)) (.d (.int j)) S (.int (i * j)) := op2_int h fun B => .int _
theorem o_mod (h : 0 < j) : Op2 K (rI (fun x j => 0 < j) fun i j => V.int (i % j)) (.d (.int i)) (.d (.int j)) S (.int (i % j)) := op2_int h fun B => .int _
theorem o_fdivW (h : CDivW i j) : Op2 K (rI CDivW fun i j => V.int (i / j)) (.d (.int i)) (.d (.int j)) S (.int (i / j)) := op2_int h fun B => .int _
theorem o_pow (h : CPow i j) : Op2 K (rI CPow fun i j => V.int (i ^ j.toNat)) (.d (.int i)) (.d (.int j)) S (.int (i ^ j.toNat)) := op2_int h fun B => .int _
theorem o_neg : Op1 K (rU fun i => V.int (-i)) (.d (.int i)) S (.int (-i)) := op1_int fun B => .int _
theorem cm_l (h1 : -(2 ^ 64) < i) (h2 : i < 2 ^ 64) : CMul i j := .inl ⟨h1, h2⟩
theorem cm_r (h1 : -(2 ^ 64) < j) (h2 : j < 2 ^ 64) : CMul i j := .inr ⟨h1, h2⟩
/-- ** of any base -/
def CPowW (i j : Int) : Prop := 0 ≤ j ∧ (Builtin.Int.intBits i : Int) * j ≤ 2 ^ 27
theorem op_powW {X : Cx} : OpR X (binaryOp .Pow) (rI CPowW fun i j => .int (i ^ j.toNat)) := opI fun i j t u A E s hc q => pow_int hc.1 hc.2 q
theorem o_powW (h : CPowW i j) : Op2 K (rI CPowW fun i j => V.int (i ^ j.toNat)) (.d (.int i)) (.d (.int j)) S (.int (i ^ j.toNat)) := op2_int h fun B => .int _
theorem en_mapA {α : Type} {xs : List α} {g : α → Dat} (h : α → Dat) {wi : TI} {tg : TG} {vs : List Nat} {G : List Addr → List Addr → List Dat → Prop} {is : List Nat} (hw : IterD K wi env S G (xs.map g) S1) (hz : xs.length ≤ sizeLine)
    (hG : ∀ as : List Addr, as.length = S1.length → G as as S1) (his : ∀ i ∈ is, i ∈ vs) (f : α → Env1 → Env1)
    (hs : ∀ (a : α), a ∈ xs → TgD K tg (g a) is (f a) ∧ Ev K te (f a (wipeE env vs)) S1 (.d (h a)) S1) : EvN K (tLc wi tg tYes te vs) env S (xs.map h) S1 := by
  refine en_lc (es := xs.map h) (S' := S1) hw (by rw [List.length_map]; exact hz) (fun i acc S' => acc = (xs.take i).map h ∧ S' = S1) ⟨by simp, rfl⟩ (fun i acc S' h as l1 l2 => by rw [h.2]; exact hG as l1) (fun i d acc S' hd hi => ?_) (fun acc S2 h => ?_)
  · obtain ⟨rfl, rfl⟩ := hi
    rw [List.getElem?_map, Option.map_eq_some_iff] at hd
    obtain ⟨a, ha, rfl⟩ := hd
    obtain ⟨tg, hev⟩ := hs a (List.mem_of_getElem? ha)
    exact ⟨is, f a, true, S', tg, his, et_yes, fun _ => ⟨_, _, hev, (map_take h ha).symm, rfl⟩, fun h => by cases h⟩
  · obtain ⟨rfl, rfl⟩ := h
    exact ⟨by rw [List.length_map, List.take_length], rfl⟩
theorem filter_take {α : Type} (T : α → Bool) {l : List α} {i : Nat} {x : α} (h : l[i]? = some x) : (l.take (i + 1)).filter T = (l.take i).filter T ++ (if T x = true then [x] else []) := by
  have hl := (List.getElem?_eq_some_iff.mp h).1
  have e : l[i] = x := (List.getElem?_eq_some_iff.mp h).2
  rw [List.take_succ_eq_append_getElem hl, e, List.filter_append]
  congr 1
  by_cases q : T x = true <;> simp [q]
theorem en_filterA {α : Type} {xs : List α} {g : α → Dat} (T : α → Bool) (h : α → Dat) {wi : TI} {tg : TG} {vs : List Nat} {G : List Addr → List Addr → List Dat → Prop} {is : List Nat} (hw : IterD K wi env S G (xs.map g) S1) (hz : xs.length ≤ sizeLine)
    (hG : ∀ as : List Addr, as.length = S1.length → G as as S1) (his : ∀ i ∈ is, i ∈ vs) (f : α → Env1 → Env1)
    (hs : ∀ (a : α), a ∈ xs → TgD K tg (g a) is (f a) ∧ EvT K tt (f a (wipeE env vs)) S1 (T a) S1 ∧ (T a = true → Ev K te (f a (wipeE env vs)) S1 (.d (h a)) S1)) : EvN K (tLc wi tg tt te vs) env S ((xs.filter T).map h) S1 := by
  refine en_lc (es := (xs.filter T).map h) (S' := S1) hw (by rw [List.length_map]; exact hz) (fun i acc S' => acc = ((xs.take i).filter T).map h ∧ S' = S1) ⟨by simp, rfl⟩ (fun i acc S' h as l1 l2 => by rw [h.2]; exact hG as l1) (fun i d acc S' hd hi => ?_) (fun acc S2 h => ?_)
  · obtain ⟨rfl, rfl⟩ := hi
    rw [List.getElem?_map, Option.map_eq_some_iff] at hd
    obtain ⟨a, ha, rfl⟩ := hd
    obtain ⟨tg, htt, hev⟩ := hs a (List.mem_of_getElem? ha)
    refine ⟨is, f a, T a, S', tg, his, htt, fun q => ⟨_, _, hev q, ?_, rfl⟩, fun q => ⟨?_, rfl⟩⟩
    · rw [filter_take T ha, if_pos q, List.map_append]; rfl
    · rw [filter_take T ha, if_neg (by simp [q]), List.append_nil]
  · obtain ⟨rfl, rfl⟩ := h
    exact ⟨by rw [List.length_map, List.take_length], rfl⟩
/-- with a state that goes along: the vat -/
theorem en_fold {α β : Type} {xs : List α} {g : α → Dat} {es : List β} (h : β → Dat) (Sf : Nat → List Dat) {wi : TI} {tg : TG} {vs : List Nat} {G : List Addr → List Addr → List Dat → Prop} {is : List Nat} (hw : IterD K wi env S G (xs.map g) (Sf 0)) (hz : xs.length ≤ sizeLine) (hl : es.length = xs.length)
    (hG : ∀ i (as : List Addr), as.length = (Sf i).length → G as as (Sf i)) (hSl : ∀ i, (Sf i).length = (Sf 0).length) (his : ∀ i ∈ is, i ∈ vs) (f : α → Env1 → Env1)
    (hs : ∀ (i : Nat) (a : α) (b : β), xs[i]? = some a → es[i]? = some b → TgD K tg (g a) is (f a) ∧ Ev K te (f a (wipeE env vs)) (Sf i) (.d (h b)) (Sf (i + 1))) : EvN K (tLc wi tg tYes te vs) env S (es.map h) (Sf xs.length) := by
  refine en_lc (es := es.map h) (S' := Sf xs.length) hw (by rw [List.length_map]; exact hz) (fun i acc S' => acc = (es.take i).map h ∧ S' = Sf i) ⟨by simp, rfl⟩ (fun i acc S' h as l1 l2 => by rw [h.2] at l2 ⊢; exact hG i as l2) (fun i d acc S' hd hi => ?_) (fun acc S2 h => ?_)
  · obtain ⟨rfl, rfl⟩ := hi
    rw [List.getElem?_map, Option.map_eq_some_iff] at hd
    obtain ⟨a, ha, rfl⟩ := hd
    have hlt : i < es.length := by rw [hl]; exact (List.getElem?_eq_some_iff.mp ha).1
    obtain ⟨tg, hev⟩ := hs i a es[i] ha (List.getElem?_eq_getElem hlt)
    exact ⟨is, f a, true, _, tg, his, et_yes, fun _ => ⟨_, _, hev, (map_take h (List.getElem?_eq_getElem hlt)).symm, rfl⟩, fun h => by cases h⟩
  · obtain ⟨rfl, rfl⟩ := h
    refine ⟨?_, by rw [List.length_map]⟩
    rw [List.length_map, List.take_of_length_le (by omega)]
theorem sp_forA {α : Type} {xs : List α} {g : α → Dat} {wi : TI} {tg : TG} {tb : TS} {G : List Addr → List Addr → List Dat → Prop} (hw : IterD K wi env S G (xs.map g) S1) (Inv : Nat → Env1 → List Dat → Prop) (h0 : Inv 0 env S1)
    (hG : ∀ i env' S' as as2, Inv i env' S' → as.length = S1.length → as2.length = S'.length → as2.take n = as.take n → G as as2 S')
    (hs : ∀ i a env' S', xs[i]? = some a → Inv i env' S' → ∃ is f, TgD K tg (g a) is f ∧ SP K n tb (f env') S' { P with nx := Inv (i + 1), ct := Inv (i + 1), bk := P.nx })
    (hd : ∀ env' S', Inv xs.length env' S' → P.nx env' S') : SP K n (tFor wi tg tb) env S P := by
  refine sp_for hw Inv h0 hG (fun i d env' S' hd hi => ?_) (fun env' S' h => hd env' S' (by rwa [List.length_map] at h))
  rw [List.getElem?_map, Option.map_eq_some_iff] at hd
  obtain ⟨a, ha, rfl⟩ := hd
  exact hs i a env' S' ha hi
theorem rng_map {lo : Int} {n : Nat} : rng lo n = (List.range n).map fun i => Dat.int (lo + (i : Nat)) := rfl
theorem zip_map {α β : Type} (f : α → Dat) (g : β → Dat) (u : List α) (v : List β) : zipD (u.map f) (v.map g) = (u.zip v).map fun p => Dat.tup [f p.1, g p.2] := by
  unfold zipD
  rw [List.zipWith_map]
  induction u generalizing v with
  | nil => rfl
  | cons x u ih => cases v with
    | nil => rfl
    | cons y v => simp [ih]
theorem enum_map {α : Type} (f : α → Dat) (u : List α) : enumD (u.map f) = u.zipIdx.map fun p => Dat.tup [.int (p.2 : Nat), f p.1] := by
  unfold enumD
  apply List.ext_getElem
  · simp
  · intro i h1 h2; simp
theorem WalkD.weak {J : It} {G G' : List Addr → List Dat → Prop} (w : WalkD K B J G ds) (h : ∀ as2 S2, G' as2 S2 → G as2 S2) : WalkD K B J G' ds :=
  ⟨fun B2 H2 as2 S2 i e c g hi => w.go B2 H2 as2 S2 i e c (h _ _ g) hi, fun B2 H2 as2 S2 i x H3 e c g hi y => w.yld B2 H2 as2 S2 i x H3 e c (h _ _ g) hi y, fun B2 H2 as2 S2 e c g => w.stop B2 H2 as2 S2 e c (h _ _ g)⟩
theorem IterD.weak {wi : TI} {G G' : List Addr → List Addr → List Dat → Prop} (w : IterD K wi env S G ds S1) (h : ∀ as as2 S2, G' as as2 S2 → G as as2 S2) : IterD K wi env S G' ds S1 := fun B H as σ c g R q =>
  w B H as σ c g R fun J B1 H1 c1 e1 w1 => q J B1 H1 c1 e1 (w1.weak (h as))
theorem it_zipA {α β : Type} {u : List α} {v : List β} {f : α → Dat} {g : β → Dat} {x y : Dat} (h : EvA K tA env S [.d x, .d y] S1) (hx : Seq S1 (.d x) (u.map f)) (hy : Seq S1 (.d y) (v.map g)) : IterD K (iZipG K tA) env S G0 ((u.zip v).map fun p => Dat.tup [f p.1, g p.2]) S1 := by
  rw [← zip_map]; exact (it_zip h hx hy).weak fun _ _ _ _ => ⟨trivial, trivial⟩
theorem it_enumA {α : Type} {u : List α} {f : α → Dat} {x : Dat} (h : EvA K tA env S [.d x] S1) (hx : Seq S1 (.d x) (u.map f)) : IterD K (iEnumG K tA) env S G0 (u.zipIdx.map fun p => Dat.tup [.int (p.2 : Nat), f p.1]) S1 := by
  rw [← enum_map]; exact (it_enum h hx).weak fun _ _ _ _ => trivial
/-- return a new list that was just made -/
def SpN (K : PySem.W.Frag) (G : List Sl → List Dat → List Dat → List Dat → Prop) : Sp := fun vs H Q _ => ∃ B as S ss r S', Ok K B H as S ∧ RepSs K B as vs ss ∧ G ss S r S' ∧
  ∀ p B' H' ws, Ok K B' H' as S' → Evo B H as B' H' → H p = none → B' p = none → H' p = some (.lst ws) → Reps K B' ws r → Q (.ref p) H'
theorem en_call {G : List Sl → List Dat → List Dat → List Dat → Prop} {ss : List Sl} {E : XK} (h : EvA K tA env S ss S1) (hg : G ss S1 ds S2) : EvN K (tCall (SpN K G) [] E tA) env S ds S2 := fun B H as σ c g Q q =>
  h B H as σ c g _ fun vs B1 H1 c1 e1 r1 => ⟨B1, as, S1, ss, ds, S2, c1, by rw [List.append_nil]; exact r1, hg, fun p B2 H2 ws c2 e2 hp hb hl r2 => q p B2 H2 ws c2 (e1.trans e2) (e1.old hp) hb hl r2⟩
theorem spn_len {G : List Sl → List Dat → List Dat → List Dat → Prop} {k : Nat} (h : ∀ ss S r S', G ss S r S' → ss.length = k) : ∀ vs H Q E, SpN K G vs H Q E → vs.length = k := fun vs H Q E q => by
  obtain ⟨B, as, S, ss, r, S', c, rs, g, _⟩ := q
  rw [rs.length]
  exact h ss S r S' g
/-- isinstance told as a fact of the data -/
theorem cd_sortedI {ns ns' : List Int} (h : SeqL S x (ns.map Dat.int)) (hp : ns.Perm ns') (hs : ns'.Pairwise (· ≤ ·)) : CallD K (rSortedI K) [x] S (.lst (ns'.map Dat.int)) S := fun B H as vs c r Q q => by
  cases r with
  | cons r1 rr =>
    cases rr
    obtain ⟨a, ws, rfl, hq, hr⟩ := h.read c r1
    rw [hr.ints] at hq
    refine ⟨a, ns, rfl, Evl.sq_of hq, fun ms p h1 h2 hpn => ?_⟩
    have e : ms = ns' := (h1.trans hp).eq_of_pairwise (fun a b _ _ h1 h2 => Int.le_antisymm h1 h2) h2 hs
    subst e
    have rr : ∀ ms : List Int, Reps K (upd B p (.lst (ms.map V.int))) (ms.map V.int) (ms.map Dat.int) := fun ms => by
      have : ∀ (ks : List Int) (B : Hp), Reps K B (ks.map V.int) (ks.map Dat.int) := fun ks B => by
        induction ks with
        | nil => exact .nil
        | cons k ks ih => exact .cons (.int k) ih
      exact this ms _
    exact q _ (upd B p (.lst (ms.map V.int))) _ (c.new hpn) (Evo.new c hpn) (.lst upd_same (rr ms))
theorem ix_seqK {X : Cx} (K : PySem.W.Frag) (h : X.K = K := by rfl) : IxR X (rIx K) := h ▸ ix_seq
theorem pi_seqK {X : Cx} (K : PySem.W.Frag) {tg l : Expr} {tl : TE} (hl : PE X l tl) (h : X.K = K := by rfl) : PI X tg l (iSeq K tl) := h ▸ pi_seq hl
theorem pt_truK {X : Cx} (K : PySem.W.Frag) {e : Expr} {ta : TE} (ha : PE X e ta) (h : X.K = K := by rfl) (he : ∀ whole, isTrue e X.env whole = (do let v ← whole; standAt e.pos; holding [v] (truthy v)) := by intro _; rfl) : PT X e (tTru K ta) := h ▸ pt_tru ha he
theorem call_lenK {X : Cx} (K : PySem.W.Frag) (h : X.K = K := by rfl) : CallR X (.builtin "len") (rLenD K) := h ▸ call_lenD
theorem call_tupK {X : Cx} (K : PySem.W.Frag) (hc : X.calm = true) (h : X.K = K := by rfl) : CallR X (.type "tuple") (rTupD K) := h ▸ call_tupD hc
end
end RW

set_option Elab.async false
set_option linter.all false
set_option maxRecDepth 100000
set_option maxHeartbeats 4000000
namespace RW
open PySem PySem.Spec PyProof.Rows L2
open Evl (Ex)
section
variable {K : PySem.W.Frag} {n : Nat} {te ta tb tc to ti tv : TE} {tt tu : TT} {tA tR : TA} {env env' : Env1} {S S1 S2 S3 : List Dat} {x y z : Sl} {d e : Dat} {ds es : List Dat} {r r' : R2} {P P' : Post} {t u : TS}
  {B B0 B1 B2 B' H H0 H1 H2 H' : Hp} {as as0 as1 : List Addr} {D : Ends} {σ : L2.St} {j k : Nat} {a b c : Bool}
theorem Evo.kept {p : Addr} {o : HO} (e : Evo B1 H1 as B2 H2) (hp : p ∉ as) (h1 : H1 p = some o) (hb : B1 p = none) (ht : ∀ xs, o ≠ .tup xs := by exact fun _ z => nomatch z) : H2 p = some o ∧ B2 p = none :=
  have h3 := e.fr p o hp h1
  ⟨h3, by
    rcases e.gr p (by rw [h1]; simp) with z | ⟨xs, z⟩
    · exact z.trans hb
    · rw [h3] at z; cases z; exact absurd rfl (ht xs)⟩
/-- (xs, y) with xs a new list that will be changed -/
theorem sp_pairC (h : EvN K ta env S ds S1) (hv : Ev K tb env S1 y S2) (q : SP K n u ((env.set j (some (.c S2.length))).set k (some y)) (S2 ++ [.lst ds]) P) :
    SP K n (tSeq (tAsg (tTup (tCons ta (tCons tb tNil))) (gTup K 2 (gCons (gName j) (gCons (gName k) gNil)))) u) env S P := fun B0 H0 as0 Bk B H as σ hl f c g D m =>
  h B H as σ c g _ fun p B1 H1 vs c1 e1 hp hb h1 r1 => hv B1 H1 as σ c1 (g.mono e1.ex) _ fun w B2 H2 c2 e2 r2 => ⟨by show 2 ≤ sizeLine; decide, fun t ht => by
    have hpa : p ∉ as := c.fresh hp
    obtain ⟨k1, k2⟩ := e2.kept hpa h1 hb
    have c3 := c2.new (o := .tup [.ref p, w]) ht
    have e3 := Evo.new (o := .tup [.ref p, w]) c2 ht
    have e03 := (e1.trans e2).trans e3
    have npt : p ≠ t := by rintro rfl; rw [ht] at k1; cases k1
    refine ⟨t, _, rfl, Evl.st_of upd_same, rfl, _, _, rfl, _, _, rfl, rfl, ?_⟩
    refine q B0 H0 as0 Bk _ _ (as ++ [p]) _ hl ((f.step e03).push (f.evo.old hp)) (c3.push (by rw [upd_ne npt]; exact k2) hpa (.ofL (by rw [upd_ne npt]; exact k1) ((r1.mono e2.ex).mono e3.ex))) ((((g.mono e03.ex).grow).set (s := .c S2.length) j ?_).set k ((r2.mono e3.ex).grow)) D m
    exact ⟨p, by rw [← c2.len]; simp, rfl⟩⟩
/-- both new lists -/
theorem sp_pairCC (h : EvN K ta env S ds S1) (hv : EvN K tb env S1 es S2) (q : SP K n u ((env.set j (some (.c S2.length))).set k (some (.c (S2.length + 1)))) (S2 ++ [.lst ds] ++ [.lst es]) P) :
    SP K n (tSeq (tAsg (tTup (tCons ta (tCons tb tNil))) (gTup K 2 (gCons (gName j) (gCons (gName k) gNil)))) u) env S P := fun B0 H0 as0 Bk B H as σ hl f c g D m =>
  h B H as σ c g _ fun p B1 H1 vs c1 e1 hp hb h1 r1 => hv B1 H1 as σ c1 (g.mono e1.ex) _ fun p2 B2 H2 ws c2 e2 hp2 hb2 h2 r2 => ⟨by show 2 ≤ sizeLine; decide, fun t ht => by
    have hpa : p ∉ as := c.fresh hp
    have hpa2 : p2 ∉ as := c1.fresh hp2
    have hpp : p ≠ p2 := by rintro rfl; rw [hp2] at h1; cases h1
    obtain ⟨k1, k2⟩ := e2.kept hpa h1 hb
    have c3 := c2.new (o := .tup [.ref p, .ref p2]) ht
    have e3 := Evo.new (o := .tup [.ref p, .ref p2]) c2 ht
    have e03 := (e1.trans e2).trans e3
    have npt : p ≠ t := by rintro rfl; rw [ht] at k1; cases k1
    have npt2 : p2 ≠ t := by rintro rfl; rw [ht] at h2; cases h2
    refine ⟨t, _, rfl, Evl.st_of upd_same, rfl, _, _, rfl, _, _, rfl, rfl, ?_⟩
    have c4 := c3.push (p := p) (by rw [upd_ne npt]; exact k2) hpa (.ofL (by rw [upd_ne npt]; exact k1) ((r1.mono e2.ex).mono e3.ex))
    have c5 := c4.push (p := p2) (by rw [upd_ne npt2]; exact hb2) (by simp [hpa2, hpp.symm]) (.ofL (by rw [upd_ne npt2]; exact h2) (r2.mono e3.ex))
    have f4 := (f.step e03).push (f.evo.old hp)
    refine q B0 H0 as0 Bk _ _ (as ++ [p] ++ [p2]) _ hl (f4.push (f.evo.old (e1.old hp2))) c5 ((((g.mono e03.ex).grow).grow.set (s := .c S2.length) j ?_).set (s := .c (S2.length + 1)) k ?_) D m
    · exact ⟨p, by rw [← c2.len]; simp, rfl⟩
    · exact ⟨p2, by rw [← c2.len]; simp, rfl⟩⟩
end
end RW
namespace RW
open PySem PySem.Spec PyProof.Rows L2
section
variable {K : PySem.W.Frag} {te : TE} {tA : TA} {env : Env1} {S S1 S1' : List Dat} {r : Sl} {rs : List Sl} {ds : List Dat}
theorem Ev.toS (h : Ev K te env S r S1) (e : S1 = S1') : Ev K te env S r S1' := e ▸ h
theorem EvN.toS (h : EvN K te env S ds S1) (e : S1 = S1') : EvN K te env S ds S1' := e ▸ h
theorem EvA.toS (h : EvA K tA env S rs S1) (e : S1 = S1') : EvA K tA env S rs S1' := e ▸ h
theorem it_rangeN {m : Nat} (h : EvA K tA env S [.d (.int m)] S1) (hm : m ≤ 1000) : IterD K (iRng1 tA) env S G0 ((List.range m).map fun i => Dat.int (0 + (i : Nat))) S1 := by
  have := it_range1 h ⟨by omega, by omega⟩
  rwa [Int.toNat_natCast, rng_map] at this
end
end RW

set_option Elab.async false
set_option linter.all false
set_option maxRecDepth 100000
set_option maxHeartbeats 4000000
namespace RwT
open PySem PySem.Spec PyProof.Rows L2
theorem tuple_mul1 (l : Addr) (items : Array Value) (n : Nat) (dd : Option Addr) (sl : Array (Option Value)) (u : Tok) :
    Meets (Builtin.«tuple.__mul__» ⟨[.ref l, .int 1 u], []⟩) (fun _ R s => s.heap.get? l = some { cls := .type "tuple", dict := dd, data := .seq items n, slots := sl } ∧
      R (.ok (.ret (Value.ref l))) s) :=
  .of_wp fun prog w A R s h => by
    obtain ⟨hp, g, d, tk, os⟩ := s
    obtain ⟨hl, h⟩ := h
    have f1 := AutoSeq1.idx_int
    wp_walk using wpAny_loadPart' hl
    repeat (first
      | (refine wpAny_ite_false (decide_eq_false (by decide)) ?_; wp_walk using wpAny_loadPart' hl)
      | (refine wpAny_ite_true (by simp) ?_; wp_walk using wpAny_loadPart' hl))
    exact ⟨_, rfl, h⟩
/-- tuple * n, n from 1 on -/
def rRepA (K : PySem.W.Frag) : R2 := fun x y H Q => ∃ l k xs, x = .ref l ∧ y = .int k ∧ SqT K H l xs ∧ xs ≠ [] ∧ 1 ≤ k ∧ k ≤ 1000 ∧ xs.length ≤ 1000 ∧ (k = 1 → Q (.ref l) H) ∧ (2 ≤ k → ∀ p, H p = none → Q (.ref p) (upd H p (.tup (List.replicate k.toNat xs).flatten)))
theorem op_repA {X : Cx} : OpR X (binaryOp .Mult) (rRepA X.K) := by
  intro pins s σ H x y v u Q I rx ry h
  obtain ⟨l, k, xs, rfl, rfl, hT, hne, h1, h2, hz, q1, q2⟩ := h
  by_cases hk : 2 ≤ k
  · exact op_repT pins s σ H _ _ v u Q I rx ry ⟨l, k, xs, rfl, rfl, hT, hne, hk, h2, hz, q2 hk⟩
  obtain rfl : k = 1 := by omega
  cases rx
  obtain ⟨t, rfl⟩ := ry
  obtain ⟨its, r, ⟨⟨cls, dd, data, sl⟩, ho, hc, n, hd⟩, hs⟩ := I.tuple hT
  simp only at hc hd
  subst hc hd
  refine wpAny_binaryOp_repeat_ref (T := "tuple") (U := "int") (by decide) ⟨_, ho, rfl⟩ (fun s' => typeIs_int s' 1 t) noFill_tuple_mul F.fills_int_mul F.slot_int_rmul repeat_tuple F.slot_int_index.lookup
    (call_meets F.slot_int_rmul (typeIs_int s 1 t) F.entry_int_rmul (F.args_int_rmul_2 _ _) (int_rmul_tuple 1 t l its.toArray n dd sl)
      ⟨ho, rfl, ⟨_, ho, rfl⟩, call_meets F.slot_tuple_mul ⟨_, ho, rfl⟩ F.entry_tuple_mul (F.args_tuple_mul_2 _ _) (tuple_mul1 l its.toArray n dd sl t) ⟨ho, ?_⟩⟩)
  exact ⟨.ref l, _, I, rfl, q1 rfl⟩
end RwT
namespace RW
open PySem PySem.Spec PyProof.Rows L2
theorem o_repA {K : PySem.W.Frag} {S : List Dat} {ds : List Dat} {k : Int} (hne : ds ≠ []) (h1 : 1 ≤ k) (h2 : k ≤ 1000) (hz : ds.length ≤ 1000) : Op2 K (RwT.rRepA K) (.d (.tup ds)) (.d (.int k)) S (.tup (List.replicate k.toNat ds).flatten) := fun B H as v w c r1 r2 Q q => by
  cases r2
  cases r1 with
  | tup h1' rr =>
    refine ⟨_, _, _, rfl, rfl, Evl.ex_t c.ex h1', fun e => hne ((reps_ne rr).mp e), h1, h2, by rw [rr.length]; exact hz, fun e => ?_, fun _ p hp => ?_⟩
    · subst e
      have : (List.replicate (1 : Int).toNat ds).flatten = ds := by simp
      rw [this] at q
      exact q _ B H c Evo.refl (.tup h1' rr)
    · exact q _ (upd B p _) _ (c.new hp) (Evo.new c hp) (.tup (Evl.st_of upd_same) ((reps_rep rr _).mono (Evl.Ex.new (c.Bnone hp))))
end RW

set_option Elab.async false
set_option linter.all false
set_option maxRecDepth 100000
set_option maxHeartbeats 4000000
namespace RW
open PySem PySem.Spec PyProof.Rows L2
open Evl (Ex)
theorem it_down {K : PySem.W.Frag} {tA : TA} {env : Env1} {S S1 : List Dat} {m : Nat} (h : EvA K tA env S [.d (.int ((m : Int) - 1)), .d (.int (-1)), .d (.int (-1))] S1) (hm : m ≤ 1000) : IterD K (iRng3 tA) env S G0 (rngR 0 m) S1 := fun B H as σ c g R q =>
  h B H as σ c g _ fun vs B1 H1 c1 e1 r1 => by
    cases r1 with
    | cons r1 rr =>
      cases rr with
      | cons r2 rr =>
        cases rr with
        | cons r3 rr =>
          cases rr
          cases r1; cases r2; cases r3
          have hc : RgC ((m : Int) - 1) (-1) (-1) m := by
            have := RgC.neg (i := (m : Int) - 1) (j := -1) (by omega) (by omega) (by omega) (by omega)
            rwa [show ((m : Int) - 1 - -1).toNat = m by omega] at this
          have hw : WalkD K B1 (Itc (0 + (m : Int) - 1) (-1) m) (G0 as) (rngR 0 m) := walk_rngR
          rw [show (0 : Int) + (m : Int) - 1 = (m : Int) - 1 by omega] at hw
          exact ⟨_, _, _, m, rfl, hc, q _ B1 H1 c1 e1 hw⟩
end RW

set_option Elab.async false
set_option linter.all false
set_option maxRecDepth 100000
set_option maxHeartbeats 4000000
namespace RW
open PySem PySem.Spec PyProof.Rows L2
open Evl (Ex)
/-! ### x is True, x is False: whatever x is -/
def rIsX (neg : Bool) : R2 := fun x y H Q => ∃ b : Bool, y = .bl b ∧ Q (.bl (neg != decide (x = .bl b))) H
theorem plainIs_bl {x : V} {v : Value} {b : Bool} (r : RelV x v) : plainIs v (.bool b) = true ∧ (v == Value.bool b) = decide (x = .bl b) := by
  cases x with
  | bl c =>
    cases (show v = Value.bool c from r)
    refine ⟨rfl, ?_⟩
    by_cases e : c = b
    · subst e; simp
    · have h1 : ¬ (V.bl c = V.bl b) := fun z => e (V.bl.inj z)
      rw [decide_eq_false h1]
      exact beq_eq_false_iff_ne.mpr fun z => e (Value.bool.inj z)
  | non => cases (show v = Value.none from r); exact ⟨rfl, by rw [decide_eq_false (fun z => nomatch z)]; exact beq_eq_false_iff_ne.mpr fun z => nomatch z⟩
  | int i => obtain ⟨t, rfl⟩ := r; exact ⟨rfl, by rw [decide_eq_false (fun z => nomatch z)]; exact beq_eq_false_iff_ne.mpr fun z => nomatch z⟩
  | str i => obtain ⟨t, rfl⟩ := r; exact ⟨rfl, by rw [decide_eq_false (fun z => nomatch z)]; exact beq_eq_false_iff_ne.mpr fun z => nomatch z⟩
  | byt i => obtain ⟨t, rfl⟩ := r; exact ⟨rfl, by rw [decide_eq_false (fun z => nomatch z)]; exact beq_eq_false_iff_ne.mpr fun z => nomatch z⟩
  | flt i => obtain ⟨t, rfl⟩ := r; exact ⟨rfl, by rw [decide_eq_false (fun z => nomatch z)]; exact beq_eq_false_iff_ne.mpr fun z => nomatch z⟩
  | ref a => cases (show v = Value.ref a from r); exact ⟨rfl, by rw [decide_eq_false (fun z => nomatch z)]; exact beq_eq_false_iff_ne.mpr fun z => nomatch z⟩
  | ty n => cases (show v = Value.type n from r); exact ⟨rfl, by rw [decide_eq_false (fun z => nomatch z)]; exact beq_eq_false_iff_ne.mpr fun z => nomatch z⟩
theorem op_isX {X : Cx} : OpR X (compareOp .Is) (rIsX false) := by
  intro pins s σ H x y v u Q I rx ry h
  obtain ⟨b, rfl, q⟩ := h
  cases (show u = Value.bool b from ry)
  obtain ⟨h1, h2⟩ := plainIs_bl (b := b) rx
  refine wpAny_is_plain h1 ⟨.bl (decide (x = .bl b)), H, I, ?_, by simpa using q⟩
  rw [h2]; rfl
theorem op_notX {X : Cx} : OpR X (compareOp .IsNot) (rIsX true) := by
  intro pins s σ H x y v u Q I rx ry h
  obtain ⟨b, rfl, q⟩ := h
  cases (show u = Value.bool b from ry)
  obtain ⟨h1, h2⟩ := plainIs_bl (b := b) rx
  refine wpAny_isNot_plain h1 ⟨.bl (!decide (x = .bl b)), H, I, ?_, by simpa using q⟩
  rw [h2]; rfl
section
variable {K : PySem.W.Frag} {S : List Dat} {i : Int} {b c : Bool} {neg : Bool}
theorem o_isX_int : Op2 K (rIsX neg) (.d (.int i)) (.d (.bl b)) S (.bl neg) := fun B H as v w k h1 h2 Q q => by
  cases h1; cases h2
  refine ⟨b, rfl, ?_⟩
  have e : (neg != decide (V.int i = V.bl b)) = neg := by cases neg <;> rfl
  rw [e]
  exact q _ B H k Evo.refl (.bl _)
end
end RW

set_option Elab.async false
set_option linter.all false
set_option maxRecDepth 100000
set_option maxHeartbeats 4000000
namespace RwT
open PySem PySem.Spec PyProof.Rows L2
section
variable {prog : Program} {w : World} {A : Around} {E : Value → Shared → Prop} {s : Shared} {K : PySem.W.Frag} {x y C f : Addr} {ox oy : Obj} {od od' : Option Obj}
theorem entry_ne (hu : A.units < cLine) (X : K.In s.heap) (I : PySem.W.InstAt s.heap x ox C od) (hs : PySem.W.findIn K (.ref C) "__eq__" = some (some (.ref f))) (hf : PySem.W.isFn K (.ref f) = true) {Q : Fin → Shared → Prop}
    (hcall : wpAny (model prog w) A (call (.ref f) [.ref x, .ref y]) (fun v s' => ∃ b, v = .bool b ∧ Q (.done (.ret (.bool (!b)))) s') E s) :
    wpAny (model prog w) A (Builtin.«object.__ne__» ⟨[.ref x, .ref y], []⟩) Q E s := by
  unfold Builtin.«object.__ne__»
  repeat (first
    | with_reducible refine wpAny_cRoomFor hu ?_
    | (refine wpAny_bind (m := callSpecialIfBound? (.ref x) (Str.ofString "__eq__") [.ref y])
        (PySem.W.ifBound_K X I hs hf (wpAny_mono hcall (fun r s' hr => by
          obtain ⟨b, rfl, hq⟩ := hr
          repeat (first | exact hq | exact wpAny_pure hq | exact wpAny_truthy_bool hq | (refine wpAny_bind (m := truthy (.bool _)) (wpAny_truthy_bool ?_)) | wp_step)) fun _ _ e => e)))
    | wp_step)
theorem ifBound_objNe {M : Model} {args : List Value} {Q : Option Value → Shared → Prop} (X : K.In s.heap) (I : PySem.W.InstAt s.heap x ox C od) (hs : PySem.W.findIn K (.ref C) "__ne__" = some (some (.builtin "object.__ne__")))
    (h : wpAny M A (call (.builtin "object.__ne__") (.ref x :: args)) (fun v => Q (some v)) E s) : wpAny M A (callSpecialIfBound? (.ref x) "__ne__" args) Q E s := by
  simp only [callSpecialIfBound?, bindSpecialIfBound?]
  refine wpAny_holding (wpAny_bind (wpAny_bind (wpAny_bind (I.type.here ((PySem.W.looks_findIn X hs).here ?_)))))
  refine wpAny_bind (wpAny_askSetting (wpAny_ite ?_))
  have fin : wpAny M A (call (.builtin "object.__ne__") ([.ref x] ++ args) >>= fun v => pure (some v)) Q E s := wpAny_bind (wpAny_mono h (fun v s' h' => wpAny_pure h') fun _ _ h' => h')
  split
  · exact wpAny_bind (wpAny_of_eq (F.cmp_object.ne.bind _) (wpAny_pure (by exact fin)))
  · exact wpAny_tryCatch (wpAny_bind (wpAny_of_eq (F.cmp_object.ne.bind _) (wpAny_pure (by exact fin))))
theorem rich_ne (hu : A.units + 1 < cLine) (X : K.In s.heap) (I : PySem.W.InstAt s.heap x ox C od) (I' : PySem.W.InstAt s.heap y oy C od') (hm : PySem.W.mroIn K C (.type "object") = some true)
    (hn : PySem.W.findIn K (.ref C) "__ne__" = some (some (.builtin "object.__ne__"))) (hs : PySem.W.findIn K (.ref C) "__eq__" = some (some (.ref f))) (hf : PySem.W.isFn K (.ref f) = true) {Q : Value → Shared → Prop}
    (hcall : wpAny (model prog w) A.in1 (call (.ref f) [.ref x, .ref y]) (fun v s' => ∃ b, v = .bool b ∧ Q (.bool (!b)) s') E s) :
    wpAny (model prog w) A (richCompare .NotEq (.ref x) (.ref y)) Q E s := by
  have one : wpAny (model prog w) A (tryCompare (.ref x) "__ne__" (.ref y)) (fun r s' => ∃ b, r = some (Value.bool b) ∧ Q (.bool b) s') E s := by
    unfold tryCompare
    refine wpAny_bind (ifBound_objNe X I hn (wpAny_call (codeAny_call_builtin F.cmp_object.ne.plain F.cmpEntry_ne (PySem.W.check_slot F.cmpKind_ne F.cmpSplit_ne (I.type.andThen (PySem.W.looks_mroIn X hm)) (F.cmpArgs_ne _ _)
      (entry_ne (A := A.in1) hu X I hs hf (wpAny_mono hcall (fun v s' hv => ?_) fun _ _ e => e))))))
    obtain ⟨b, rfl, hq⟩ := hv
    first | exact ⟨b, rfl, wpAny_pure ⟨_, rfl, hq⟩⟩ | exact ⟨b, rfl, wpAny_pure (wpAny_pure ⟨_, rfl, hq⟩)⟩
  unfold richCompare
  simp only [oneThing_ref]
  refine wpAny_holding (wpAny_bind (wpAny_cRoomFor (Nat.lt_of_succ_lt hu) ?_))
  rw [cmpInfo_NotEq]
  dsimp only
  refine wpAny_bind (I.type.here (wpAny_bind (I'.type.here ?_)))
  rw [show (Value.ref C != Value.ref C) = false from by simp]
  simp only [Bool.false_eq_true, if_false]
  refine wpAny_bind (wpAny_pure ?_)
  simp only [Bool.false_eq_true, if_false]
  refine wpAny_bind (wpAny_mono one (fun v s' hv => ?_) fun _ _ e => e)
  obtain ⟨b, rfl, hq⟩ := hv
  first | exact wpAny_pure hq | exact wpAny_pure (wpAny_pure hq)
end
/-- what is known of a class with an own == -/
structure OwnC (K : PySem.W.Frag) (C f : Addr) : Prop where
  eq : PySem.W.findIn K (.ref C) "__eq__" = some (some (.ref f))
  fn : PySem.W.isFn K (.ref f) = true
  ne : PySem.W.findIn K (.ref C) "__ne__" = some (some (.builtin "object.__ne__"))
  ob : PySem.W.mroIn K C (.type "object") = some true
  sub : PySem.W.notFirst K C (.ref C) = true
def rOwn (C : Addr) (sp : Sp) (E : XK) (neg : Bool) : R2 := fun x y H Q => ∃ a b dx dy fs gs, x = .ref a ∧ y = .ref b ∧ H a = some (.ins C dx fs) ∧ H b = some (.ins C dy gs) ∧ sp [.ref a, .ref b] H (fun v H' => ∃ k, v = .bl k ∧ Q (.bl (neg != k)) H') E
section
variable {X : Cx} {CX : CXT} {n : Nat} {C f : Addr} {fd : FuncData} {ps : List Str} {sp : Sp} {E : XK}
theorem call_own {A : Around} (hr : Room n A) (hA : A.frames = X.A.frames) (F : FnOk X.prog X.w X.K X.mg X.base CX n f fd ps sp) (hb : L2.Binds X.K fd ps []) (hx : Passes CX X E) {pins : List (Addr × Obj)} {σ : L2.St} {H : Hp} {s : Shared} (I : Inv X pins σ H s) {a b : Addr} {Q : VK} (h : sp [.ref a, .ref b] H Q E) :
    wpAny (model X.prog X.w) A (call (.ref f) [.ref a, .ref b]) (EP X pins σ Q) X.xe s := by
  have e0 : Env0 X.prog X.w X.K X.mg X.base A X.stack s H := by
    have e := I.env0
    exact ⟨by rw [hA]; exact e.frames, e.mod, e.bs, e.bsz, e.funs, e.frf, e.hok, e.bare⟩
  have hl := F.len _ _ _ _ h
  have r2 : Vals [V.ref a, V.ref b] [Value.ref a, Value.ref b] := .cons rfl (.cons rfl .nil)
  refine wpAny_call (codeAny_mono (F.run A X.stack s H ⟨[.ref a, .ref b], []⟩ [.ref a, .ref b] [.ref a, .ref b] _ E hr e0 (by
    have := hb s [.ref a, .ref b] I.kIn (by simpa using hl)
    simpa using this) r2 h) fun r s' hq => ?_)
  cases r with
  | error e => exact hx pins σ H s e s' I hq
  | ok fl =>
    cases fl with
    | ret w => exact I.after hq
    | next => exact False.elim hq
    | brk => exact False.elim hq
    | cont => exact False.elim hq
theorem op_ownEq (O : OwnC X.K C f) (hr : Room n X.A) (F : FnOk X.prog X.w X.K X.mg X.base CX n f fd ps sp) (hb : L2.Binds X.K fd ps []) (hx : Passes CX X E) : OpR X (compareOp .Eq) (rOwn C sp E false) := by
  intro pins s σ H x y v u Q I rx ry h
  obtain ⟨a, b, dx, dy, fs, gs, rfl, rfl, ha, hb', hp⟩ := h
  cases rx
  cases ry
  obtain ⟨mA, J, _⟩ := ins_get I.hok ha
  obtain ⟨mB, J', _⟩ := ins_get I.hok hb'
  obtain ⟨od, J, _⟩ := J.look
  obtain ⟨od', J', _⟩ := J'.look
  obtain ⟨m, hF⟩ := I.fr
  show wpAny (model X.prog X.w) X.A (richCompare .Eq (.ref a) (.ref b)) (EP X pins σ Q) X.xe s
  refine PySem.W.cmp_K (op := .Eq) (tb := .ref C) hr.units0 hF I.ok.mod.kin J J'.type O.sub O.eq O.fn ?_
  refine wpAny_mono (call_own hr rfl F hb hx I hp) (fun r s' q => ?_) fun _ _ x => x
  obtain ⟨z, H', I', rz, k, ez, q⟩ := q
  subst ez
  cases rz
  exact ⟨.bl k, H', I', rfl, by simpa using q⟩
theorem op_ownNe (O : OwnC X.K C f) (hr : Room (n + 1) X.A) (F : FnOk X.prog X.w X.K X.mg X.base CX n f fd ps sp) (hb : L2.Binds X.K fd ps []) (hx : Passes CX X E) : OpR X (compareOp .NotEq) (rOwn C sp E true) := by
  intro pins s σ H x y v u Q I rx ry h
  obtain ⟨a, b, dx, dy, fs, gs, rfl, rfl, ha, hb', hp⟩ := h
  cases rx
  cases ry
  obtain ⟨mA, J, _⟩ := ins_get I.hok ha
  obtain ⟨mB, J', _⟩ := ins_get I.hok hb'
  obtain ⟨od, J, _⟩ := J.look
  obtain ⟨od', J', _⟩ := J'.look
  show wpAny (model X.prog X.w) X.A (richCompare .NotEq (.ref a) (.ref b)) (EP X pins σ Q) X.xe s
  refine rich_ne (by have := hr.un; omega) I.kIn J J' O.ob O.ne O.eq O.fn ?_
  refine wpAny_mono (call_own hr.in1 rfl F hb hx I hp) (fun r s' q => ?_) fun _ _ x => x
  obtain ⟨z, H', I', rz, k, ez, q⟩ := q
  subst ez
  cases rz
  exact ⟨k, rfl, .bl (!k), H', I', rfl, by simpa using q⟩
end
end RwT
namespace RW
open PySem PySem.Spec PyProof.Rows L2
theorem o_own {K : PySem.W.Frag} {C : Addr} {G : List Sl → List Dat → Dat → List Dat → Prop} {E : XK} {neg k : Bool} {S : List Dat} {fs gs : List (Str × Dat)} (hg : G [.d (.ins C fs), .d (.ins C gs)] S (.bl k) S) :
    Op2 K (RwT.rOwn C (SpD K G) E neg) (.d (.ins C fs)) (.d (.ins C gs)) S (.bl (neg != k)) := fun B H as v w c r1 r2 Q q => by
  cases r1 with
  | ins h1 q1 =>
    cases r2 with
    | ins h2 q2 =>
      refine ⟨_, _, _, _, _, _, rfl, rfl, c.ex _ _ h1, c.ex _ _ h2, B, as, S, [.d (.ins C fs), .d (.ins C gs)], _, S, c, .cons (Rep.ins h1 q1 : Rep K B _ (.ins C fs)) (.cons (Rep.ins h2 q2 : Rep K B _ (.ins C gs)) .nil), hg, fun v B' H' c' e' r' => ?_⟩
      cases r'
      exact ⟨k, rfl, q _ B' H' c' e' (.bl _)⟩
end RW

set_option Elab.async false
set_option linter.all false
set_option maxRecDepth 100000
set_option maxHeartbeats 4000000
namespace RW
open PySem PySem.Spec PyProof.Rows L2
section
variable {K : PySem.W.Frag} {te ta tb to : TE} {tA : TA} {env : Env1} {S S1 S2 : List Dat} {x y : Sl} {a b acc out : Str} {ts : List TE} {i : Int}
/-! ### texts -/
theorem ev_fmtS (h : Ev K te env S (.d (.str a)) S1) (hl : a.length ≤ sizeLine) : Ev K (tFmt te) env S (.d (.str a)) S1 := fun B H as σ c g Q q =>
  h B H as σ c g _ fun v B1 H1 c1 e1 r1 => by
    cases r1
    exact .inl ⟨a, rfl, hl, q _ B1 H1 c1 e1 (.str a)⟩
theorem ev_fmtI (h : Ev K te env S (.d (.int i)) S1) (hl : i.natAbs.log2 < 1920) : Ev K (tFmt te) env S (.d (.str (Str.ofString (toString i)))) S1 := fun B H as σ c g Q q =>
  h B H as σ c g _ fun v B1 H1 c1 e1 r1 => by
    cases r1
    exact .inr ⟨i, rfl, hl, q _ B1 H1 c1 e1 (.str _)⟩
/-- the parts of an f-string, behind acc -/
def EvJ (K : PySem.W.Frag) (ts : List TE) (env : Env1) (S : List Dat) (acc out : Str) (S' : List Dat) : Prop :=
  ∀ B H as σ, Ok K B H as S → EnvR K B as σ env → ∀ Q : Str → Hp → Prop, (∀ B' H', Ok K B' H' as S' → Evo B H as B' H' → Q out H') → tJs ts acc σ H Q
theorem js_nil : EvJ K [] env S acc acc S := fun B H as σ c g Q q => q B H c Evo.refl
theorem js_cons {t : TE} (h : Ev K t env S (.d (.str a)) S1) (hl : (acc ++ a).length ≤ sizeLine) (k : EvJ K ts env S1 (acc ++ a) out S2) : EvJ K (t :: ts) env S acc out S2 := fun B H as σ c g Q q =>
  h B H as σ c g _ fun v B1 H1 c1 e1 r1 => by
    cases r1
    exact ⟨a, rfl, hl, k B1 H1 as σ c1 (g.mono e1.ex) _ fun B2 H2 c2 e2 => q B2 H2 c2 (e1.trans e2)⟩
theorem ev_joined (h : EvJ K ts env S Str.empty out S1) : Ev K (fun σ H Q => tJs ts Str.empty σ H fun out H1 => Q (.str out) H1) env S (.d (.str out)) S1 := fun B H as σ c g Q q =>
  h B H as σ c g _ fun B1 H1 c1 e1 => q _ B1 H1 c1 e1 (.str out)
/-- str(i) -/
def rStrI : List V → Hp → VK → Prop := fun xs H Q => ∃ i : Int, xs = [.int i] ∧ i.natAbs.log2 < 1920 ∧ Q (.str (Str.ofString (toString i))) H
theorem call_strI {X : Cx} : CallR X (.type "str") rStrI := call_str_int
theorem cd_strI (hl : i.natAbs.log2 < 1920) : CallD K rStrI [.d (.int i)] S (.str (Str.ofString (toString i))) S := fun B H as vs c r Q q => by
  cases r with
  | cons r1 rr =>
    cases rr; cases r1
    exact ⟨i, rfl, hl, q _ B H c Evo.refl (.str _)⟩
def rAddS : R2 := fun x y H Q => ∃ i j, x = V.str i ∧ y = V.str j ∧ i.length + j.length ≤ sizeLine ∧ Q (V.str (i ++ j)) H
theorem op_addS {X : Cx} : OpR X (binaryOp .Add) rAddS := op_add_str
theorem o_addS (hl : a.length + b.length ≤ sizeLine) : Op2 K rAddS (.d (.str a)) (.d (.str b)) S (.str (a ++ b)) := fun B H as v w c r1 r2 Q q => by
  cases r1; cases r2
  exact ⟨a, b, rfl, rfl, hl, q _ B H c Evo.refl (.str _)⟩
theorem Reps.strs {B : Hp} : ∀ {vs : List V} {ys : List Str}, Reps K B vs (ys.map Dat.str) → vs = ys.map V.str
  | _, [], .nil => rfl
  | _, y :: ys, .cons h r => by
    cases h
    rw [List.map_cons, Reps.strs r]
/-- sep.join(xs) -/
def rJoinD (K : PySem.W.Frag) : V → List V → Hp → VK → Prop := fun x xs H Q => ∃ a p ys, x = V.str a ∧ xs = [V.ref p] ∧ (SqL K H p (List.map V.str ys) ∨ SqT K H p (List.map V.str ys)) ∧ (List.map (fun x => x.length) ys).sum + ys.length * a.length ≤ 16777216 ∧ Q (V.str (Txt.join a ys)) H
theorem pe_joinK {X : Cx} (K : PySem.W.Frag) {o e : Expr} {to te : TE} {apos pos : Pos} (ho : PE X o to) (he : PE X e te) (hK : X.K = K := by rfl) (hs : starEach [e] X.env = [(false, eval e X.env)] := by rfl)
    (hb : attributeBase o (Str.ofString "join") X.env (eval o X.env) = eval o X.env := by rfl) (hl : (apos.endLine == pos.line) = true := by rfl) : PE X ((o.Attribute (Str.ofString "join") apos).Call [e] [] pos) (tM1 (rJoinD K) to te) := hK ▸ pe_join ho he hs hb hl
theorem ev_join {ys : List Str} (ho : Ev K to env S (.d (.str a)) S1) (h : Ev K te env S1 x S2) (hx : SeqL S2 x (ys.map Dat.str)) (hl : (ys.map fun x => x.length).sum + ys.length * a.length ≤ 16777216) : Ev K (tM1 (rJoinD K) to te) env S (.d (.str (Txt.join a ys))) S2 := fun B H as σ c g Q q =>
  ho B H as σ c g _ fun v B1 H1 c1 e1 r1 => by
    cases r1
    refine ⟨⟨a, rfl⟩, h B1 H1 as σ c1 (g.mono e1.ex) _ fun w B2 H2 c2 e2 r2 => ?_⟩
    obtain ⟨p, ws, rfl, hq, hr⟩ := hx.read c2 r2
    rw [hr.strs] at hq
    exact ⟨a, p, ys, rfl, rfl, .inl (Evl.sq_of hq), hl, q _ B2 H2 c2 (e1.trans e2) (.str _)⟩
end
end RW

namespace RwT
open PySem PySem.Spec PyProof.Rows L2
/-- str(o), o of an own class with a __str__ -/
def rStrO (C : Addr) (sp : Sp) (E : XK) : List V → Hp → VK → Prop := fun xs H Q => ∃ a dx fs, xs = [.ref a] ∧ H a = some (.ins C dx fs) ∧ sp [.ref a] H (fun v H' => ∃ t, v = .str t ∧ Q (.str t) H') E
section
variable {X : Cx} {CX : CXT} {n : Nat} {C f : Addr} {fd : FuncData} {ps : List Str} {sp : Sp} {E : XK}
theorem call_own1 {A : Around} (hr : Room n A) (hA : A.frames = X.A.frames) (F : FnOk X.prog X.w X.K X.mg X.base CX n f fd ps sp) (hb : L2.Binds X.K fd ps []) (hx : Passes CX X E) {pins : List (Addr × Obj)} {σ : L2.St} {H : Hp} {s : Shared} (I : Inv X pins σ H s) {a : Addr} {Q : VK} (h : sp [.ref a] H Q E) :
    wpAny (model X.prog X.w) A (call (.ref f) [.ref a]) (EP X pins σ Q) X.xe s := by
  have e0 : Env0 X.prog X.w X.K X.mg X.base A X.stack s H := by
    have e := I.env0
    exact ⟨by rw [hA]; exact e.frames, e.mod, e.bs, e.bsz, e.funs, e.frf, e.hok, e.bare⟩
  have hl := F.len _ _ _ _ h
  have r2 : Vals [V.ref a] [Value.ref a] := .cons rfl .nil
  refine wpAny_call (codeAny_mono (F.run A X.stack s H ⟨[.ref a], []⟩ [.ref a] [.ref a] _ E hr e0 (by
    have := hb s [.ref a] I.kIn (by simpa using hl)
    simpa using this) r2 h) fun r s' hq => ?_)
  cases r with
  | error e => exact hx pins σ H s e s' I hq
  | ok fl =>
    cases fl with
    | ret w => exact I.after hq
    | next => exact False.elim hq
    | brk => exact False.elim hq
    | cont => exact False.elim hq
theorem call_strO (hs : PySem.W.findIn X.K (.ref C) "__str__" = some (some (.ref f))) (hf : PySem.W.isFn X.K (.ref f) = true) (hr : Room (n + 2) X.A) (F : FnOk X.prog X.w X.K X.mg X.base CX n f fd ps sp) (hb : L2.Binds X.K fd ps []) (hx : Passes CX X E) : CallR X (.type "str") (rStrO C sp E) := by
  intro pins s σ H xs us Q I r h
  obtain ⟨a, dx, fs, rfl, ha, hp⟩ := h
  obtain ⟨u, rfl, r1⟩ := vals1 r
  cases r1
  obtain ⟨mA, J, _⟩ := ins_get I.hok ha
  obtain ⟨od, J, _⟩ := J.look
  have hr2 : Room n X.A.in1.in1 := (show Room (n + 1) X.A.in1 from Room.in1 hr).in1
  refine PySem.W.kso_call (by have := hr2.un; omega) I.kIn J hs hf ?_
  refine wpAny_mono (call_own1 hr2 rfl F hb hx I hp) (fun r s' q => ?_) fun _ _ x => x
  obtain ⟨z, H', I', rz, t, ez, q⟩ := q
  subst ez
  obtain ⟨tk, rfl⟩ := rz
  exact ⟨.str t, H', I', ⟨tk, rfl⟩, q⟩
end
end RwT
namespace RW
open PySem PySem.Spec PyProof.Rows L2
theorem cd_strO {K : PySem.W.Frag} {C : Addr} {G : List Sl → List Dat → Dat → List Dat → Prop} {E : XK} {S : List Dat} {fs : List (Str × Dat)} {t : Str} (hg : G [.d (.ins C fs)] S (.str t) S) :
    CallD K (RwT.rStrO C (SpD K G) E) [.d (.ins C fs)] S (.str t) S := fun B H as vs c r Q q => by
  cases r with
  | cons r1 rr =>
    cases rr
    cases r1 with
    | ins h1 q1 =>
      refine ⟨_, _, _, rfl, c.ex _ _ h1, B, as, S, [.d (.ins C fs)], _, S, c, .cons (Rep.ins h1 q1 : Rep K B _ (.ins C fs)) .nil, hg, fun v B' H' c' e' r' => ?_⟩
      cases r'
      exact ⟨t, rfl, q _ B' H' c' e' (.str _)⟩
end RW

set_option Elab.async false
set_option linter.all false
set_option maxRecDepth 100000
set_option maxHeartbeats 4000000
namespace RW
open PySem PySem.Spec PyProof.Rows L2
/-! rules inside comprehensions, with K given -/
theorem cr_sumK {X : Cx} (K : PySem.W.Frag) (hc : X.calm = true := by rfl) (h : X.K = K := by rfl) : CallR X (.builtin "sum") (rSum K) := h ▸ cr_sum hc
theorem cr_allK {X : Cx} (K : PySem.W.Frag) (hc : X.calm = true := by rfl) (h : X.K = K := by rfl) : CallR X (.builtin "all") (rAll K) := h ▸ cr_all hc
theorem cr_anyK {X : Cx} (K : PySem.W.Frag) (hc : X.calm = true := by rfl) (h : X.K = K := by rfl) : CallR X (.builtin "any") (rAny K) := h ▸ cr_any hc
theorem pi_zipGK {X : Cx} (K : PySem.W.Frag) {e e2 : Expr} {ta : TA} {p pos tpos : Pos} {elts : List Expr} {kk : Nat} (hg : Gl X "zip") (hm : X.mg "zip" = none) (ha : PA X [e, e2] ta) (h : X.K = K := by rfl)
    (hs : starEach [e, e2] X.env = (false, eval e X.env) :: starEach [e2] X.env := by rfl) (hpl : (backTo pos (starEach [e2] X.env)).any (·.1) = false := by rfl) :
    PI X (.Tuple elts kk tpos) (.Call (.Name "zip" p) [e, e2] [] pos) (iZipG K ta) := h ▸ pi_zipG hg hm ha hs hpl
theorem op_eqDK {X : Cx} (K : PySem.W.Frag) (hu : X.A.units + 64 < cLine) (h : X.K = K := by rfl) : OpR X (compareOp .Eq) (rEqD K) := h ▸ op_eqD hu
theorem op_neDK {X : Cx} (K : PySem.W.Frag) (hu : X.A.units + 64 < cLine) (h : X.K = K := by rfl) : OpR X (compareOp .NotEq) (rNeD K) := h ▸ op_neD hu
theorem EvN.toD {K : PySem.W.Frag} {te : TE} {env : Env1} {S S1 ds ds' : List Dat} (h : EvN K te env S ds S1) (e : ds = ds') : EvN K te env S ds' S1 := e ▸ h
theorem Ev.to' {K : PySem.W.Frag} {te : TE} {env : Env1} {S S1 S1' : List Dat} {r r' : Sl} (h : Ev K te env S r S1) (e : r = r') (e2 : S1 = S1') : Ev K te env S r' S1' := e ▸ e2 ▸ h
theorem sl_tupAK {X : Cx} (K : PySem.W.Frag) (h : X.K = K := by rfl) : SlR X (rSlA K) := h ▸ sl_tupA
theorem sl_listK {X : Cx} (K : PySem.W.Frag) (h : X.K = K := by rfl) : SlR X (rSlL K) := h ▸ sl_list
end RW

set_option Elab.async false
set_option linter.all false
set_option maxRecDepth 100000
set_option maxHeartbeats 4000000
/-! an own == beside whatever stands on its right -/
namespace RwT
open PySem PySem.Spec PyProof.Rows L2
inductive TyB (K : PySem.W.Frag) (H : Hp) : V → Value → Prop where
  | non : TyB K H .non (.type "NoneType")
  | int (i : Int) : TyB K H (.int i) (.type "int")
  | bl (b : Bool) : TyB K H (.bl b) (.type "bool")
  | str (z : Str) : TyB K H (.str z) (.type "str")
  | tup {a : Addr} {xs : List V} (h : SqT K H a xs) : TyB K H (.ref a) (.type "tuple")
  | ins {a C dx : Addr} {fs : List (Str × V)} (h : H a = some (.ins C dx fs)) : TyB K H (.ref a) (.ref C)
def rOwnA (K : PySem.W.Frag) (C : Addr) (sp : Sp) (E : XK) : R2 := fun x y H Q => ∃ a dx fs tb, x = .ref a ∧ H a = some (.ins C dx fs) ∧ TyB K H y tb ∧ PySem.W.notFirst K C tb = true ∧ sp [.ref a, y] H (fun v H' => ∃ k, v = .bl k ∧ Q (.bl k) H') E
section
variable {X : Cx} {CX : CXT} {n : Nat} {C f : Addr} {fd : FuncData} {ps : List Str} {sp : Sp} {E : XK}
theorem tyB_looks {M : Model} {pins : List (Addr × Obj)} {σ : L2.St} {H : Hp} {s : Shared} {y : V} {u tb : Value} (I : Inv X pins σ H s) (ry : RelV y u) (t : TyB X.K H y tb) : PySem.W.Looks M s.heap (typeOf u) tb := by
  cases t with
  | non => cases (show u = Value.none from ry); exact .of_pure rfl
  | int i => obtain ⟨tk, rfl⟩ := (show ∃ tk, u = Value.int i tk from ry); exact .of_pure rfl
  | bl b => cases (show u = Value.bool b from ry); exact .of_pure rfl
  | str z => obtain ⟨tk, rfl⟩ := (show ∃ tk, u = Value.str z tk from ry); exact .of_pure rfl
  | tup h =>
    cases (show u = Value.ref _ from ry)
    obtain ⟨its, rv, ⟨o, e, c, _⟩, _⟩ := I.tuple h
    exact c ▸ (PySem.W.Looks.ld e).andThen .now
  | ins h =>
    cases (show u = Value.ref _ from ry)
    obtain ⟨mA, J, _⟩ := ins_get I.hok h
    obtain ⟨od, J, _⟩ := J.look
    exact J.type
theorem call_ownV {A : Around} (hr : Room n A) (hA : A.frames = X.A.frames) (F : FnOk X.prog X.w X.K X.mg X.base CX n f fd ps sp) (hb : L2.Binds X.K fd ps []) (hx : Passes CX X E) {pins : List (Addr × Obj)} {σ : L2.St} {H : Hp} {s : Shared} (I : Inv X pins σ H s) {a : Addr} {y : V} {u : Value} (ry : RelV y u) {Q : VK} (h : sp [.ref a, y] H Q E) :
    wpAny (model X.prog X.w) A (call (.ref f) [.ref a, u]) (EP X pins σ Q) X.xe s := by
  have e0 : Env0 X.prog X.w X.K X.mg X.base A X.stack s H := by
    have e := I.env0
    exact ⟨by rw [hA]; exact e.frames, e.mod, e.bs, e.bsz, e.funs, e.frf, e.hok, e.bare⟩
  have hl := F.len _ _ _ _ h
  have r2 : Vals [V.ref a, y] [Value.ref a, u] := .cons rfl (.cons ry .nil)
  refine wpAny_call (codeAny_mono (F.run A X.stack s H ⟨[.ref a, u], []⟩ [.ref a, u] [.ref a, y] _ E hr e0 (by
    have := hb s [.ref a, u] I.kIn (by simpa using hl)
    simpa using this) r2 h) fun r s' hq => ?_)
  cases r with
  | error e => exact hx pins σ H s e s' I hq
  | ok fl =>
    cases fl with
    | ret w => exact I.after hq
    | next => exact False.elim hq
    | brk => exact False.elim hq
    | cont => exact False.elim hq
theorem op_ownEqA (O : OwnC X.K C f) (hr : Room n X.A) (F : FnOk X.prog X.w X.K X.mg X.base CX n f fd ps sp) (hb : L2.Binds X.K fd ps []) (hx : Passes CX X E) : OpR X (compareOp .Eq) (rOwnA X.K C sp E) := by
  intro pins s σ H x y v u Q I rx ry h
  obtain ⟨a, dx, fs, tb, rfl, ha, ty, hn, hp⟩ := h
  cases rx
  obtain ⟨mA, J, _⟩ := ins_get I.hok ha
  obtain ⟨od, J, _⟩ := J.look
  obtain ⟨m, hF⟩ := I.fr
  show wpAny (model X.prog X.w) X.A (richCompare .Eq (.ref a) u) (EP X pins σ Q) X.xe s
  refine PySem.W.cmp_K (op := .Eq) (tb := tb) hr.units0 hF I.ok.mod.kin J (tyB_looks I ry ty) hn O.eq O.fn ?_
  refine wpAny_mono (call_ownV hr rfl F hb hx I ry hp) (fun r s' q => ?_) fun _ _ x => x
  obtain ⟨z, H', I', rz, k, ez, q⟩ := q
  subst ez
  cases rz
  exact ⟨.bl k, H', I', rfl, by simpa using q⟩
theorem op_ownEqAK {K : PySem.W.Frag} (O : OwnC X.K C f) (hr : Room n X.A) (F : FnOk X.prog X.w X.K X.mg X.base CX n f fd ps sp) (hb : L2.Binds X.K fd ps []) (hx : Passes CX X E) (h : X.K = K := by rfl) : OpR X (compareOp .Eq) (rOwnA K C sp E) := h ▸ op_ownEqA O hr F hb hx
end
end RwT
namespace RW
open PySem PySem.Spec PyProof.Rows L2
/-- what is known of the kinds on the right -/
structure NotSub (K : PySem.W.Frag) (C : Addr) : Prop where
  non : PySem.W.notFirst K C (.type "NoneType") = true
  int : PySem.W.notFirst K C (.type "int") = true
  tup : PySem.W.notFirst K C (.type "tuple") = true
  self : PySem.W.notFirst K C (.ref C) = true
theorem kt_of {K : PySem.W.Frag} {C : Addr} {N : String} (h1 : PySem.W.isClsIn K C = true) (h2 : PySem.W.typeIn K (.ref C) = some (.type "type")) (h3 : PySem.W.subIn K (.type N) (.ref C) = some false) : PySem.W.kitOne K (.type N) (.ref C) = some false := by
  unfold PySem.W.kitOne
  rw [if_neg (by simp)]
  show (if ((PySem.W.clsIn K C).isSome && PySem.W.typeIn K (.ref C) == some (.type "type")) = true then _ else _) = _
  have h4 : (PySem.W.clsIn K C).isSome = true := h1
  rw [h4, h2, if_pos (by simp), h3]
inductive RightD (C : Addr) : Dat → Prop where
  | non : RightD C .non
  | int (i : Int) : RightD C (.int i)
  | tup (ds : List Dat) : RightD C (.tup ds)
  | ins (fs : List (Str × Dat)) : RightD C (.ins C fs)
theorem o_ownA {K : PySem.W.Frag} {C : Addr} {G : List Sl → List Dat → Dat → List Dat → Prop} {E : XK} {k : Bool} {S : List Dat} {fs : List (Str × Dat)} {d : Dat} (N : NotSub K C) (hd : RightD C d) (hg : G [.d (.ins C fs), .d d] S (.bl k) S) :
    Op2 K (RwT.rOwnA K C (SpD K G) E) (.d (.ins C fs)) (.d d) S (.bl k) := fun B H as v w c r1 r2 Q q => by
  cases r1 with
  | ins h1 q1 =>
    have fin : ∀ tb, RwT.TyB K H w tb → PySem.W.notFirst K C tb = true → RwT.rOwnA K C (SpD K G) E (.ref _) w H Q := fun tb ty hn =>
      ⟨_, _, _, tb, rfl, c.ex _ _ h1, ty, hn, B, as, S, [.d (.ins C fs), .d d], _, S, c, .cons (Rep.ins h1 q1 : Rep K B _ (.ins C fs)) (.cons r2 .nil), hg, fun v B' H' c' e' r' => by cases r'; exact ⟨k, rfl, q _ B' H' c' e' (.bl _)⟩⟩
    cases hd with
    | non => cases r2; exact fin _ .non N.non
    | int i => cases r2; exact fin _ (.int i) N.int
    | tup ds => cases r2 with
      | tup h2 _ => exact fin _ (.tup (Evl.ex_t c.ex h2)) N.tup
    | ins gs => cases r2 with
      | ins h2 _ => exact fin _ (.ins (c.ex _ _ h2)) N.self
end RW

set_option Elab.async false
set_option linter.all false
set_option maxRecDepth 100000
set_option maxHeartbeats 4000000
namespace RW
open PySem PySem.Spec PyProof.Rows L2 StX
theorem RepSs.mapd {K : PySem.W.Frag} {B : Hp} {as : List Addr} : ∀ {vs : List V} {ds : List Dat}, Reps K B vs ds → RepSs K B as vs (ds.map Sl.d)
  | _, _, .nil => .nil
  | _, _, .cons h r => .cons h (RepSs.mapd r)
/-- *xs in a display, xs a tuple -/
theorem ea_star {K : PySem.W.Frag} {te : TE} {tA : TA} {env : Env1} {S S1 S2 : List Dat} {ds : List Dat} {xs : List Sl} (h : Ev K te env S (.d (.tup ds)) S1) (hr : EvA K tA env S1 xs S2) : EvA K (tStar K te tA) env S (ds.map Sl.d ++ xs) S2 := fun B H as σ c g Q q =>
  h B H as σ c g _ fun v B1 H1 c1 e1 r1 => by
    cases r1 with
    | tup h1 q1 => exact ⟨_, _, rfl, .inl (Evl.ex_t c1.ex h1), hr B1 H1 as σ c1 (g.mono e1.ex) _ fun vs B2 H2 c2 e2 r2 => q _ B2 H2 c2 (e1.trans e2) ((RepSs.mapd (q1.mono e2.ex)).append r2)⟩
end RW

set_option Elab.async false
set_option linter.all false
set_option maxRecDepth 100000
set_option maxHeartbeats 4000000
namespace RW
open PySem PySem.Spec PyProof.Rows L2
open Evl (Ex)
section
variable {K : PySem.W.Frag} {n : Nat} {te ta tb tc to ti tv : TE} {env env' : Env1} {S S1 S2 S3 : List Dat} {x y z : Sl} {d e : Dat} {ds es : List Dat} {P P' : Post} {t u : TS}
  {B B0 B1 B2 B' H H0 H1 H2 H' : Hp} {as as0 as1 : List Addr} {D : Ends} {σ : L2.St} {j k : Nat}
/-- (y, xs) with xs a new list that will be changed -/
theorem sp_pairVC (hv : Ev K ta env S y S1) (h : EvN K tb env S1 ds S2) (q : SP K n u ((env.set j (some y)).set k (some (.c S2.length))) (S2 ++ [.lst ds]) P) :
    SP K n (tSeq (tAsg (tTup (tCons ta (tCons tb tNil))) (gTup K 2 (gCons (gName j) (gCons (gName k) gNil)))) u) env S P := fun B0 H0 as0 Bk B H as σ hl f c g D m =>
  hv B H as σ c g _ fun w B1 H1 c1 e1 r1 => h B1 H1 as σ c1 (g.mono e1.ex) _ fun p B2 H2 vs c2 e2 hp hb h2 r2 => ⟨by show 2 ≤ sizeLine; decide, fun t ht => by
    have hpa : p ∉ as := c1.fresh hp
    have c3 := c2.new (o := .tup [w, .ref p]) ht
    have e3 := Evo.new (o := .tup [w, .ref p]) c2 ht
    have e03 := (e1.trans e2).trans e3
    have npt : p ≠ t := by rintro rfl; rw [ht] at h2; cases h2
    refine ⟨t, _, rfl, Evl.st_of upd_same, rfl, _, _, rfl, _, _, rfl, rfl, ?_⟩
    refine q B0 H0 as0 Bk _ _ (as ++ [p]) _ hl ((f.step e03).push (f.evo.old (e1.old hp))) (c3.push (by rw [upd_ne npt]; exact hb) hpa (.ofL (by rw [upd_ne npt]; exact h2) (r2.mono e3.ex))) ((((g.mono e03.ex).grow).set j (((r1.mono e2.ex).mono e3.ex).grow)).set (s := .c S2.length) k ?_) D m
    exact ⟨p, by rw [← c2.len]; simp, rfl⟩⟩
/-- xs[i] = e, last of its block -/
theorem sp_setitem1 {j : Nat} {iv : Int} (h : Ev K te env S (.d d) S1) (ho : Ev K to env S1 (.c k) S2) (hi : Ev K ti env S2 (.d (.int iv)) S3) (hs : S3[k]? = some (.lst ds)) (hj : ixN ds.length iv = some j) (q : P.nx env (S3.set k (.lst (ds.set j d)))) :
    SP K n (tAsg te (gSub to ti rSetL)) env S P := fun B0 H0 as0 Bk B H as σ hl f c g D m =>
  h B H as σ c g _ fun v B1 H1 c1 e1 r1 => ho B1 H1 as σ c1 (g.mono e1.ex) _ fun w B2 H2 c2 e2 r2 => hi B2 H2 as σ c2 (g.mono (e1.trans e2).ex) _ fun w3 B3 H3 c3 e3 r3 => by
    obtain ⟨p, hp, rfl⟩ := r2
    cases r3
    obtain ⟨vs, hv, rv⟩ := (c3.cells k p _ hp hs).2.lst
    have e03 := ((e1.trans e2).trans e3).trans (Evo.setc (o := .lst (vs.set j v)) (List.mem_of_getElem? hp) hv (fun _ z => nomatch z))
    exact ⟨p, vs, iv, j, rfl, rfl, hv, by rw [rv.length]; exact hj, m.nx _ _ B3 _ as σ (f.step e03) (c3.setc hp (show CellO K B3 (.lst _) (.lst _) from Reps.set j (Rep.mono (e2.trans e3).ex r1) rv)) (g.mono e03.ex) q⟩
theorem reps_ints : ∀ ns : List Int, Reps K B (ns.map V.int) (ns.map Dat.int)
  | [] => .nil
  | i :: r => .cons (.int i) (reps_ints r)
theorem reps_rg {a b : Int} : Reps K B (rgV a b) ((List.range (b - a).toNat).map fun i => Dat.int (a + (i : Nat))) := by
  have := reps_ints (K := K) (B := B) ((List.range (b - a).toNat).map fun i => a + ((i : Nat) : Int))
  rw [List.map_map, List.map_map] at this
  exact this
/-- list(range(m)) -/
theorem en_rg1 {m : Nat} (h : Ev K te env S (.d (.int m)) S1) (hm : m ≤ 1000) : EvN K (tLstRg (tRg1 te)) env S ((List.range m).map fun i => Dat.int (i : Nat)) S1 := fun B H as σ c g Q q =>
  h B H as σ c g _ fun v B1 H1 c1 e1 r1 => by
    cases r1
    have e : ((List.range m).map fun i => Dat.int (i : Nat)) = (List.range ((m : Int) - 0).toNat).map fun i => Dat.int (0 + (i : Nat)) := by
      rw [show ((m : Int) - 0).toNat = m by omega]
      exact List.map_congr_left fun i _ => by rw [Int.zero_add]
    rw [e] at q
    exact ⟨_, rfl, RgOk.of_le (by omega) (by omega) (by omega) (by omega), fun p hp => evn_new c c1 e1 hp reps_rg q⟩
/-- list(range(a, a + k)) -/
theorem en_rg2 {a k : Nat} {b : Int} (h : Ev K ta env S (.d (.int a)) S1) (hb : Ev K tb env S1 (.d (.int b)) S2) (e : b = (a : Int) + (k : Nat)) (hm : a + k ≤ 1000) : EvN K (tLstRg (tRg2 ta tb)) env S ((List.range' a k).map fun i => Dat.int (i : Nat)) S2 := fun B H as σ c g Q q =>
  h B H as σ c g _ fun v B1 H1 c1 e1 r1 => hb B1 H1 as σ c1 (g.mono e1.ex) _ fun w B2 H2 c2 e2 r2 => by
    cases r1
    cases r2
    have e : ((List.range' a k).map fun i => Dat.int (i : Nat)) = (List.range (b - (a : Int)).toNat).map fun i => Dat.int ((a : Int) + (i : Nat)) := by
      rw [show (b - (a : Int)).toNat = k by omega, List.range'_eq_map_range, List.map_map]
      exact List.map_congr_left fun i _ => by show Dat.int ((a + i : Nat) : Int) = _; rw [Int.natCast_add]
    rw [e] at q
    exact ⟨_, _, rfl, rfl, RgOk.of_le (by omega) (by omega) (by omega) (by omega), fun p hp => evn_new c c2 (e1.trans e2) hp reps_rg q⟩
end
end RW

set_option Elab.async false
set_option linter.all false
set_option maxRecDepth 100000
set_option maxHeartbeats 4000000
namespace RwS
open PySem PySem.Spec PyProof.Rows L2
/-! ### rows of integers, in Python's order -/
def lx : List Int → List Int → Bool
  | a :: r, b :: q => decide (a < b) || (decide (a = b) && lx r q)
  | _, _ => false
theorem lx_cons {a b : Int} {r q : List Int} : lx (a :: r) (b :: q) = true ↔ a < b ∨ (a = b ∧ lx r q = true) := by
  show (decide (a < b) || (decide (a = b) && lx r q)) = true ↔ _
  simp
theorem lx_eq {p : Int} {r q : List Int} : lx (p :: r) (p :: q) = lx r q := by
  show (decide (p < p) || (decide (p = p) && lx r q)) = _
  simp
theorem lx_ne {p u : Int} {r q : List Int} (e : p ≠ u) : lx (p :: r) (u :: q) = decide (p < u) := by
  show (decide (p < u) || (decide (p = u) && lx r q)) = _
  simp [e]
theorem lx_irr : ∀ r : List Int, lx r r = false
  | [] => rfl
  | a :: r => by
    cases h : lx (a :: r) (a :: r) with
    | false => rfl
    | true =>
      rcases lx_cons.mp h with z | ⟨_, z⟩
      · omega
      · rw [lx_irr r] at z; cases z
theorem lx_trans : ∀ {x y z : List Int}, lx x y = true → lx y z = true → lx x z = true
  | a :: r, b :: q, c :: t, h1, h2 => by
    rcases lx_cons.mp h1 with p | ⟨p, p'⟩ <;> rcases lx_cons.mp h2 with q' | ⟨q', q''⟩
    · exact lx_cons.mpr (.inl (by omega))
    · exact lx_cons.mpr (.inl (by omega))
    · exact lx_cons.mpr (.inl (by omega))
    · exact lx_cons.mpr (.inr ⟨by omega, lx_trans p' q''⟩)
  | [], _, _, h1, _ => by simp [lx] at h1
  | _ :: _, [], _, h1, _ => by simp [lx] at h1
  | _ :: _, _ :: _, [], _, h2 => by simp [lx] at h2
theorem lx_tri : ∀ {x y : List Int}, x.length = y.length → lx x y = true ∨ x = y ∨ lx y x = true
  | [], [], _ => .inr (.inl rfl)
  | a :: r, b :: q, h => by
    rcases Int.lt_trichotomy a b with z | z | z
    · exact .inl (lx_cons.mpr (.inl z))
    · subst z
      rcases lx_tri (x := r) (y := q) (by simpa using h) with w | w | w
      · exact .inl (lx_cons.mpr (.inr ⟨rfl, w⟩))
      · exact .inr (.inl (by rw [w]))
      · exact .inr (.inr (lx_cons.mpr (.inr ⟨rfl, w⟩)))
    · exact .inr (.inr (lx_cons.mpr (.inl z)))
  | [], _ :: _, h => by simp at h
  | _ :: _, [], h => by simp at h
def rk (L : List (List Int)) (x : List Int) : Nat := (L.filter fun y => lx y x).length
theorem filt_le {α : Type} (p q : α → Bool) : ∀ L : List α, (∀ y ∈ L, p y = true → q y = true) → (L.filter p).length ≤ (L.filter q).length
  | [], _ => Nat.le_refl _
  | a :: L, h => by
    have ih := filt_le p q L fun y hy => h y (List.mem_cons_of_mem _ hy)
    rw [List.filter_cons, List.filter_cons]
    cases hp : p a with
    | true => rw [h a List.mem_cons_self hp]; simpa using ih
    | false =>
      cases q a with
      | true => simp; omega
      | false => simpa using ih
theorem filt_lt {α : Type} (p q : α → Bool) : ∀ L : List α, (∀ y ∈ L, p y = true → q y = true) → (∃ y ∈ L, p y = false ∧ q y = true) → (L.filter p).length < (L.filter q).length
  | [], _, h => by obtain ⟨y, hy, _⟩ := h; cases hy
  | a :: L, h, he => by
    have hL : ∀ y ∈ L, p y = true → q y = true := fun y hy => h y (List.mem_cons_of_mem _ hy)
    have le := filt_le p q L hL
    rw [List.filter_cons, List.filter_cons]
    obtain ⟨y, hy, h1, h2⟩ := he
    rcases List.mem_cons.mp hy with rfl | hy
    · rw [h1, h2]; simp; omega
    · have ih := filt_lt p q L hL ⟨y, hy, h1, h2⟩
      cases hp : p a with
      | true => rw [h a List.mem_cons_self hp]; simpa using ih
      | false =>
        cases q a with
        | true => simp; omega
        | false => simpa using ih
theorem rk_lt {L : List (List Int)} {x y : List Int} (hx : x ∈ L) (hl : x.length = y.length) : lx x y = true ↔ rk L x < rk L y := by
  constructor
  · intro h
    exact filt_lt _ _ L (fun z _ hz => lx_trans hz h) ⟨x, hx, lx_irr x, h⟩
  · intro h
    rcases lx_tri hl with z | z | z
    · exact z
    · subst z; omega
    · have := filt_le (fun w => lx w y) (fun w => lx w x) L fun w _ hw => lx_trans hw z
      unfold rk at h
      omega
section
variable {prog : Program} {w : World} {A : Around} {E : Value → Shared → Prop} {s : Shared}
theorem lex_go {Q : Bool → Shared → Prop} {b : Bool} : ∀ {xs ys : List Value} {ns ms : List Int} (i : Nat), IntsAre xs ns → IntsAre ys ms → ns.length = ms.length → Q (lx ns ms) s → PySem.W.KatLex prog w A b false Q (xs.zip ys) i s
  | _, _, _, _, i, .nil, .nil, _, h => PySem.W.kat_nil h
  | _, _, _, _, i, .cons p t hx, .cons q u hy, hl, h => by
    refine PySem.W.kat_cons (wpAny_eqBool_int ?_)
    by_cases e : p = q
    · subst e
      rw [beq_self_eq_true]
      refine PySem.W.kat_yes (lex_go (i + 1) hx hy (by simpa using hl) ?_)
      rw [lx_eq] at h
      exact h
    · rw [show (p == q) = false from beq_eq_false_iff_ne.mpr e]
      refine PySem.W.kat_no (TS.oneLt_ints _ ?_)
      rw [lx_ne e] at h
      exact h
  | _, _, _, _, _, .nil, .cons _ _ _, hl, _ => by simp at hl
  | _, _, _, _, _, .cons _ _ _, .nil, hl, _ => by simp at hl
def Tups (h : Heap) (d : Nat) (vs : List Value) : Prop := ∀ v ∈ vs, ∃ ns, TS.TupInts h v ns ∧ ns.length = d
theorem Tups.keeps {h h' : Heap} {d : Nat} {vs : List Value} (x : Tups h d vs) (k : ∀ b o, h.get? b = some o → o.cls = .type "tuple" → h'.get? b = some o) : Tups h' d vs := fun v hv => by
  obtain ⟨ns, t, l⟩ := x v hv
  exact ⟨ns, t.keeps k, l⟩
theorem firsts {h : Heap} {d : Nat} (hd : 1 ≤ d) : ∀ vs : List Value, Tups h d vs → ∃ fs, PySem.W.KatTups h vs fs ∧ fs.length = vs.length ∧ ∀ f ∈ fs, ∃ n t, f = Value.int n t
  | [], _ => ⟨[], PySem.W.KatTups.nil, rfl, fun f hf => by cases hf⟩
  | v :: vs, x => by
    obtain ⟨fs, k, l, z⟩ := firsts hd vs fun u hu => x u (List.mem_cons_of_mem _ hu)
    obtain ⟨ns, ⟨a, xs, rfl, ⟨o, ho, hc, n, hdt⟩, i⟩, hl⟩ := x v List.mem_cons_self
    cases hx : xs.toList with
    | nil => rw [hx] at i; cases i; simp at hl; omega
    | cons u us =>
      rw [hx] at i
      cases i with
      | cons m t i =>
        refine ⟨.int m t :: fs, ?_, by simp [l], fun f hf => ?_⟩
        · exact ⟨⟨a, o, xs, n, rfl, ho, hc, hdt, by rw [← Array.getElem?_toList, hx]; rfl⟩, k⟩
        · rcases List.mem_cons.mp hf with rfl | hf
          · exact ⟨m, t, rfl⟩
          · exact z f hf
/-- what sorting is told of a list of tuples of d integers -/
theorem kind_go {d : Nat} {vs : List Value} (hd : 1 ≤ d) (h2 : 2 ≤ vs.length) (x : Tups s.heap d vs) (r : Value → Int)
    (hr : ∀ u ∈ vs, ∀ v ∈ vs, ∀ ns ms, TS.TupInts s.heap u ns → TS.TupInts s.heap v ms → (lx ns ms = true ↔ r u < r v))
    (Q : SortKind → Shared → Prop) (h : ∀ κ, TS.Cmp prog w A s κ (pairsOf vs) r → Q κ s) : wpAny (model prog w) A (keyKind' vs.toArray) Q E s := by
  obtain ⟨fs, k, hl, hi⟩ := firsts hd vs x
  refine PySem.W.kat_kind (T := .type "int") k (by omega) (fun f hf => ?_) rfl (h _ fun p q hp hq Q' E' hQ => ?_)
  · obtain ⟨n, t, rfl⟩ := hi f hf
    exact .of_pure rfl
  · rw [pairsOf_toList] at hp hq
    have mp := (mem_zip_self hp).2
    have mq := (mem_zip_self hq).2
    obtain ⟨ns, tp, lp⟩ := x p.1 mp
    obtain ⟨ms, tq, lq⟩ := x q.1 mq
    have hlt : decide (r p.1 < r q.1) = lx ns ms := by
      have := hr p.1 mp q.1 mq ns ms tp tq
      cases e : lx ns ms with
      | true => exact decide_eq_true (this.mp e)
      | false => exact decide_eq_false fun z => by rw [this.mpr z] at e; cases e
    rw [hlt] at hQ
    obtain ⟨a, xs, e1, ⟨o, ho, hc, n, hdt⟩, i1⟩ := tp
    obtain ⟨b, ys, e2, ⟨o', ho', hc', n', hdt'⟩, i2⟩ := tq
    rw [e1, e2]
    have hs : xs.size = ys.size := by
      have := i1.length
      have := i2.length
      simp at *
      omega
    refine PySem.W.kat_lt ho hdt ho' hdt' ?_
    rw [hs, decide_eq_false (Nat.lt_irrefl _)]
    exact lex_go 0 i1 i2 (by omega) hQ
/-- xs.sort() -/
theorem sort_go {a : Addr} {vs : List Value} {n d : Nat} {P : Fin → Shared → Prop} (ho : s.heap.get? a = some (seqObj "list" vs.toArray n)) (h64 : vs.length < 64) (hd : 1 ≤ d) (x : Tups s.heap d vs)
    (h : ∀ out : Array Value, out.toList.Perm vs → (∃ L : Value → List Int, (∀ v ∈ vs, TS.TupInts s.heap v (L v)) ∧ out.toList.Pairwise fun u v => lx (L v) (L u) = false) →
      P (.done (.ret .none)) { s with heap := sortedHeap s.heap a vs out }) : wpAny (model prog w) A (Builtin.«list.sort» ⟨[.ref a], []⟩) P E s := by
  have keep : ∀ b o, s.heap.get? b = some o → o.cls = .type "tuple" → (TS.midHeap s.heap a vs).get? b = some o := fun b o e hc => TS.midHeap_old (by
    rintro rfl
    rw [ho] at e
    cases e
    exact absurd (Value.type.inj hc) (by decide)) e
  have hT : ∀ v ∈ vs, TS.TupInts s.heap v (TS.intsOf s.heap v) ∧ (TS.intsOf s.heap v).length = d := fun v hv => by
    obtain ⟨ns, t, l⟩ := x v hv
    rw [t.ints]
    exact ⟨t, l⟩
  refine SK.plain_sort (r := fun v => (rk (vs.map (TS.intsOf s.heap)) (TS.intsOf s.heap v) : Int)) ho h64 (fun h2 Q hQ => kind_go hd h2 (x.keeps keep) _ (fun u hu v hv ns ms tu tv => ?_) Q hQ) fun ps out e1 e2 e3 => ?_
  · have e1 : TS.intsOf s.heap u = ns := by
      have := ((hT u hu).1.keeps keep).ints
      rw [← this, tu.ints]
    have e2 : TS.intsOf s.heap v = ms := by
      have := ((hT v hv).1.keeps keep).ints
      rw [← this, tv.ints]
    rw [← e1, ← e2, rk_lt (List.mem_map.mpr ⟨u, hu, rfl⟩) (by rw [(hT u hu).2, (hT v hv).2])]
    exact (Int.ofNat_lt).symm
  · obtain ⟨p, o⟩ := TS.out_rank (r := fun v => (rk (vs.map (TS.intsOf s.heap)) (TS.intsOf s.heap v) : Int)) e1 e2 e3
    refine h out p ⟨TS.intsOf s.heap, fun v hv => (hT v hv).1, o.imp_of_mem fun {u v} hu hv le => ?_⟩
    cases e : lx (TS.intsOf s.heap v) (TS.intsOf s.heap u) with
    | false => rfl
    | true =>
      have hu' := p.mem_iff.mp hu
      have hv' := p.mem_iff.mp hv
      have := (rk_lt (L := vs.map (TS.intsOf s.heap)) (List.mem_map.mpr ⟨v, hv', rfl⟩) (by rw [(hT u hu').2, (hT v hv').2])).mp e
      omega
end
end RwS

set_option Elab.async false
set_option linter.all false
set_option maxRecDepth 100000
set_option maxHeartbeats 4000000
namespace RwS
open PySem PySem.Spec PyProof.Rows L2
theorem ints_vals : ∀ {its : List Value} {ns : List Int}, Vals (ns.map V.int) its → IntsAre its ns
  | _, [], .nil => .nil
  | _, n :: ns, .cons r rr => by
    obtain ⟨t, rfl⟩ := r
    exact .cons n t (ints_vals rr)
def rSortedDT : List V → Hp → VK → Prop := fun vs H Q => ∃ (a : Addr) (kvs : List (List L2.Key × V)) (ks : List (List Int)) (d : Nat), vs = [V.ref a] ∧ H a = some (.dT kvs) ∧ kvs.map (·.1) = ks.map (fun k => k.map Sum.inl) ∧ 1 ≤ d ∧ (∀ k ∈ ks, k.length = d) ∧ ks.length < 64 ∧
  ∀ (L : List (Addr × List Int)) (p : Addr), (∀ q ∈ L, H q.1 = some (.tup (q.2.map V.int))) → (L.map (·.2)).Perm ks → L.Pairwise (fun x y => lx y.2 x.2 = false) → H p = none → Q (.ref p) (upd H p (.lst (L.map fun q => .ref q.1)))
theorem zip_keys {γ : Type} {R : (List L2.Key × V) → γ → Prop} (g : γ → Addr) {H : Hp} (hR : ∀ p q, R p q → H (g q) = some (.tup (p.1.map kV))) : ∀ {kvs : List (List L2.Key × V)} {xs : List γ} {ks : List (List Int)}, Paired R kvs xs → kvs.map (·.1) = ks.map (fun k => k.map Sum.inl) →
    ∃ L : List (Addr × List Int), L.map (·.1) = xs.map g ∧ L.map (·.2) = ks ∧ ∀ q ∈ L, H q.1 = some (.tup (q.2.map V.int))
  | _, _, [], .nil, _ => ⟨[], rfl, rfl, fun q hq => by cases hq⟩
  | _, _, _ :: _, .nil, e => by simp at e
  | _, _, [], .cons _ _, e => by simp at e
  | p :: kvs, x :: xs, k :: ks, .cons h hr, e => by
    have e1 : p.1 = k.map Sum.inl := (List.cons.inj e).1
    have e2 : kvs.map (·.1) = ks.map (fun k => k.map Sum.inl) := (List.cons.inj e).2
    obtain ⟨L, l1, l2, l3⟩ := zip_keys g hR hr e2
    refine ⟨(g x, k) :: L, by simp [l1], by simp [l2], fun q hq => ?_⟩
    rcases List.mem_cons.mp hq with rfl | hq
    · have := hR _ _ h
      rw [e1, List.map_map] at this
      exact this
    · exact l3 q hq
theorem perm_lift : ∀ {out : List Value} {L : List (Addr × List Int)}, out.Perm (L.map fun q => Value.ref q.1) → ∃ L' : List (Addr × List Int), out = L'.map (fun q => Value.ref q.1) ∧ L'.Perm L := fun {out L} h => by
  generalize e : (L.map fun q => Value.ref q.1) = M at h
  induction h generalizing L with
  | nil => exact ⟨[], rfl, by rw [List.map_eq_nil_iff.mp e]⟩
  | cons x h ih =>
    cases L with
    | nil => cases e
    | cons q L =>
      obtain ⟨e1, e2⟩ := List.cons.inj e
      obtain ⟨L', e3, e4⟩ := ih e2
      exact ⟨q :: L', by rw [← e1, e3]; rfl, e4.cons q⟩
  | swap x y l =>
    cases L with
    | nil => cases e
    | cons q L =>
      cases L with
      | nil => cases e
      | cons r L =>
        obtain ⟨e1, e2⟩ := List.cons.inj e
        obtain ⟨e2, e3⟩ := List.cons.inj e2
        exact ⟨r :: q :: L, by rw [← e1, ← e2, ← e3]; rfl, .swap q r L⟩
  | trans h1 h2 ih1 ih2 =>
    obtain ⟨L2, e1, e2⟩ := ih2 e
    obtain ⟨L1, e3, e4⟩ := ih1 e1.symm
    exact ⟨L1, e3, e4.trans e2⟩
theorem cr_sortedDT {X : Cx} (hc : X.calm = true) : CallR X (.builtin "sorted") rSortedDT := by
  intro pins s σ H vs us Q I r h
  obtain ⟨a, kvs, ks, d, rfl, ha, hks, hd, hlen, h64, q⟩ := h
  rw [Vals.ref1 r]
  obtain ⟨z, hs, xs, pr, o, es, ep, ho, hx, hdt, he, hn⟩ := I.hok a _ ha
  obtain ⟨L, l1, l2, l3⟩ := zip_keys (fun x => x.2.1) (H := H) (fun p x hp => hp.2.1) pr hks
  have hsz : es.size = xs.length := size_of_entries he
  have hLl : L.length = xs.length := by have := congrArg List.length l1; simpa using this
  have hLk : L.length = ks.length := by have := congrArg List.length l2; simpa using this
  refine Calls.call_function_entry kind_sorted plain_sorted entry_sorted (args_sorted1 (.ref a)) ?_
  refine id (wpAny_bind (wpAny_pure (wpAny_bind (PySem.W.kdu_collect (kdl_raw hs hx hdt) (I.ok.hd hc) ho (by rw [hsz, ← hLl, hLk, sizeLine_eq]; omega) fun h' tk acc hk hacc => ?_))))
  have hacc2 : acc.toList = L.map fun q => Value.ref q.1 := by
    have e1 : (L.map fun q => Value.ref q.1) = (xs.map fun x => x.2.1).map Value.ref := by
      rw [← l1, List.map_map]; rfl
    rw [e1, List.map_map]
    refine List.ext_getElem? fun j => ?_
    obtain ⟨ha1, ha2⟩ := hacc
    cases e : acc[j]? with
    | none =>
      have : acc.size ≤ j := Array.getElem?_eq_none_iff.mp e
      rw [Array.getElem?_toList, e, List.getElem?_eq_none]
      rw [List.length_map]; omega
    | some v =>
      obtain ⟨en, h1, h2⟩ := ha2 j v e
      rw [Array.getElem?_toList, e]
      have h3 : es.toList[j]? = some en := by rw [Array.getElem?_toList]; exact h1
      rw [he, List.getElem?_map] at h3
      rw [List.getElem?_map]
      cases e4 : xs[j]? with
      | none => rw [e4] at h3; cases h3
      | some x =>
        rw [e4] at h3
        cases h3
        rw [h2]; rfl
  have I1 : Inv X pins σ H { s with heap := h', toks := tk } := I.kept (t' := tk) hk
  have tups : Tups h' d acc.toList ∧ ∀ q ∈ L, TS.TupInts h' (.ref q.1) q.2 := by
    have key : ∀ q ∈ L, TS.TupInts h' (.ref q.1) q.2 := fun q hq => by
      obtain ⟨_, its, rv, p⟩ := I1.hok q.1 _ (l3 q hq)
      exact ⟨q.1, its.toArray, rfl, p, ints_vals rv⟩
    refine ⟨fun v hv => ?_, key⟩
    rw [hacc2] at hv
    obtain ⟨q, hq, rfl⟩ := List.mem_map.mp hv
    exact ⟨q.2, key q hq, hlen _ (by rw [← l2]; exact List.mem_map.mpr ⟨q, hq, rfl⟩)⟩
  have hal : acc.toList.length = L.length := by rw [hacc2, List.length_map]
  refine wpAny_bind (wpAny_newList ?_ (by rw [hal, hLk, sizeLine_eq]; omega))
  have hoL : (h'.push { cls := Value.type "list", data := Data.seq acc.toList.toArray }).get? h'.objs.size = some (seqObj "list" acc.toList.toArray 0) := Heap.get?_push_size _ rfl
  have hp1 : ∀ b o, h'.get? b = some o → (h'.push { cls := Value.type "list", data := Data.seq acc.toList.toArray }).get? b = some o := fun b o e => Heap.get?_push_of_some _ e
  refine wpAny_bind (wpAny_holding (wpAny_call_entry slot_list_sort ⟨_, hoL, rfl⟩ entry_list_sort (sort_go hoL (by rw [hal, hLk]; exact h64) hd (tups.1.keeps fun b o e _ => hp1 b o e) fun out pm po => ⟨.none, rfl, wpAny_pure ⟨.ref h'.objs.size, rfl, ?_⟩⟩) (args_list_sort (.ref h'.objs.size))))
  obtain ⟨L', e1, e2⟩ := perm_lift (hacc2 ▸ pm)
  have hn1 : H h'.objs.size = none := I1.hok.fresh (Nat.le_refl _)
  obtain ⟨ep', hg⟩ := sortedHeap_at (out := out) hoL
  have k : ∀ b o, h'.get? b = some o → (sortedHeap (h'.push { cls := Value.type "list", data := Data.seq acc.toList.toArray }) h'.objs.size acc.toList out).get? b = some o := fun b o e => by
    have hb := Heap.lt_size e
    rw [sortedHeap_old (Nat.ne_of_lt hb) (Nat.lt_of_lt_of_le hb (by rw [PyProof.Rows.size_push']; exact Nat.le_succ _))]
    exact hp1 b o e
  have hlen' : (L'.map fun q => V.ref q.1).length ≤ sizeLine := by rw [List.length_map, e2.length_eq, hLk, sizeLine_eq]; omega
  have hv : Vals (L'.map fun q => V.ref q.1) out.toList := by rw [e1]; exact vals_of_refs L'
  have J := Inv.call (ch := []) (d' := s.drawn) (t' := tk) I1 (Un.laid k (Nat.le_refl _) hn1) (HOk.laid (o := .lst (L'.map fun q => V.ref q.1)) I1.hok k (Nat.le_refl _) ⟨hlen', out.toList, ep', hv, hg⟩) I1.bare (fun x z => by cases z)
  refine ⟨.ref h'.objs.size, _, J, rfl, q L' _ (fun r hr => l3 r (e2.mem_iff.mp hr)) (by rw [← l2]; exact e2.map _) ?_ hn1⟩
  obtain ⟨g, g1, g2⟩ := po
  rw [e1] at g2
  refine (List.pairwise_map.mp g2).imp_of_mem fun {x y} hx hy hxy => ?_
  have gx : ∀ z ∈ L', g (.ref z.1) = z.2 := fun z hz => by
    have hz' := e2.mem_iff.mp hz
    have t1 := g1 (.ref z.1) (by rw [hacc2]; exact List.mem_map.mpr ⟨z, hz', rfl⟩)
    have t2 := (tups.2 z hz').keeps (h' := h'.push { cls := Value.type "list", data := Data.seq acc.toList.toArray }) fun b o e _ => hp1 b o e
    exact t1.ints.symm.trans t2.ints
  rw [gx x hx, gx y hy] at hxy
  exact hxy
end RwS

set_option Elab.async false
set_option linter.all false
set_option maxRecDepth 100000
set_option maxHeartbeats 4000000
namespace RwS
open PySem PySem.Spec PyProof.Rows L2 CwR
/-! ### where some object has been made before: text.replace -/
def PTt (X : Cx) (e : Expr) (t : TT) : Prop := ∀ (pins : List (Addr × Obj)) (s : Shared) (σ : L2.St) (H : Hp) (Q : Bool → Hp → Prop), 1 ≤ s.toks → Inv X pins σ H s → t σ H Q → wpAny (model X.prog X.w) X.A (PySem.isTrue e X.env (eval e X.env)) (TP X pins σ Q) X.xe s
def PTg (X : Cx) (e : Expr) (t : TT) : Prop := ∀ (pins : List (Addr × Obj)) (s : Shared) (σ : L2.St) (H : Hp) (Q : Bool → Hp → Prop), Inv X pins σ H s → t σ H Q → wpAny (model X.prog X.w) X.A (PySem.isTrue e X.env (eval e X.env)) (fun b s' => TP X pins σ Q b s' ∧ 1 ≤ s'.toks) X.xe s
def PEg (X : Cx) (e : Expr) (t : TE) : Prop := ∀ (pins : List (Addr × Obj)) (s : Shared) (σ : L2.St) (H : Hp) (Q : VK), Inv X pins σ H s → t σ H Q → wpAny (model X.prog X.w) X.A (eval e X.env) (fun v s' => EP X pins σ Q v s' ∧ 1 ≤ s'.toks) X.xe s
section
variable {X : Cx} {a b e o : Expr} {ta tb : TT} {te to : TE} {pos : Pos}
theorem petT_bm0 {name : Str} {apos cpos : Pos} {T id : String} {r : V → List V → Hp → VK → Prop} (pa : PlainAttrs T) (slot : Slot T name id) (hty : typeOf (.builtin id) = pure (.type "method_descriptor")) (hm : MtR X id r) (ho : PET X o to)
    (hbase : attributeBase o name X.env (eval o X.env) = eval o X.env := by rfl) (hline : (apos.endLine == cpos.line) = true := by rfl) : PET X ((o.Attribute name apos).Call [] [] cpos) (tBM0 X.K T r to) := fun pins s σ H Q h0 I h =>
  wpAny_Call_method0_late hbase hline (thn (ho pins s σ H (fun x H1 => tyV X.K T x H1 ∧ r x [] H1 Q) h0 I h) fun v s1 ⟨x, H1, I1, r1, ty, q1⟩ => by
    obtain ⟨h1, h2⟩ := tyV_is I1 r1 ty
    exact ⟨T, id, pa, slot, hty, h1, h2, Calls.callWith_builtin rfl (PySem.evalArgs_none (hm pins s1 σ H1 x [] v [] Q I1 r1 .nil q1))⟩)
theorem ptT_tru (ha : PET X a te) (he : ∀ whole, PySem.isTrue a X.env whole = (do let v ← whole; standAt a.pos; holding [v] (truthy v)) := by intro _; rfl) : PTt X a (RW.tTru X.K te) := fun pins s σ H Q h0 I h =>
  isTrue_plain (thn (ha pins s σ H (fun x H' => ∃ k, TruV X.K x H' k ∧ Q k H') h0 I h) fun v s1 ⟨x, H1, I1, r1, q1⟩ => tru_ok pins s1 σ H1 x v Q I1 r1 q1) (he _)
theorem ptT_not (ha : PTt X a ta) : PTt X (.UnaryOp .Not a pos) (tNot ta) := fun pins s σ H Q h0 I h => isTrue_not (ha pins s σ H (fun c H1 => Q (!c) H1) h0 I h)
theorem ptT_or (ha : PT X a ta) (hb : PTt X b tb) : PTt X (.BoolOp .Or [a, b] pos) (tOr ta tb) := fun pins s σ H Q h0 I h =>
  isTrue_or (wpAny_mono (wpAny_toks (ha.run pins s σ H _ I h)) (fun c s1 ⟨hk, H1, I1, q1⟩ => by
    cases c with
    | true => exact ⟨H1, I1, q1⟩
    | false =>
      refine isTrue_or (thn (hb pins s1 σ H1 Q (Nat.le_trans h0 hk) I1 q1) fun c s2 z => ?_)
      cases c with
      | true => exact z
      | false => exact isTrue_or_nil z) fun _ _ z => z.2)
/-- len(x), x a text: an integer is made -/
def rLenS : List V → Hp → VK → Prop := fun xs H Q => ∃ z, xs = [V.str z] ∧ z.length ≤ sizeLine ∧ Q (.int z.length) H
theorem call_lenS {X : Cx} : CallR X (.builtin "len") rLenS := call_len_str
theorem peg_len {p : Pos} {tA : TA} (hg : Gl X "len") (hm : X.mg "len" = none) (ha : PA X [e] tA) (hs : starEach [e] X.env = (false, eval e X.env) :: starEach [] X.env := by rfl) (hpl : ((backTo pos (starEach [] X.env)).any fun x => x.1) = false := by rfl) :
    PEg X (.Call (.Name "len" p) [e] [] pos) (tCB rLenS tA) := fun pins s σ H Q I h => by
  refine wpAny_Call_Name_kw (ld_blt I hg hm boot_len (callWith_builtin1 (thn (ha.run pos pins s σ H (fun vs H1 => rLenS vs H1 Q) I h) fun us s1 ⟨vs, H1, I1, r1, z, e1, hz, q1⟩ => ?_) hs hpl) (by decide) (by decide))
  subst e1
  cases r1 with
  | cons r1 rr =>
    cases rr
    obtain ⟨t, rfl⟩ := r1
    exact len_str (by have := line63; omega) ⟨⟨.int z.length, H1, I1.tok _, ⟨_, rfl⟩, q1⟩, by simp⟩
theorem ptg_cmp {op : CmpOp} {r : R2} {ta tb : TE} (ho : OpR X (compareOp op) r) (ha : PEg X a ta) (hb : PE X b tb) (hm : behindInMarks op b = false) : PTg X (.Compare a [op] [b] pos) (tTest (tOp r ta tb)) := fun pins s σ H Q I h =>
  wpAny_isTrue_Compare1 (thn (ha pins s σ H _ I h) fun v s1 ⟨⟨x, H1, I1, r1, q1⟩, h1⟩ =>
    wpAny_mono (wpAny_toks (hb.run pins s1 σ H1 _ I1 q1)) (fun u s2 ⟨k2, y, H2, I2, r2, q2⟩ =>
      wpAny_mono (wpAny_toks (ho pins s2 σ H2 x y v u _ I2 r1 r2 q2)) (fun c s3 ⟨k3, z, H3, I3, r3, k, e, q3⟩ => by
        subst e
        cases (show c = Value.bool k from r3)
        exact wpAny_truthy_bool ⟨⟨H3, I3, q3⟩, Nat.le_trans h1 (Nat.le_trans k2 k3)⟩) fun _ _ z => z.2) fun _ _ z => z.2) hm
/-- the first is false -/
def tOrF (ta tb : TT) : TT := fun σ H Q => ta σ H fun b H1 => b = false ∧ tb σ H1 Q
theorem ptg_or (ha : PT X a ta) (hb : PTg X b tb) : PTg X (.BoolOp .Or [a, b] pos) (tOrF ta tb) := fun pins s σ H Q I h =>
  isTrue_or (thn (ha.run pins s σ H _ I h) fun c s1 ⟨H1, I1, ec, q1⟩ => by
    subst ec
    refine isTrue_or (thn (hb pins s1 σ H1 Q I1 q1) fun c s2 z => ?_)
    cases c with
    | true => exact z
    | false => exact isTrue_or_nil z)
/-- if test: raise; and what follows, with a token known -/
def tGuard (ta : TT) (t2 : TS) : TS := fun D σ H => ta σ H fun b H1 => b = false ∧ t2 D σ H1
def tGuard1 (ta : TT) : TS := fun D σ H => ta σ H fun b H1 => b = false ∧ D.nx σ H1
theorem pss_guard {t2 : TS} {bd : List Stmt} {rest : List Stmt} (ha : PTg X a ta) (hr : PSsT X rest t2) : PSs X (.If a bd [] pos :: rest) (tGuard ta t2) := ⟨fun pins s σ H D I h =>
  wpAny_execs_cons (wpAny_If (thn (ha pins s σ H _ I h) fun c s1 ⟨⟨H1, I1, ec, q1⟩, h1⟩ => by
    subst ec
    exact wpAny_execs_nil (hr pins s1 σ H1 D h1 I1 q1)))⟩
theorem psst_guard {bd : List Stmt} (ha : PTt X a ta) : PSsT X [.If a bd [] pos] (tGuard1 ta) := fun pins s σ H D h0 I h =>
  wpAny_execs_cons (wpAny_If (thn (ha pins s σ H _ h0 I h) fun c s1 ⟨H1, I1, ec, q1⟩ => by
    subst ec
    exact wpAny_execs_nil (wpAny_execs_nil ⟨σ, H1, I1, q1⟩)))
end
end RwS

set_option Elab.async false
set_option linter.all false
set_option maxRecDepth 100000
set_option maxHeartbeats 4000000
namespace RW
open PySem PySem.Spec PyProof.Rows L2
open Evl (Ex)
section
variable {K : PySem.W.Frag} {n : Nat} {te ta tb tc to ti tv : TE} {tt tu : TT} {tA tR : TA} {env env' : Env1} {S S1 S2 S3 : List Dat} {x y z : Sl} {d e : Dat} {ds es : List Dat} {r r' : R2} {P P' : Post} {t u : TS}
  {B B0 B1 B2 B' H H0 H1 H2 H' : Hp} {as as0 as1 : List Addr} {D : Ends} {σ : L2.St} {i k : Nat} {a b c : Bool} {p q : Str}
/-! ### texts -/
theorem cd_lenT (hl : p.length ≤ sizeLine) : CallD K RwS.rLenS [.d (.str p)] S (.int p.length) S := fun B H as vs c r Q q => by
  cases r with
  | cons r1 rr =>
    cases rr; cases r1
    exact ⟨p, rfl, hl, q _ B H c Evo.refl (.int _)⟩
def rIntS : List V → Hp → VK → Prop := fun xs H Q => ∃ a n, xs = [V.str a] ∧ intText? a = some n ∧ a.length ≤ 640 ∧ Q (.int n) H
theorem call_intS {X : Cx} : CallR X (.type "int") rIntS := call_int_str
theorem cd_intS {j : Int} (h : intText? p = some j) (hl : p.length ≤ 640) : CallD K rIntS [.d (.str p)] S (.int j) S := fun B H as vs c r Q q => by
  cases r with
  | cons r1 rr =>
    cases rr; cases r1
    exact ⟨p, j, rfl, h, hl, q _ B H c Evo.refl (.int _)⟩
/-- x.isdigit() and the like -/
theorem ev_bm0S {f : Str → V} {C : Str → Prop} (h : Ev K to env S (.d (.str p)) S1) (hc : C p) (hd : ∀ B : Hp, Rep K B (f p) d) : Ev K (tBM0 K "str" (fun x xs H Q => ∃ a, x = V.str a ∧ xs = [] ∧ C a ∧ Q (f a) H) to) env S (.d d) S1 := fun B H as σ c g Q q =>
  h B H as σ c g _ fun v B1 H1 c1 e1 r1 => by
    cases r1
    exact ⟨rfl, p, rfl, rfl, hc, q _ B1 H1 c1 e1 (hd B1)⟩
theorem ev_startsS (h : Ev K to env S (.d (.str p)) S1) (hx : EvA K tA env S1 [.d (.str q)] S2) : Ev K (tBM K "str" (fun x xs H Q => ∃ a b, x = V.str a ∧ xs = [V.str b] ∧ Q (.bl (Txt.startswith a b)) H) to tA) env S (.d (.bl (Txt.startswith p q))) S2 := fun B H as σ c g Q k =>
  h B H as σ c g _ fun v B1 H1 c1 e1 r1 => by
    cases r1
    refine ⟨rfl, hx B1 H1 as σ c1 (g.mono e1.ex) _ fun vs B2 H2 c2 e2 r2 => ?_⟩
    cases r2 with
    | cons r2 rr =>
      cases rr; cases r2
      exact ⟨p, q, rfl, rfl, k _ B2 H2 c2 (e1.trans e2) (.bl _)⟩
theorem reps_strs : ∀ ys : List Str, Reps K B (ys.map V.str) (ys.map Dat.str)
  | [] => .nil
  | i :: r => .cons (.str i) (reps_strs r)
theorem en_split (h : Ev K to env S (.d (.str p)) S1) (hx : EvA K tA env S1 [.d (.str q)] S2) (h1 : (q.length == 0) = false) (h2 : p.length + 2 ≤ sizeLine) :
    EvN K (tBM K "str" (fun x xs H Q => ∃ a b, x = V.str a ∧ xs = [V.str b] ∧ (b.length == 0) = false ∧ a.length + 2 ≤ sizeLine ∧ rNewStrs (Txt.split a b) H Q) to tA) env S ((Txt.split p q).map Dat.str) S2 := fun B H as σ c g Q k =>
  h B H as σ c g _ fun v B1 H1 c1 e1 r1 => by
    cases r1
    refine ⟨rfl, hx B1 H1 as σ c1 (g.mono e1.ex) _ fun vs B2 H2 c2 e2 r2 => ?_⟩
    cases r2 with
    | cons r2 rr =>
      cases rr; cases r2
      exact ⟨p, q, rfl, rfl, h1, h2, fun w hw => evn_new c c2 (e1.trans e2) hw (reps_strs _) k⟩
theorem ev_slS {tl th : TO} {lo hi : Option Int} (h : Ev K te env S (.d (.str p)) S1) (hl : EvO K tl env S1 lo S2) (hh : EvO K th env S2 hi S3) (hz : p.length ≤ sizeLine) : Ev K (tSl rSlS te tl th) env S (.d (.str (cutS p lo hi))) S3 := fun B H as σ c g Q q =>
  h B H as σ c g _ fun v B1 H1 c1 e1 r1 => hl B1 H1 as σ c1 (g.mono e1.ex) _ fun B2 H2 c2 e2 => hh B2 H2 as σ c2 (g.mono (e1.trans e2).ex) _ fun B3 H3 c3 e3 => by
    cases r1
    exact ⟨p, rfl, hz, q _ B3 H3 c3 ((e1.trans e2).trans e3) (.str _)⟩
theorem o_eqS : Op2 K rEq (.d (.str p)) (.d (.str q)) S (.bl (decide (p = q))) := fun B H as v w c r1 r2 Q k => by
  cases r1; cases r2
  have e : decide (V.str p = V.str q) = decide (p = q) := by
    by_cases h : p = q
    · subst h; simp
    · simp [h]
  refine ⟨rfl, ?_⟩
  rw [e]
  exact k _ B H c Evo.refl (.bl _)
theorem o_neS : Op2 K rNe (.d (.str p)) (.d (.str q)) S (.bl (!decide (p = q))) := fun B H as v w c r1 r2 Q k => by
  cases r1; cases r2
  have e : decide (V.str p = V.str q) = decide (p = q) := by
    by_cases h : p = q
    · subst h; simp
    · simp [h]
  refine ⟨rfl, ?_⟩
  rw [e]
  exact k _ B H c Evo.refl (.bl _)
/-- None in a list of integers -/
theorem o_inN {ns : List Int} (h : Seq S x (ns.map Dat.int)) : Op2 K (rIn K false) (.d .non) x S (.bl false) := fun B H as v w c r1 r2 Q k => by
  cases r1
  obtain ⟨a, kk, vs, rfl, hq, hr⟩ := h.read c r2
  have e := hr.ints
  subst e
  refine ⟨a, _, rfl, sq_or hq, rfl, ?_, ?_⟩
  · rw [List.all_eq_true]
    intro v hv
    obtain ⟨j, _, rfl⟩ := List.mem_map.mp hv
    rfl
  · have : inV V.non (ns.map V.int) = false := by
      unfold inV
      rw [List.any_eq_false]
      intro v hv
      obtain ⟨j, _, rfl⟩ := List.mem_map.mp hv
      exact fun z => nomatch z
    rw [this]
    exact k _ B H c Evo.refl (.bl _)
/-- x.replace(..) -/
theorem ev_repl {y z : Str} (h : Ev K to env S (.d (.str p)) S1) (hl : p.length + (p.length + 1) * z.length ≤ 16777216) : Ev K (CwR.tReplC to y z) env S (.d (.str (Txt.replace p y z))) S1 := fun B H as σ c g Q q =>
  h B H as σ c g _ fun v B1 H1 c1 e1 r1 => by
    cases r1
    exact ⟨p, rfl, hl, q _ B1 H1 c1 e1 (.str _)⟩
theorem sp_guard (h : EvT K tt env S false S1) (k : SP K n u env S1 P) : SP K n (RwS.tGuard tt u) env S P := fun B0 H0 as0 Bk B H as σ hl f c g D m =>
  h B H as σ c g _ fun B1 H1 c1 e1 => ⟨rfl, k B0 H0 as0 Bk B1 H1 as σ hl (f.step e1) c1 (g.mono e1.ex) D m⟩
theorem sp_guard1 (h : EvT K tt env S false S1) (k : P.nx env S1) : SP K n (RwS.tGuard1 tt) env S P := fun B0 H0 as0 Bk B H as σ hl f c g D m =>
  h B H as σ c g _ fun B1 H1 c1 e1 => ⟨rfl, m.nx env S1 B1 H1 as σ (f.step e1) c1 (g.mono e1.ex) k⟩
theorem et_orF (h1 : EvT K tt env S false S1) (h2 : EvT K tu env S1 b S2) : EvT K (RwS.tOrF tt tu) env S b S2 := fun B H as σ c g Q q =>
  h1 B H as σ c g _ fun B1 H1 c1 e1 => ⟨rfl, h2 B1 H1 as σ c1 (g.mono e1.ex) Q fun B2 H2 c2 e2 => q B2 H2 c2 (e1.trans e2)⟩
/-! ### rows, one below the other -/
theorem leT_lex : ∀ (ns ms : List Int) (j m : Nat), j + m = ns.length → ns.length = ms.length → Ob.lexAt (fun j => decide (ns.getD j 0 = ms.getD j 0)) (fun j => decide (ns.getD j 0 ≤ ms.getD j 0)) (decide (ns.length ≤ ms.length)) j m = !RwS.lx (ms.drop j) (ns.drop j)
  | ns, ms, j, 0, h1, h2 => by
    rw [show j = ns.length by omega, List.drop_length]
    rw [show ms.drop ns.length = [] by rw [h2, List.drop_length]]
    show decide (ns.length ≤ ms.length) = !RwS.lx [] []
    rw [decide_eq_true (by omega)]; rfl
  | ns, ms, j, m + 1, h1, h2 => by
    have hj : j < ns.length := by omega
    have hj2 : j < ms.length := by omega
    have ih := leT_lex ns ms (j + 1) m (by omega) h2
    have e1 : ns.drop j = ns.getD j 0 :: ns.drop (j + 1) := by
      rw [List.drop_eq_getElem_cons hj]; simp [hj]
    have e2 : ms.drop j = ms.getD j 0 :: ms.drop (j + 1) := by
      rw [List.drop_eq_getElem_cons hj2]; simp [hj2]
    rw [e1, e2]
    show (if decide (ns.getD j 0 = ms.getD j 0) = true then Ob.lexAt _ _ _ (j + 1) m else decide (ns.getD j 0 ≤ ms.getD j 0)) = _
    by_cases h : ns.getD j 0 = ms.getD j 0
    · rw [if_pos (by simpa using h), ih, h, RwS.lx_eq]
    · rw [if_neg (by simpa using h), RwS.lx_ne (fun z => h z.symm)]
      by_cases h' : ns.getD j 0 ≤ ms.getD j 0
      · rw [decide_eq_true h', decide_eq_false (by omega)]; rfl
      · rw [decide_eq_false h', decide_eq_true (by omega)]; rfl
theorem reps_tup {v : V} {ns : List Int} (c : Ok K B H as S) (r : Rep K B v (.tup (ns.map Dat.int))) : ∃ a, v = .ref a ∧ SqT K H a (ns.map V.int) := by
  cases r with
  | tup h1 r1 =>
    have e := r1.ints
    subst e
    exact ⟨_, rfl, Evl.ex_t c.ex h1⟩
theorem o_leR {ns ms : List Int} (h : ns.length = ms.length) : Op2 K (rLeT K) (.d (.tup (ns.map Dat.int))) (.d (.tup (ms.map Dat.int))) S (.bl (!RwS.lx ms ns)) := fun B H as v w c r1 r2 Q k => by
  obtain ⟨a, rfl, h1⟩ := reps_tup c r1
  obtain ⟨b, rfl, h2⟩ := reps_tup c r2
  refine ⟨a, b, ns, ms, rfl, rfl, h1, h2, ?_⟩
  have := leT_lex ns ms 0 (min ns.length ms.length) (by omega) h
  rw [List.drop_zero, List.drop_zero] at this
  rw [this]
  exact k _ B H c Evo.refl (.bl _)
end
end RW

set_option Elab.async false
set_option linter.all false
set_option maxRecDepth 100000
set_option maxHeartbeats 4000000
namespace RW
open PySem PySem.Spec PyProof.Rows L2
open Evl (Ex)
section
variable {K : PySem.W.Frag} {n : Nat} {te ta tb tc to ti tv : TE} {tt tu : TT} {tA tR : TA} {env env' : Env1} {S S1 S2 S3 : List Dat} {x y z : Sl} {d e : Dat} {ds es : List Dat} {r r' : R2} {P P' : Post} {t u : TS}
  {B B0 B1 B2 B' H H0 H1 H2 H' : Hp} {as as0 as1 : List Addr} {D : Ends} {σ : L2.St} {i k : Nat} {a b c : Bool} {p q : Str}
theorem RepF.none {f : Str} : ∀ {vs : List (Str × V)} {fs : List (Str × Dat)}, RepF K B vs fs → fs.lookup f = none → vs.lookup f = none
  | _, _, .nil, _ => rfl
  | _, _, .cons (f := g) (vs := vs) (ds := ds) h r, e => by
    by_cases q : (f == g) = true
    · simp only [List.lookup, q] at e; cases e
    · have q' : (f == g) = false := by simpa using q
      simp only [List.lookup, q'] at e ⊢
      exact RepF.none r e
/-- o.m(..), o an instance that is changed -/
theorem ev_meth {C : Addr} {m : Str} {fs : List (Str × Dat)} {G : List Sl → List Dat → Dat → List Dat → Prop} {E : XK} {ss : List Sl} (h : Ev K ta env S (.c k) S1) (hs : S1[k]? = some (.ins C fs)) (hm : fs.lookup m = none) (hx : EvA K tA env S1 ss S2) (hg : G (.c k :: ss) S2 d S3) :
    Ev K (tMeth C m (SpD K G) [] E ta tA) env S (.d d) S3 := fun B H as σ c g Q q =>
  h B H as σ c g _ fun v B1 H1 c1 e1 r1 => by
    obtain ⟨w, hw, rfl⟩ := r1
    obtain ⟨dx, vs, hv, rv⟩ := (c1.cells k w _ hw hs).2.ins
    refine ⟨w, dx, vs, rfl, hv, RepF.none rv hm, hx B1 H1 as σ c1 (g.mono e1.ex) _ fun us B2 H2 c2 e2 r2 => ?_⟩
    exact ⟨B2, as, S2, .c k :: ss, d, S3, c2, by rw [List.append_nil]; exact .cons ⟨w, hw, rfl⟩ r2, hg, fun v B3 H3 c3 e3 r3 => q v B3 H3 c3 ((e1.trans e2).trans e3) r3⟩
/-- x = C(..), an instance that will be changed -/
theorem sp_setMk {C : Addr} {G : List Sl → List Dat → Dat → List Dat → Prop} {ss : List Sl} {E : XK} {fs : List (Str × Dat)} (h : EvA K tA env S ss S1) (hg : G (.c S1.length :: ss) (S1 ++ [.ins C []]) .non (S2 ++ [.ins C fs])) (hl : S2.length = S1.length)
    (q : SP K n u (env.set i (some (.c S1.length))) (S2 ++ [.ins C fs]) P) : SP K n (tSeq (tAsg (tMake C (SpD K G) [] E tA) (gName i)) u) env S P := fun B0 H0 as0 Bk B H as σ hl0 f0 c g D m =>
  h B H as σ c g _ fun vs B1 H1 c1 e1 r1 x dx hx hdx hne => by
    have hB := c1.Bnone hx
    have hxa := c1.fresh hx
    have hdB := c1.Bnone hdx
    have hda := c1.fresh hdx
    have c2 : Ok K B1 (upd (upd H1 dx (.own x)) x (.ins C dx [])) as S1 := (c1.other hdB hda).other hB hxa
    have e2 : Evo B1 H1 as B1 (upd (upd H1 dx (.own x)) x (.ins C dx [])) := (Evo.refl.other hdx).other hx
    have c3 : Ok K B1 (upd (upd H1 dx (.own x)) x (.ins C dx [])) (as ++ [x]) (S1 ++ [.ins C []]) := c2.push hB hxa (CellAt.ofI upd_same .nil)
    have grow : ∀ {vs : List V} {ss : List Sl}, RepSs K B1 as vs ss → RepSs K B1 (as ++ [x]) vs ss := by
      intro vs ss h
      induction h with
      | nil => exact .nil
      | cons h _ ih => exact .cons h.grow ih
    have r3 : RepSs K B1 (as ++ [x]) (.ref x :: (vs ++ [])) (.c S1.length :: ss) := by
      refine .cons ⟨x, by rw [← c1.len]; simp, rfl⟩ ?_
      rw [List.append_nil]
      exact grow r1
    refine ⟨B1, as ++ [x], _, _, _, _, c3, r3, hg, fun v B4 H4 c4 e4 r4 => ⟨by cases r4; rfl, ?_⟩⟩
    have f3 : Fr B0 H0 as0 Bk B1 _ (as ++ [x]) := ((f0.step e1).step e2).push ((f0.step e1).evo.old hx)
    exact q B0 H0 as0 Bk B4 H4 (as ++ [x]) _ hl0 (f3.step e4) c4 ((((g.mono e1.ex).grow).mono e4.ex).set i ⟨x, by rw [← c1.len]; simp, rfl⟩) D m
/-- o.f += e, of a field that is a number -/
theorem sp_fldaug {C : Addr} {fs : List (Str × Dat)} {f : Str} {p q : Int} (ho : Ev K ta env S (.c k) S1) (hs : S1[k]? = some (.ins C fs)) (cl : Cls K C) (na : NoAttr K C f) (hf : fs.lookup f = some (.int p)) (h : Ev K tv env S1 (.d (.int q)) S1) (hl : fs.length < 1000)
    (kk : SP K n u env (S1.set k (.ins C (putFD f (.int (p + q)) fs))) P) : SP K n (tSeq (sFldAug K ta tv rAdd f) u) env S P := fun B0 H0 as0 Bk B H as σ hl0 f0 c g D m =>
  ho B H as σ c g _ fun w B1 H1 c1 e1 r1 => by
    obtain ⟨x, hx, rfl⟩ := r1
    obtain ⟨dx, vs, hv, rv⟩ := (c1.cells k x _ hx hs).2.ins
    obtain ⟨v, hv1, rv1⟩ := rv.get hf
    cases rv1
    refine ⟨x, C, dx, vs, .int p, rfl, hv, cl, na, hv1, h B1 H1 as σ c1 (g.mono e1.ex) _ fun y B2 H2 c2 e2 r2 => ?_⟩
    cases r2
    obtain ⟨dx2, vs2, hv2, rv2⟩ := (c2.cells k x _ hx hs).2.ins
    have e03 := (e1.trans e2).trans (Evo.setc (o := .ins C dx2 (putF f (.int (p + q)) vs2)) (List.mem_of_getElem? hx) hv2 (fun _ z => nomatch z))
    exact ⟨p, q, rfl, rfl, dx2, vs2, hv2, by rw [rv2.length]; exact hl, kk B0 H0 as0 Bk B2 _ as σ hl0 (f0.step e03) (c2.setc hx (show CellO K B2 (.ins C dx2 _) (.ins C _) from ⟨rfl, RepF.put (.int _) rv2⟩)) (g.mono e03.ex) D m⟩
theorem sp_fldaug1 {C : Addr} {fs : List (Str × Dat)} {f : Str} {p q : Int} (ho : Ev K ta env S (.c k) S1) (hs : S1[k]? = some (.ins C fs)) (cl : Cls K C) (na : NoAttr K C f) (hf : fs.lookup f = some (.int p)) (h : Ev K tv env S1 (.d (.int q)) S1) (hl : fs.length < 1000)
    (kk : P.nx env (S1.set k (.ins C (putFD f (.int (p + q)) fs)))) : SP K n (sFldAug K ta tv rAdd f) env S P := fun B0 H0 as0 Bk B H as σ hl0 f0 c g D m =>
  ho B H as σ c g _ fun w B1 H1 c1 e1 r1 => by
    obtain ⟨x, hx, rfl⟩ := r1
    obtain ⟨dx, vs, hv, rv⟩ := (c1.cells k x _ hx hs).2.ins
    obtain ⟨v, hv1, rv1⟩ := rv.get hf
    cases rv1
    refine ⟨x, C, dx, vs, .int p, rfl, hv, cl, na, hv1, h B1 H1 as σ c1 (g.mono e1.ex) _ fun y B2 H2 c2 e2 r2 => ?_⟩
    cases r2
    obtain ⟨dx2, vs2, hv2, rv2⟩ := (c2.cells k x _ hx hs).2.ins
    have e03 := (e1.trans e2).trans (Evo.setc (o := .ins C dx2 (putF f (.int (p + q)) vs2)) (List.mem_of_getElem? hx) hv2 (fun _ z => nomatch z))
    exact ⟨p, q, rfl, rfl, dx2, vs2, hv2, by rw [rv2.length]; exact hl, m.nx _ _ B2 _ as σ (f0.step e03) (c2.setc hx (show CellO K B2 (.ins C dx2 _) (.ins C _) from ⟨rfl, RepF.put (.int _) rv2⟩)) (g.mono e03.ex) kk⟩
/-- while test: body -/
theorem sp_while {tb : TS} (Inv : Nat → Env1 → List Dat → Prop) {m0 : Nat} (h0 : Inv m0 env S)
    (hs : ∀ m env' S', Inv m env' S' → ∃ (b : Bool) (S2 : List Dat), EvT K tt env' S' b S2 ∧
      (b = true → SP K n tb env' S2 { nx := fun env2 S3 => ∃ m', m' < m ∧ Inv m' env2 S3, rt := P.rt, bk := P.nx, ct := fun env2 S3 => ∃ m', m' < m ∧ Inv m' env2 S3 }) ∧ (b = false → P.nx env' S2)) :
    SP K n (tWhile tt tb) env S P := fun B0 H0 as0 Bk B H as σ hl f0 c g0 D mm => by
  refine ⟨fun m σ' H' => ∃ env' S' B' as', Fr B0 H0 as0 Bk B' H' as' ∧ Ok K B' H' as' S' ∧ EnvR K B' as' σ' env' ∧ Inv m env' S', ⟨m0, env, S, B, as, f0, c, g0, h0⟩, ?_⟩
  rintro m σ' H' ⟨env', S', B', as', f', c', g', hinv⟩
  obtain ⟨b, S2, ht, h1, h2⟩ := hs m env' S' hinv
  refine ht B' H' as' σ' c' g' _ fun B2 H2 c2 e2 => ?_
  have f2 := f'.step e2
  have g2 := g'.mono e2.ex
  cases b with
  | false =>
    rw [if_neg (by decide)]
    exact mm.nx env' S2 B2 H2 as' σ' f2 c2 g2 (h2 rfl)
  | true =>
    rw [if_pos rfl]
    refine ⟨fun σ3 H3 => ∃ m', m' < m ∧ ∃ env3 S3 B3 as3, Fr B0 H0 as0 Bk B3 H3 as3 ∧ Ok K B3 H3 as3 S3 ∧ EnvR K B3 as3 σ3 env3 ∧ Inv m' env3 S3, fun σ3 H3 ⟨m', hm, h⟩ => ⟨m', hm, h⟩, ?_⟩
    refine h1 rfl B0 H0 as0 Bk B2 H2 as' σ' hl f2 c2 g2 _ ⟨?_, mm.rt, ?_, ?_⟩
    · exact fun env4 S4 B4 H4 as4 σ4 f4 c4 g4 ⟨m', hm, h⟩ => ⟨m', hm, env4, S4, B4, as4, f4, c4, g4, h⟩
    · exact fun env4 S4 B4 H4 as4 σ4 f4 c4 g4 p4 => mm.nx env4 S4 B4 H4 as4 σ4 f4 c4 g4 p4
    · exact fun env4 S4 B4 H4 as4 σ4 f4 c4 g4 ⟨m', hm, h⟩ => ⟨m', hm, env4, S4, B4, as4, f4, c4, g4, h⟩
/-! ### a dict whose keys are rows -/
/-- x = {} -/
theorem sp_setD (q : SP K n u (env.set i (some (.c S.length))) (S ++ [.dic []]) P) : SP K n (tSeq (tAsg tDNewT (gName i)) u) env S P := fun B0 H0 as0 Bk B H as σ hl f c g D m => fun p hp => by
  have hB := c.Bnone hp
  have hpa := c.fresh hp
  have c2 : Ok K B (upd H p (.dT [])) as S := c.other hB hpa
  have e2 : Evo B H as B (upd H p (.dT [])) := Evo.refl.other hp
  refine q B0 H0 as0 Bk B _ (as ++ [p]) _ hl ((f.step e2).push (f.evo.old hp)) (c2.push hB hpa ⟨_, upd_same, rfl⟩) ((g.grow).set i ⟨p, by rw [← c.len]; simp, rfl⟩) D m
theorem key_ints {k : List Int} : (k.map (Sum.inl : Int → L2.Key)).map kV = k.map V.int := by rw [List.map_map]; rfl
def insK (ks : List (List Int)) (k : List Int) : List (List Int) := if k ∈ ks then ks else ks ++ [k]
theorem inl_inj {a b : List Int} (h : a.map (Sum.inl : Int → L2.Key) = b.map Sum.inl) : a = b := (List.map_inj_right fun _ _ z => Sum.inl.inj z).mp h
theorem putK_keys {kvs : List (List L2.Key × V)} {ks : List (List Int)} {k : List Int} {v : V} (h : kvs.map (·.1) = ks.map fun k => k.map Sum.inl) : (putK kvs (k.map Sum.inl) v).map (·.1) = (insK ks k).map fun k => k.map Sum.inl := by
  have hm : (kvs.any fun kv => decide (kv.1 = k.map Sum.inl)) = true ↔ k ∈ ks := by
    rw [List.any_eq_true]
    constructor
    · rintro ⟨kv, hkv, e⟩
      have : kv.1 ∈ kvs.map (·.1) := List.mem_map.mpr ⟨kv, hkv, rfl⟩
      rw [h] at this
      obtain ⟨k2, hk2, e2⟩ := List.mem_map.mp this
      have e3 : kv.1 = k.map Sum.inl := by simpa using e
      rw [e3] at e2
      rw [← inl_inj e2]; exact hk2
    · intro hk
      have : k.map Sum.inl ∈ kvs.map (·.1) := by rw [h]; exact List.mem_map.mpr ⟨k, hk, rfl⟩
      obtain ⟨kv, hkv, e⟩ := List.mem_map.mp this
      exact ⟨kv, hkv, by simpa using e⟩
  unfold putK insK
  by_cases hk : k ∈ ks
  · rw [if_pos (hm.mpr hk), if_pos hk, ← h, List.map_map]
    refine List.map_congr_left fun kv _ => ?_
    show (if kv.1 = k.map Sum.inl then (kv.1, v) else kv).1 = kv.1
    split <;> rfl
  · rw [if_neg (fun z => hk (hm.mp z)), if_neg hk, List.map_append, List.map_append, h]
    rfl
/-- d[tuple(xs)] = e, xs a new list of numbers -/
theorem sp_stD1 {ks : List (List Int)} {ns : List Int} (h : Ev K te env S (.d d) S1) (ho : Ev K to env S1 (.c k) S2) (hx : EvN K ti env S2 (ns.map Dat.int) S3) (hs : S3[k]? = some (.dic ks)) (hl : ks.length < sizeLine) (hq : P.nx env (S3.set k (.dic (insK ks ns)))) :
    SP K n (tAsg te (gSub to (tCB (rTupD K) (tCons ti tNil)) rSetD)) env S P := fun B0 H0 as0 Bk B H as σ hl0 f0 c g D m =>
  h B H as σ c g _ fun v B1 H1 c1 e1 r1 => ho B1 H1 as σ c1 (g.mono e1.ex) _ fun w B2 H2 c2 e2 r2 => hx B2 H2 as σ c2 (g.mono (e1.trans e2).ex) _ fun l B3 H3 vs c3 e3 hl2 hb3 hl3 r3 => by
    obtain ⟨p, hp, rfl⟩ := r2
    have ei := r3.ints
    subst ei
    refine ⟨l, _, rfl, .inl ⟨Evl.sq_of hl3, fun tp htp => ?_⟩⟩
    have hpt : tp ∉ as := c3.fresh htp
    have c4 := c3.new (o := .tup (ns.map V.int)) htp
    have e4 := Evo.new (o := .tup (ns.map V.int)) c3 htp
    obtain ⟨kvs, hkv, hks⟩ := (c4.cells k p _ hp hs).2.dic
    have e05 := (((e1.trans e2).trans e3).trans e4).trans (Evo.setc (o := .dT (putK kvs (ns.map Sum.inl) v)) (List.mem_of_getElem? hp) hkv (fun _ z => nomatch z))
    refine ⟨p, _, rfl, .inr ⟨kvs, ns.map Sum.inl, tp, hkv, rfl, by rw [key_ints]; exact upd_same, ?_, rfl⟩, ?_⟩
    · have := congrArg List.length hks
      rw [List.length_map, List.length_map] at this
      omega
    · exact m.nx _ _ _ _ as σ (f0.step e05) (c4.setc hp (show CellO K _ (.dT _) (.dic _) from putK_keys hks)) (g.mono e05.ex) hq
/-- sorted(d): the keys, ascending -/
theorem en_sortD {ks : List (List Int)} {dn : Nat} (h : Ev K to env S (.c k) S1) (hs : S1[k]? = some (.dic ks)) (hd : 1 ≤ dn) (hk : ∀ r ∈ ks, r.length = dn) (hl : ks.length < 64) {rows : List (List Int)}
    (hu : ∀ rs : List (List Int), rs.Perm ks → rs.Pairwise (fun x y => RwS.lx y x = false) → rs = rows) :
    EvN K (tCB RwS.rSortedDT (tCons to tNil)) env S (rows.map fun r => Dat.tup (r.map Dat.int)) S1 := fun B H as σ c g Q q =>
  h B H as σ c g _ fun v B1 H1 c1 e1 r1 => by
    obtain ⟨p, hp, rfl⟩ := r1
    obtain ⟨kvs, hkv, hks⟩ := (c1.cells k p _ hp hs).2.dic
    refine ⟨p, kvs, ks, dn, rfl, hkv, hks, hd, hk, hl, fun L w l1 l2 l3 hw => ?_⟩
    have er := hu _ l2 (List.pairwise_map.mpr l3)
    -- what the keys are is known from now on
    have hcell : ∀ a ∈ L.map (·.1), a ∉ as := fun a ha hm => by
      obtain ⟨r, hr, rfl⟩ := List.mem_map.mp ha
      obtain ⟨j, hj⟩ := List.mem_iff_getElem?.mp hm
      have hjl : j < S1.length := by rw [← c1.len]; exact (List.getElem?_eq_some_iff.mp hj).1
      obtain ⟨_, o, ho, hco⟩ := c1.cells j _ _ hj (List.getElem?_eq_getElem hjl)
      rw [l1 r hr] at ho
      cases ho
      exact hco
    let B2 : Hp := fun a => if a ∈ L.map (·.1) then H1 a else B1 a
    have hin : ∀ a, a ∈ L.map (·.1) → B2 a = H1 a := fun a ha => if_pos ha
    have hout : ∀ a, a ∉ L.map (·.1) → B2 a = B1 a := fun a ha => if_neg ha
    have ex12 : Ex B1 B2 := fun a o e => by
      by_cases ha : a ∈ L.map (·.1)
      · rw [hin a ha]; exact c1.ex a o e
      · rw [hout a ha]; exact e
    have c2 : Ok K B2 H1 as S1 := ⟨fun a o e => by
      by_cases ha : a ∈ L.map (·.1)
      · rw [hin a ha] at e; exact e
      · rw [hout a ha] at e; exact c1.ex a o e, c1.len, fun j a s h1 h2 => by
      obtain ⟨q1, o, q2, q3⟩ := c1.cells j a s h1 h2
      exact ⟨by rw [hout a (fun ha => hcell a ha (List.mem_of_getElem? h1))]; exact q1, o, q2, q3.mono ex12⟩, c1.nd⟩
    have e12 : Evo B1 H1 as B2 H1 := ⟨ex12, fun _ _ _ h => h, fun a _ => by
      by_cases ha : a ∈ L.map (·.1)
      · obtain ⟨r, hr, rfl⟩ := List.mem_map.mp ha
        exact .inr ⟨_, l1 r hr⟩
      · exact .inl (hout a ha), fun _ _ h => h, fun _ h => h⟩
    refine evn_new c c2 (e1.trans e12) hw ?_ q
    rw [← er, List.map_map]
    have key : ∀ M : List (Addr × List Int), (∀ r ∈ M, r ∈ L) → Reps K B2 (M.map fun r => V.ref r.1) (M.map ((fun r => Dat.tup (r.map Dat.int)) ∘ fun r => r.2)) := by
      intro M
      induction M with
      | nil => intro _; exact .nil
      | cons r M ih =>
        intro hM
        have hr := hM r List.mem_cons_self
        refine .cons (.tup (Evl.st_of ?_) (reps_ints r.2)) (ih fun s hs => hM s (List.mem_cons_of_mem _ hs))
        rw [hin _ (List.mem_map.mpr ⟨r, hr, rfl⟩)]
        exact l1 r hr
    exact key L fun r hr => hr
end
end RW

set_option Elab.async false
set_option linter.all false
set_option maxRecDepth 100000
set_option maxHeartbeats 4000000
namespace RW
open PySem PySem.Spec PyProof.Rows L2
open Evl (Ex)
section
variable {K : PySem.W.Frag} {n : Nat} {te ta tb tc to ti tv : TE} {env env' : Env1} {S S1 S2 S3 : List Dat} {x y z : Sl} {d e : Dat} {ds es : List Dat} {P P' : Post} {t u : TS}
  {B B0 B1 B2 B' H H0 H1 H2 H' : Hp} {as as0 as1 : List Addr} {D : Ends} {σ : L2.St} {i j k : Nat}
/-- a, b = [..], e: a is a new list that will be changed -/
theorem sp_parC (h : EvN K ta env S ds S1) (hv : Ev K tb env S1 y S2) (q : SP K n u ((env.set j (some (.c S2.length))).set k (some y)) (S2 ++ [.lst ds]) P) :
    SP K n (tSeq (tPar j k (tCons ta (tCons tb tNil))) u) env S P := fun B0 H0 as0 Bk B H as σ hl f c g D m =>
  h B H as σ c g _ fun p B1 H1 vs c1 e1 hp hb h1 r1 => hv B1 H1 as σ c1 (g.mono e1.ex) _ fun w B2 H2 c2 e2 r2 => by
    have hpa : p ∉ as := c.fresh hp
    obtain ⟨k1, k2⟩ := e2.kept hpa h1 hb
    have e03 := e1.trans e2
    exact ⟨_, _, rfl, q B0 H0 as0 Bk _ _ (as ++ [p]) _ hl ((f.step e03).push (f.evo.old hp)) (c2.push k2 hpa (.ofL k1 (r1.mono e2.ex))) (((g.mono e03.ex).grow.set (s := .c S2.length) j ⟨p, by rw [← c2.len]; simp, rfl⟩).set k r2.grow) D m⟩
/-- a, b = e, [..]: b is a new list that will be changed -/
theorem sp_parVC (hv : Ev K ta env S y S1) (h : EvN K tb env S1 ds S2) (q : SP K n u ((env.set j (some y)).set k (some (.c S2.length))) (S2 ++ [.lst ds]) P) :
    SP K n (tSeq (tPar j k (tCons ta (tCons tb tNil))) u) env S P := fun B0 H0 as0 Bk B H as σ hl f c g D m =>
  hv B H as σ c g _ fun w B1 H1 c1 e1 r1 => h B1 H1 as σ c1 (g.mono e1.ex) _ fun p B2 H2 vs c2 e2 hp hb h2 r2 => by
    have hpa : p ∉ as := c1.fresh hp
    have e03 := e1.trans e2
    exact ⟨_, _, rfl, q B0 H0 as0 Bk _ _ (as ++ [p]) _ hl ((f.step e03).push (f.evo.old (e1.old hp))) (c2.push hb hpa (.ofL h2 r2)) (((g.mono e03.ex).grow.set j (r1.mono e2.ex).grow).set (s := .c S2.length) k ⟨p, by rw [← c2.len]; simp, rfl⟩) D m⟩
end
end RW

set_option Elab.async false
set_option linter.all false
set_option maxRecDepth 100000
set_option maxHeartbeats 4000000
namespace N85
open PySem PySem.Spec PyProof.Rows L2 RW

/-! the text by places -/
def top (i : Nat) : Stmt := PySem.Challenge.pw_rampworks_k85_whole_texts_of_lots_readin.main.body.getD i (.Pass ⟨0, 0, 0, 0⟩)
abbrev s_is_whole : Stmt := top 10
theorem sc_is_whole : FnScope ["value"] ["value"] (defScope s_is_whole) := ⟨rfl, rfl, rfl, by decide +kernel, rfl, by decide +kernel, by decide +kernel⟩
abbrev s_is_short : Stmt := top 11
theorem sc_is_short : FnScope ["value"] ["value"] (defScope s_is_short) := ⟨rfl, rfl, rfl, by decide +kernel, rfl, by decide +kernel, by decide +kernel⟩
abbrev s_are_short : Stmt := top 12
theorem sc_are_short : FnScope ["values", "x"] ["values"] (defScope s_are_short) := ⟨rfl, rfl, rfl, by decide +kernel, rfl, by decide +kernel, by decide +kernel⟩
abbrev s_is_short_row : Stmt := top 13
theorem sc_is_short_row : FnScope ["value", "least", "most"] ["value", "least", "most"] (defScope s_is_short_row) := ⟨rfl, rfl, rfl, by decide +kernel, rfl, by decide +kernel, by decide +kernel⟩
abbrev s_are_short_rows : Stmt := top 14
theorem sc_are_short_rows : FnScope ["value", "most_rows", "most_length", "length", "row", "x"] ["value", "most_rows", "most_length"] (defScope s_are_short_rows) := ⟨rfl, rfl, rfl, by decide +kernel, rfl, by decide +kernel, by decide +kernel⟩
abbrev s_are_ascending : Stmt := top 15
theorem sc_are_ascending : FnScope ["values", "last", "value"] ["values"] (defScope s_are_ascending) := ⟨rfl, rfl, rfl, by decide +kernel, rfl, by decide +kernel, by decide +kernel⟩
abbrev s_is_lot : Stmt := top 19
theorem sc_is_lot : FnScope ["value"] ["value"] (defScope s_is_lot) := ⟨rfl, rfl, rfl, by decide +kernel, rfl, by decide +kernel, by decide +kernel⟩
abbrev s_need_lot : Stmt := top 20
theorem sc_need_lot : FnScope ["lot"] ["lot"] (defScope s_need_lot) := ⟨rfl, rfl, rfl, by decide +kernel, rfl, by decide +kernel, by decide +kernel⟩
abbrev s_Networku_initu : Stmt := inClass (top 26) 0
theorem sc_Networku_initu : FnScope ["self", "inputs", "layers", "last", "layer", "unit"] ["self", "inputs", "layers", "last"] (defScope s_Networku_initu) := ⟨rfl, rfl, rfl, by decide +kernel, rfl, by decide +kernel, by decide +kernel⟩
abbrev s_Networku_equ : Stmt := inClass (top 26) 1
theorem sc_Networku_equ : FnScope ["self", "value"] ["self", "value"] (defScope s_Networku_equ) := ⟨rfl, rfl, rfl, by decide +kernel, rfl, by decide +kernel, by decide +kernel⟩
abbrev s_are_parts : Stmt := top 28
theorem sc_are_parts : FnScope ["inputs", "layers", "last", "width", "layer", "unit"] ["inputs", "layers", "last"] (defScope s_are_parts) := ⟨rfl, rfl, rfl, by decide +kernel, rfl, by decide +kernel, by decide +kernel⟩
abbrev s_need_network : Stmt := top 29
theorem sc_need_network : FnScope ["network"] ["network"] (defScope s_need_network) := ⟨rfl, rfl, rfl, by decide +kernel, rfl, by decide +kernel, by decide +kernel⟩
abbrev s_is_reading : Stmt := top 31
theorem sc_is_reading : FnScope ["value"] ["value"] (defScope s_is_reading) := ⟨rfl, rfl, rfl, by decide +kernel, rfl, by decide +kernel, by decide +kernel⟩
abbrev s_need_reading : Stmt := top 32
theorem sc_need_reading : FnScope ["reading"] ["reading"] (defScope s_need_reading) := ⟨rfl, rfl, rfl, by decide +kernel, rfl, by decide +kernel, by decide +kernel⟩
abbrev s_row_line : Stmt := top 38
theorem sc_row_line : FnScope ["row", "x"] ["row"] (defScope s_row_line) := ⟨rfl, rfl, rfl, by decide +kernel, rfl, by decide +kernel, by decide +kernel⟩
abbrev s_text_of : Stmt := top 39
theorem sc_text_of : FnScope ["lines"] ["lines"] (defScope s_text_of) := ⟨rfl, rfl, rfl, by decide +kernel, rfl, by decide +kernel, by decide +kernel⟩
abbrev s_lot_text : Stmt := top 40
theorem sc_lot_text : FnScope ["lot", "point"] ["lot"] (defScope s_lot_text) := ⟨rfl, rfl, rfl, by decide +kernel, rfl, by decide +kernel, by decide +kernel⟩
abbrev s_reading_text : Stmt := top 41
theorem sc_reading_text : FnScope ["reading", "above", "below", "lines", "point"] ["reading"] (defScope s_reading_text) := ⟨rfl, rfl, rfl, by decide +kernel, rfl, by decide +kernel, by decide +kernel⟩
abbrev s_network_text : Stmt := top 42
theorem sc_network_text : FnScope ["network", "lines", "layer", "unit"] ["network"] (defScope s_network_text) := ⟨rfl, rfl, rfl, by decide +kernel, rfl, by decide +kernel, by decide +kernel⟩
abbrev s_Linesu_initu : Stmt := inClass (top 43) 0
theorem sc_Linesu_initu : FnScope ["self", "text"] ["self", "text"] (defScope s_Linesu_initu) := ⟨rfl, rfl, rfl, by decide +kernel, rfl, by decide +kernel, by decide +kernel⟩
abbrev s_Lines_line : Stmt := inClass (top 43) 1
theorem sc_Lines_line : FnScope ["self"] ["self"] (defScope s_Lines_line) := ⟨rfl, rfl, rfl, by decide +kernel, rfl, by decide +kernel, by decide +kernel⟩
abbrev s_Lines_row : Stmt := inClass (top 43) 2
theorem sc_Lines_row : FnScope ["self", "least", "most"] ["self", "least", "most"] (defScope s_Lines_row) := ⟨rfl, rfl, rfl, by decide +kernel, rfl, by decide +kernel, by decide +kernel⟩
abbrev s_Lines_go_on : Stmt := inClass (top 43) 3
theorem sc_Lines_go_on : FnScope ["self"] ["self"] (defScope s_Lines_go_on) := ⟨rfl, rfl, rfl, by decide +kernel, rfl, by decide +kernel, by decide +kernel⟩
abbrev s_Lines_word : Stmt := inClass (top 43) 4
theorem sc_Lines_word : FnScope ["self", "word"] ["self", "word"] (defScope s_Lines_word) := ⟨rfl, rfl, rfl, by decide +kernel, rfl, by decide +kernel, by decide +kernel⟩
abbrev s_Lines_close : Stmt := inClass (top 43) 5
theorem sc_Lines_close : FnScope ["self"] ["self"] (defScope s_Lines_close) := ⟨rfl, rfl, rfl, by decide +kernel, rfl, by decide +kernel, by decide +kernel⟩
abbrev s_whole_in : Stmt := top 44
theorem sc_whole_in : FnScope ["word", "digits"] ["word"] (defScope s_whole_in) := ⟨rfl, rfl, rfl, by decide +kernel, rfl, by decide +kernel, by decide +kernel⟩
abbrev s_row_in : Stmt := top 45
theorem sc_row_in : FnScope ["line", "least", "most", "words", "row", "word"] ["line", "least", "most"] (defScope s_row_in) := ⟨rfl, rfl, rfl, by decide +kernel, rfl, by decide +kernel, by decide +kernel⟩
abbrev s_need_text : Stmt := top 46
theorem sc_need_text : FnScope ["text"] ["text"] (defScope s_need_text) := ⟨rfl, rfl, rfl, by decide +kernel, rfl, by decide +kernel, by decide +kernel⟩
abbrev s_points_in : Stmt := top 47
theorem sc_points_in : FnScope ["lines", "length", "word", "found", "row"] ["lines", "length", "word"] (defScope s_points_in) := ⟨rfl, rfl, rfl, by decide +kernel, rfl, by decide +kernel, by decide +kernel⟩
abbrev s_read_lot : Stmt := top 48
theorem sc_read_lot : FnScope ["text", "lines", "lot"] ["text"] (defScope s_read_lot) := ⟨rfl, rfl, rfl, by decide +kernel, rfl, by decide +kernel, by decide +kernel⟩
abbrev s_read_reading : Stmt := top 49
theorem sc_read_reading : FnScope ["text", "lines", "above", "below"] ["text"] (defScope s_read_reading) := ⟨rfl, rfl, rfl, by decide +kernel, rfl, by decide +kernel, by decide +kernel⟩
abbrev s_inputs_in : Stmt := top 50
theorem sc_inputs_in : FnScope ["lines", "line", "inputs"] ["lines"] (defScope s_inputs_in) := ⟨rfl, rfl, rfl, by decide +kernel, rfl, by decide +kernel, by decide +kernel⟩
abbrev s_need_unit : Stmt := top 51
theorem sc_need_unit : FnScope ["lines", "width", "row"] ["lines", "width"] (defScope s_need_unit) := ⟨rfl, rfl, rfl, by decide +kernel, rfl, by decide +kernel, by decide +kernel⟩
abbrev s_layer_in : Stmt := top 52
theorem sc_layer_in : FnScope ["lines", "width", "most", "found"] ["lines", "width", "most"] (defScope s_layer_in) := ⟨rfl, rfl, rfl, by decide +kernel, rfl, by decide +kernel, by decide +kernel⟩
abbrev s_read_network : Stmt := top 53
theorem sc_read_network : FnScope ["text", "lines", "inputs", "layers", "units", "layer", "last"] ["text"] (defScope s_read_network) := ⟨rfl, rfl, rfl, by decide +kernel, rfl, by decide +kernel, by decide +kernel⟩
abbrev s__law_pack : Stmt := top 55
theorem sc__law_pack : FnScope ["script", "spot", "cell", "great"] ["script", "spot"] (defScope s__law_pack) := ⟨rfl, rfl, rfl, by decide +kernel, rfl, by decide +kernel, by decide +kernel⟩
abbrev s__law_dealt : Stmt := top 56
theorem sc__law_dealt : FnScope ["pack", "total", "found", "one", "two"] ["pack", "total"] (defScope s__law_dealt) := ⟨rfl, rfl, rfl, by decide +kernel, rfl, by decide +kernel, by decide +kernel⟩
abbrev s__law_one_of : Stmt := top 57
theorem sc__law_one_of : FnScope ["pack", "items"] ["pack", "items"] (defScope s__law_one_of) := ⟨rfl, rfl, rfl, by decide +kernel, rfl, by decide +kernel, by decide +kernel⟩
abbrev s__law_number_drawn : Stmt := top 58
theorem sc__law_number_drawn : FnScope ["pack"] ["pack"] (defScope s__law_number_drawn) := ⟨rfl, rfl, rfl, by decide +kernel, rfl, by decide +kernel, by decide +kernel⟩
abbrev s__law_rows_drawn : Stmt := top 59
theorem sc__law_rows_drawn : FnScope ["pack", "length", "most", "found", "turn", "at"] ["pack", "length", "most"] (defScope s__law_rows_drawn) := ⟨rfl, rfl, rfl, by decide +kernel, rfl, by decide +kernel, by decide +kernel⟩
abbrev s__law_parts_drawn : Stmt := top 60
theorem sc__law_parts_drawn : FnScope ["pack", "inputs", "layers", "seen", "turn", "many", "at", "unit"] ["pack"] (defScope s__law_parts_drawn) := ⟨rfl, rfl, rfl, by decide +kernel, rfl, by decide +kernel, by decide +kernel⟩
abbrev s__law_line : Stmt := top 61
theorem sc__law_line : FnScope ["row", "one"] ["row"] (defScope s__law_line) := ⟨rfl, rfl, rfl, by decide +kernel, rfl, by decide +kernel, by decide +kernel⟩
abbrev s__law_joined : Stmt := top 62
theorem sc__law_joined : FnScope ["lines", "line"] ["lines"] (defScope s__law_joined) := ⟨rfl, rfl, rfl, by decide +kernel, rfl, by decide +kernel, by decide +kernel⟩
abbrev s__law_network_lines : Stmt := top 63
theorem sc__law_network_lines : FnScope ["inputs", "layers", "last", "found", "layer", "unit"] ["inputs", "layers", "last"] (defScope s__law_network_lines) := ⟨rfl, rfl, rfl, by decide +kernel, rfl, by decide +kernel, by decide +kernel⟩
abbrev s__law_right : Stmt := top 64
theorem sc__law_right : FnScope ["pack", "length", "one", "other", "lines", "row", "inputs", "layers", "last", "real", "back"] ["pack"] (defScope s__law_right) := ⟨rfl, rfl, rfl, by decide +kernel, rfl, by decide +kernel, by decide +kernel⟩
abbrev s_law : Stmt := top 65
theorem sc_law : FnScope ["script", "spot", "pack", "turn", "ramp"] ["script"] (defScope s_law) := ⟨rfl, rfl, rfl, by decide +kernel, rfl, by decide +kernel, by decide +kernel⟩
abbrev scC__law_parts_drawn_unit : Scope := { kind := .function, names := [(Str.ofString ".0", .local), (Str.ofString "unit", .local), (Str.ofString "tuple", .globalImplicit), (Str.ofString "range", .globalImplicit), (Str.ofString "pack", .cell), (Str.ofString "seen", .cell)], isGenerator := false, isCoroutine := false, more := [] }
structure Txt (K : PySem.W.Frag) (mg : Str → Option Value) where
  a_is_whole : Addr
  d_is_whole : FuncData
  F_is_whole : Fun K "is_whole" "is_whole" s_is_whole a_is_whole d_is_whole
  b_is_whole : Binds K d_is_whole ["value"] []
  m_is_whole : mg "is_whole" = some (.ref a_is_whole)
  k_is_whole : PySem.W.keepIn K (.ref a_is_whole) = true
  a_is_short : Addr
  d_is_short : FuncData
  F_is_short : Fun K "is_short" "is_short" s_is_short a_is_short d_is_short
  b_is_short : Binds K d_is_short ["value"] []
  m_is_short : mg "is_short" = some (.ref a_is_short)
  k_is_short : PySem.W.keepIn K (.ref a_is_short) = true
  a_are_short : Addr
  d_are_short : FuncData
  F_are_short : Fun K "are_short" "are_short" s_are_short a_are_short d_are_short
  b_are_short : Binds K d_are_short ["values"] []
  m_are_short : mg "are_short" = some (.ref a_are_short)
  k_are_short : PySem.W.keepIn K (.ref a_are_short) = true
  a_is_short_row : Addr
  d_is_short_row : FuncData
  F_is_short_row : Fun K "is_short_row" "is_short_row" s_is_short_row a_is_short_row d_is_short_row
  b_is_short_row : Binds K d_is_short_row ["value", "least", "most"] []
  m_is_short_row : mg "is_short_row" = some (.ref a_is_short_row)
  k_is_short_row : PySem.W.keepIn K (.ref a_is_short_row) = true
  a_are_short_rows : Addr
  d_are_short_rows : FuncData
  F_are_short_rows : Fun K "are_short_rows" "are_short_rows" s_are_short_rows a_are_short_rows d_are_short_rows
  b_are_short_rows : Binds K d_are_short_rows ["value", "most_rows", "most_length"] []
  m_are_short_rows : mg "are_short_rows" = some (.ref a_are_short_rows)
  k_are_short_rows : PySem.W.keepIn K (.ref a_are_short_rows) = true
  a_are_ascending : Addr
  d_are_ascending : FuncData
  F_are_ascending : Fun K "are_ascending" "are_ascending" s_are_ascending a_are_ascending d_are_ascending
  b_are_ascending : Binds K d_are_ascending ["values"] []
  m_are_ascending : mg "are_ascending" = some (.ref a_are_ascending)
  k_are_ascending : PySem.W.keepIn K (.ref a_are_ascending) = true
  a_is_lot : Addr
  d_is_lot : FuncData
  F_is_lot : Fun K "is_lot" "is_lot" s_is_lot a_is_lot d_is_lot
  b_is_lot : Binds K d_is_lot ["value"] []
  m_is_lot : mg "is_lot" = some (.ref a_is_lot)
  k_is_lot : PySem.W.keepIn K (.ref a_is_lot) = true
  a_need_lot : Addr
  d_need_lot : FuncData
  F_need_lot : Fun K "need_lot" "need_lot" s_need_lot a_need_lot d_need_lot
  b_need_lot : Binds K d_need_lot ["lot"] []
  m_need_lot : mg "need_lot" = some (.ref a_need_lot)
  k_need_lot : PySem.W.keepIn K (.ref a_need_lot) = true
  a_Networku_initu : Addr
  d_Networku_initu : FuncData
  F_Networku_initu : Fun K "__init__" "Network.__init__" s_Networku_initu a_Networku_initu d_Networku_initu
  b_Networku_initu : Binds K d_Networku_initu ["self", "inputs", "layers", "last"] []
  a_Networku_equ : Addr
  d_Networku_equ : FuncData
  F_Networku_equ : Fun K "__eq__" "Network.__eq__" s_Networku_equ a_Networku_equ d_Networku_equ
  b_Networku_equ : Binds K d_Networku_equ ["self", "value"] []
  a_are_parts : Addr
  d_are_parts : FuncData
  F_are_parts : Fun K "are_parts" "are_parts" s_are_parts a_are_parts d_are_parts
  b_are_parts : Binds K d_are_parts ["inputs", "layers", "last"] []
  m_are_parts : mg "are_parts" = some (.ref a_are_parts)
  k_are_parts : PySem.W.keepIn K (.ref a_are_parts) = true
  a_need_network : Addr
  d_need_network : FuncData
  F_need_network : Fun K "need_network" "need_network" s_need_network a_need_network d_need_network
  b_need_network : Binds K d_need_network ["network"] []
  m_need_network : mg "need_network" = some (.ref a_need_network)
  k_need_network : PySem.W.keepIn K (.ref a_need_network) = true
  a_is_reading : Addr
  d_is_reading : FuncData
  F_is_reading : Fun K "is_reading" "is_reading" s_is_reading a_is_reading d_is_reading
  b_is_reading : Binds K d_is_reading ["value"] []
  m_is_reading : mg "is_reading" = some (.ref a_is_reading)
  k_is_reading : PySem.W.keepIn K (.ref a_is_reading) = true
  a_need_reading : Addr
  d_need_reading : FuncData
  F_need_reading : Fun K "need_reading" "need_reading" s_need_reading a_need_reading d_need_reading
  b_need_reading : Binds K d_need_reading ["reading"] []
  m_need_reading : mg "need_reading" = some (.ref a_need_reading)
  k_need_reading : PySem.W.keepIn K (.ref a_need_reading) = true
  a_row_line : Addr
  d_row_line : FuncData
  F_row_line : Fun K "row_line" "row_line" s_row_line a_row_line d_row_line
  b_row_line : Binds K d_row_line ["row"] []
  m_row_line : mg "row_line" = some (.ref a_row_line)
  k_row_line : PySem.W.keepIn K (.ref a_row_line) = true
  a_text_of : Addr
  d_text_of : FuncData
  F_text_of : Fun K "text_of" "text_of" s_text_of a_text_of d_text_of
  b_text_of : Binds K d_text_of ["lines"] []
  m_text_of : mg "text_of" = some (.ref a_text_of)
  k_text_of : PySem.W.keepIn K (.ref a_text_of) = true
  a_lot_text : Addr
  d_lot_text : FuncData
  F_lot_text : Fun K "lot_text" "lot_text" s_lot_text a_lot_text d_lot_text
  b_lot_text : Binds K d_lot_text ["lot"] []
  m_lot_text : mg "lot_text" = some (.ref a_lot_text)
  k_lot_text : PySem.W.keepIn K (.ref a_lot_text) = true
  a_reading_text : Addr
  d_reading_text : FuncData
  F_reading_text : Fun K "reading_text" "reading_text" s_reading_text a_reading_text d_reading_text
  b_reading_text : Binds K d_reading_text ["reading"] []
  m_reading_text : mg "reading_text" = some (.ref a_reading_text)
  k_reading_text : PySem.W.keepIn K (.ref a_reading_text) = true
  a_network_text : Addr
  d_network_text : FuncData
  F_network_text : Fun K "network_text" "network_text" s_network_text a_network_text d_network_text
  b_network_text : Binds K d_network_text ["network"] []
  m_network_text : mg "network_text" = some (.ref a_network_text)
  k_network_text : PySem.W.keepIn K (.ref a_network_text) = true
  a_Linesu_initu : Addr
  d_Linesu_initu : FuncData
  F_Linesu_initu : Fun K "__init__" "Lines.__init__" s_Linesu_initu a_Linesu_initu d_Linesu_initu
  b_Linesu_initu : Binds K d_Linesu_initu ["self", "text"] []
  a_Lines_line : Addr
  d_Lines_line : FuncData
  F_Lines_line : Fun K "line" "Lines.line" s_Lines_line a_Lines_line d_Lines_line
  b_Lines_line : Binds K d_Lines_line ["self"] []
  a_Lines_row : Addr
  d_Lines_row : FuncData
  F_Lines_row : Fun K "row" "Lines.row" s_Lines_row a_Lines_row d_Lines_row
  b_Lines_row : Binds K d_Lines_row ["self", "least", "most"] []
  a_Lines_go_on : Addr
  d_Lines_go_on : FuncData
  F_Lines_go_on : Fun K "go_on" "Lines.go_on" s_Lines_go_on a_Lines_go_on d_Lines_go_on
  b_Lines_go_on : Binds K d_Lines_go_on ["self"] []
  a_Lines_word : Addr
  d_Lines_word : FuncData
  F_Lines_word : Fun K "word" "Lines.word" s_Lines_word a_Lines_word d_Lines_word
  b_Lines_word : Binds K d_Lines_word ["self", "word"] []
  a_Lines_close : Addr
  d_Lines_close : FuncData
  F_Lines_close : Fun K "close" "Lines.close" s_Lines_close a_Lines_close d_Lines_close
  b_Lines_close : Binds K d_Lines_close ["self"] []
  a_whole_in : Addr
  d_whole_in : FuncData
  F_whole_in : Fun K "whole_in" "whole_in" s_whole_in a_whole_in d_whole_in
  b_whole_in : Binds K d_whole_in ["word"] []
  m_whole_in : mg "whole_in" = some (.ref a_whole_in)
  k_whole_in : PySem.W.keepIn K (.ref a_whole_in) = true
  a_row_in : Addr
  d_row_in : FuncData
  F_row_in : Fun K "row_in" "row_in" s_row_in a_row_in d_row_in
  b_row_in : Binds K d_row_in ["line", "least", "most"] []
  m_row_in : mg "row_in" = some (.ref a_row_in)
  k_row_in : PySem.W.keepIn K (.ref a_row_in) = true
  a_need_text : Addr
  d_need_text : FuncData
  F_need_text : Fun K "need_text" "need_text" s_need_text a_need_text d_need_text
  b_need_text : Binds K d_need_text ["text"] []
  m_need_text : mg "need_text" = some (.ref a_need_text)
  k_need_text : PySem.W.keepIn K (.ref a_need_text) = true
  a_points_in : Addr
  d_points_in : FuncData
  F_points_in : Fun K "points_in" "points_in" s_points_in a_points_in d_points_in
  b_points_in : Binds K d_points_in ["lines", "length", "word"] []
  m_points_in : mg "points_in" = some (.ref a_points_in)
  k_points_in : PySem.W.keepIn K (.ref a_points_in) = true
  a_read_lot : Addr
  d_read_lot : FuncData
  F_read_lot : Fun K "read_lot" "read_lot" s_read_lot a_read_lot d_read_lot
  b_read_lot : Binds K d_read_lot ["text"] []
  m_read_lot : mg "read_lot" = some (.ref a_read_lot)
  k_read_lot : PySem.W.keepIn K (.ref a_read_lot) = true
  a_read_reading : Addr
  d_read_reading : FuncData
  F_read_reading : Fun K "read_reading" "read_reading" s_read_reading a_read_reading d_read_reading
  b_read_reading : Binds K d_read_reading ["text"] []
  m_read_reading : mg "read_reading" = some (.ref a_read_reading)
  k_read_reading : PySem.W.keepIn K (.ref a_read_reading) = true
  a_inputs_in : Addr
  d_inputs_in : FuncData
  F_inputs_in : Fun K "inputs_in" "inputs_in" s_inputs_in a_inputs_in d_inputs_in
  b_inputs_in : Binds K d_inputs_in ["lines"] []
  m_inputs_in : mg "inputs_in" = some (.ref a_inputs_in)
  k_inputs_in : PySem.W.keepIn K (.ref a_inputs_in) = true
  a_need_unit : Addr
  d_need_unit : FuncData
  F_need_unit : Fun K "need_unit" "need_unit" s_need_unit a_need_unit d_need_unit
  b_need_unit : Binds K d_need_unit ["lines", "width"] []
  m_need_unit : mg "need_unit" = some (.ref a_need_unit)
  k_need_unit : PySem.W.keepIn K (.ref a_need_unit) = true
  a_layer_in : Addr
  d_layer_in : FuncData
  F_layer_in : Fun K "layer_in" "layer_in" s_layer_in a_layer_in d_layer_in
  b_layer_in : Binds K d_layer_in ["lines", "width", "most"] []
  m_layer_in : mg "layer_in" = some (.ref a_layer_in)
  k_layer_in : PySem.W.keepIn K (.ref a_layer_in) = true
  a_read_network : Addr
  d_read_network : FuncData
  F_read_network : Fun K "read_network" "read_network" s_read_network a_read_network d_read_network
  b_read_network : Binds K d_read_network ["text"] []
  m_read_network : mg "read_network" = some (.ref a_read_network)
  k_read_network : PySem.W.keepIn K (.ref a_read_network) = true
  a__law_pack : Addr
  d__law_pack : FuncData
  F__law_pack : Fun K "_law_pack" "_law_pack" s__law_pack a__law_pack d__law_pack
  b__law_pack : Binds K d__law_pack ["script", "spot"] []
  m__law_pack : mg "_law_pack" = some (.ref a__law_pack)
  k__law_pack : PySem.W.keepIn K (.ref a__law_pack) = true
  a__law_dealt : Addr
  d__law_dealt : FuncData
  F__law_dealt : Fun K "_law_dealt" "_law_dealt" s__law_dealt a__law_dealt d__law_dealt
  b__law_dealt : Binds K d__law_dealt ["pack", "total"] []
  m__law_dealt : mg "_law_dealt" = some (.ref a__law_dealt)
  k__law_dealt : PySem.W.keepIn K (.ref a__law_dealt) = true
  a__law_one_of : Addr
  d__law_one_of : FuncData
  F__law_one_of : Fun K "_law_one_of" "_law_one_of" s__law_one_of a__law_one_of d__law_one_of
  b__law_one_of : Binds K d__law_one_of ["pack", "items"] []
  m__law_one_of : mg "_law_one_of" = some (.ref a__law_one_of)
  k__law_one_of : PySem.W.keepIn K (.ref a__law_one_of) = true
  a__law_number_drawn : Addr
  d__law_number_drawn : FuncData
  F__law_number_drawn : Fun K "_law_number_drawn" "_law_number_drawn" s__law_number_drawn a__law_number_drawn d__law_number_drawn
  b__law_number_drawn : Binds K d__law_number_drawn ["pack"] []
  m__law_number_drawn : mg "_law_number_drawn" = some (.ref a__law_number_drawn)
  k__law_number_drawn : PySem.W.keepIn K (.ref a__law_number_drawn) = true
  a__law_rows_drawn : Addr
  d__law_rows_drawn : FuncData
  F__law_rows_drawn : Fun K "_law_rows_drawn" "_law_rows_drawn" s__law_rows_drawn a__law_rows_drawn d__law_rows_drawn
  b__law_rows_drawn : Binds K d__law_rows_drawn ["pack", "length", "most"] []
  m__law_rows_drawn : mg "_law_rows_drawn" = some (.ref a__law_rows_drawn)
  k__law_rows_drawn : PySem.W.keepIn K (.ref a__law_rows_drawn) = true
  a__law_parts_drawn : Addr
  d__law_parts_drawn : FuncData
  F__law_parts_drawn : Fun K "_law_parts_drawn" "_law_parts_drawn" s__law_parts_drawn a__law_parts_drawn d__law_parts_drawn
  b__law_parts_drawn : Binds K d__law_parts_drawn ["pack"] []
  m__law_parts_drawn : mg "_law_parts_drawn" = some (.ref a__law_parts_drawn)
  k__law_parts_drawn : PySem.W.keepIn K (.ref a__law_parts_drawn) = true
  a__law_line : Addr
  d__law_line : FuncData
  F__law_line : Fun K "_law_line" "_law_line" s__law_line a__law_line d__law_line
  b__law_line : Binds K d__law_line ["row"] []
  m__law_line : mg "_law_line" = some (.ref a__law_line)
  k__law_line : PySem.W.keepIn K (.ref a__law_line) = true
  a__law_joined : Addr
  d__law_joined : FuncData
  F__law_joined : Fun K "_law_joined" "_law_joined" s__law_joined a__law_joined d__law_joined
  b__law_joined : Binds K d__law_joined ["lines"] []
  m__law_joined : mg "_law_joined" = some (.ref a__law_joined)
  k__law_joined : PySem.W.keepIn K (.ref a__law_joined) = true
  a__law_network_lines : Addr
  d__law_network_lines : FuncData
  F__law_network_lines : Fun K "_law_network_lines" "_law_network_lines" s__law_network_lines a__law_network_lines d__law_network_lines
  b__law_network_lines : Binds K d__law_network_lines ["inputs", "layers", "last"] []
  m__law_network_lines : mg "_law_network_lines" = some (.ref a__law_network_lines)
  k__law_network_lines : PySem.W.keepIn K (.ref a__law_network_lines) = true
  a__law_right : Addr
  d__law_right : FuncData
  F__law_right : Fun K "_law_right" "_law_right" s__law_right a__law_right d__law_right
  b__law_right : Binds K d__law_right ["pack"] []
  m__law_right : mg "_law_right" = some (.ref a__law_right)
  k__law_right : PySem.W.keepIn K (.ref a__law_right) = true
  a_law : Addr
  d_law : FuncData
  F_law : Fun K "law" "law" s_law a_law d_law
  b_law : Binds K d_law ["script"] []
  t_BEYOND : Tok
  m_BEYOND : mg "BEYOND" = some (.int (10 ^ 60) t_BEYOND)
  t_BENEATH : Tok
  m_BENEATH : mg "BENEATH" = some (.int (-(10 ^ 60)) t_BENEATH)
  t_MOST_POINTS : Tok
  m_MOST_POINTS : mg "MOST_POINTS" = some (.int 400 t_MOST_POINTS)
  t_MOST_MEMBERS : Tok
  m_MOST_MEMBERS : mg "MOST_MEMBERS" = some (.int 8 t_MOST_MEMBERS)
  t_MOST_INPUTS : Tok
  m_MOST_INPUTS : mg "MOST_INPUTS" = some (.int 8 t_MOST_INPUTS)
  t_MOST_LAYERS : Tok
  m_MOST_LAYERS : mg "MOST_LAYERS" = some (.int 4 t_MOST_LAYERS)
  t_MOST_IN_LAYER : Tok
  m_MOST_IN_LAYER : mg "MOST_IN_LAYER" = some (.int 64 t_MOST_IN_LAYER)
  t_MOST_UNITS : Tok
  m_MOST_UNITS : mg "MOST_UNITS" = some (.int 128 t_MOST_UNITS)
  t_MOST_TEXT : Tok
  m_MOST_TEXT : mg "MOST_TEXT" = some (.int 1200000 t_MOST_TEXT)
  t_MOST_DIGITS : Tok
  m_MOST_DIGITS : mg "MOST_DIGITS" = some (.int 60 t_MOST_DIGITS)
  t_BLANKS : Tok
  m_BLANKS : mg "BLANKS" = some (.str (Str.ofString "  ") t_BLANKS)
  t_HEAD : Tok
  m_HEAD : mg "HEAD" = some (.str (Str.ofString "network ") t_HEAD)
  n_isinstance : mg "isinstance" = none
  n_int : mg "int" = none
  n_bool : mg "bool" = none
  n_tuple : mg "tuple" = none
  n_list : mg "list" = none
  n_len : mg "len" = none
  n_sum : mg "sum" = none
  n_all : mg "all" = none
  n_any : mg "any" = none
  n_zip : mg "zip" = none
  n_max : mg "max" = none
  n_min : mg "min" = none
  n_abs : mg "abs" = none
  n_range : mg "range" = none
  n_enumerate : mg "enumerate" = none
  n_reversed : mg "reversed" = none
  n_sorted : mg "sorted" = none
  n_str : mg "str" = none
  C : Addr
  cl : Cls K C
  na_inputs : NoAttr K C "inputs"
  na_layers : NoAttr K C "layers"
  na_last : NoAttr K C "last"
  na_depth : NoAttr K C "depth"
  na_units : NoAttr K C "units"
  m_Network : mg "Network" = some (.ref C)
  M_Network : Mk K C a_Networku_initu
  isC : InsC K C
  o_eq : PySem.W.findIn K (.ref C) "__eq__" = some (some (.ref a_Networku_equ))
  o_fn : PySem.W.isFn K (.ref a_Networku_equ) = true
  o_ne : PySem.W.findIn K (.ref C) "__ne__" = some (some (.builtin "object.__ne__"))
  o_sub : PySem.W.notFirst K C (.ref C) = true
  kC : PySem.W.kitOne K (.ref C) (.ref C) = some true
  CL : Addr
  cl_Lines : Cls K CL
  m_Lines : mg "Lines" = some (.ref CL)
  M_Lines : Mk K CL a_Linesu_initu
  na_Lines_lines : NoAttr K CL "lines"
  na_Lines_at : NoAttr K CL "at"
  me_Lines_line : Meth K CL "line" a_Lines_line
  me_Lines_row : Meth K CL "row" a_Lines_row
  me_Lines_go_on : Meth K CL "go_on" a_Lines_go_on
  me_Lines_word : Meth K CL "word" a_Lines_word
  me_Lines_close : Meth K CL "close" a_Lines_close
  icl : PySem.W.isClsIn K C = true
  tyC : PySem.W.typeIn K (.ref C) = some (.type "type")
  ns_non : PySem.W.notFirst K C (.type "NoneType") = true
  sb_non : PySem.W.subIn K (.type "NoneType") (.ref C) = some false
  kt_non : PySem.W.kitOne K (.type "NoneType") (.ref C) = some false
  ns_int : PySem.W.notFirst K C (.type "int") = true
  sb_int : PySem.W.subIn K (.type "int") (.ref C) = some false
  kt_int : PySem.W.kitOne K (.type "int") (.ref C) = some false
  ns_tup : PySem.W.notFirst K C (.type "tuple") = true
  sb_tup : PySem.W.subIn K (.type "tuple") (.ref C) = some false
  kt_tup : PySem.W.kitOne K (.type "tuple") (.ref C) = some false
end N85

set_option Elab.async false
set_option linter.all false
set_option maxRecDepth 100000
set_option maxHeartbeats 4000000
namespace N85
open PySem PySem.Spec PyProof.Rows L2 RW

def rowD (r : List Int) : Dat := .tup (r.map Dat.int)
def layD (l : List (List Int)) : Dat := .tup (l.map rowD)
def laysD (L : List (List (List Int))) : Dat := .tup (L.map layD)
def Sh (i : Int) : Prop := -(10 ^ 60) < i ∧ i < 10 ^ 60
theorem Sh.wide {i : Int} (h : Sh i) : -(10 ^ 60) < i ∧ i < 10 ^ 60 := h
theorem Sh.bits {i : Int} (h : Sh i) : i.natAbs < 2 ^ 200 := by
  unfold Sh at h
  have e : (10 : Nat) ^ 60 ≤ 2 ^ 200 := by decide
  have : i.natAbs < 10 ^ 60 := by omega
  omega
theorem log2_le {x k : Nat} (h : x < 2 ^ k) : x.log2 ≤ k := by
  by_cases hx : x = 0
  · subst hx; simp
  · exact Nat.le_of_lt ((Nat.log2_lt hx).mpr h)
/-- values of units: far below what the numbers of the program may be -/
def Big (k : Nat) (v : List Int) : Prop := ∀ y ∈ v, y.natAbs < 2 ^ k
theorem cmw {i j : Int} {k : Nat} (h1 : Sh i) (h2 : j.natAbs < 2 ^ k) (hk : k ≤ 100000) : CMulW i j := by
  have a := log2_le h1.bits
  have b := log2_le h2
  unfold CMulW
  omega
def Rw (r : List Int) (n : Nat) : Prop := r.length = n ∧ ∀ x ∈ r, Sh x
def dot (u v : List Int) : Int := ((u.zip v).map fun p => p.1 * p.2).sum
def gInt (ss : List Sl) (S : List Dat) (r : Dat) (S' : List Dat) : Prop := ∃ i : Int, ss = [.d (.int i)] ∧ r = .bl true ∧ S' = S
def gShort (ss : List Sl) (S : List Dat) (r : Dat) (S' : List Dat) : Prop := ∃ i : Int, ss = [.d (.int i)] ∧ Sh i ∧ r = .bl true ∧ S' = S
def gShorts (ss : List Sl) (S : List Dat) (r : Dat) (S' : List Dat) : Prop := ∃ u : List Int, ss = [.d (rowD u)] ∧ (∀ x ∈ u, Sh x) ∧ r = .bl true ∧ S' = S
def gSRow (ss : List Sl) (S : List Dat) (r : Dat) (S' : List Dat) : Prop := ∃ (u : List Int) (n : Nat) (a b : Int), ss = [.d (rowD u), .d (.int a), .d (.int b)] ∧ Rw u n ∧ a ≤ n ∧ n ≤ b ∧ n ≤ 1000 ∧ r = .bl true ∧ S' = S
def gDot (ss : List Sl) (S : List Dat) (r : Dat) (S' : List Dat) : Prop := ∃ (u v : List Int), ss = [.d (rowD u), .d (.lst (v.map Dat.int))] ∧ Rw u v.length ∧ v.length ≤ 1000 ∧ Big 4000 v ∧ r = .int (dot u v) ∧ S' = S
theorem o_mulW {K : PySem.W.Frag} {S : List Dat} {i j : Int} (h : CMulW i j) : Op2 K (rI CMulW fun i j => V.int (i * j)) (.d (.int i)) (.d (.int j)) S (.int (i * j)) := op2_int h fun B => .int _
theorem dot_b {k : Nat} : ∀ (u v : List Int), (∀ x ∈ u, Sh x) → Big k v → (dot u v).natAbs ≤ u.length * 2 ^ (200 + k)
  | [], v, _, _ => by simp [dot]
  | x :: u, [], _, _ => by simp [dot]
  | x :: u, y :: v, h1, h2 => by
    have ih := dot_b u v (fun x hx => h1 x (List.mem_cons_of_mem _ hx)) (fun y hy => h2 y (List.mem_cons_of_mem _ hy))
    have a := (h1 x List.mem_cons_self).bits
    have b := h2 y List.mem_cons_self
    have c : x.natAbs * y.natAbs ≤ 2 ^ 200 * 2 ^ k := Nat.mul_le_mul (Nat.le_of_lt a) (Nat.le_of_lt b)
    rw [← Nat.pow_add] at c
    have e : dot (x :: u) (y :: v) = x * y + dot u v := by unfold dot; rw [List.zip_cons_cons, List.map_cons, List.sum_cons]
    rw [e, List.length_cons, Nat.add_mul, Nat.one_mul]
    have d := Int.natAbs_add_le (x * y) (dot u v)
    rw [Int.natAbs_mul] at d
    omega
theorem dot_big {k : Nat} {u v : List Int} (h1 : ∀ x ∈ u, Sh x) (h2 : Big k v) (hl : u.length ≤ 255) : (dot u v).natAbs < 2 ^ (k + 208) := by
  have := dot_b u v h1 h2
  have e : 2 ^ (k + 208) = 256 * 2 ^ (200 + k) := by rw [show k + 208 = 8 + (200 + k) by omega, Nat.pow_add 2 8]
  have p : 0 < 2 ^ (200 + k) := Nat.pow_pos (by decide)
  have q : u.length * 2 ^ (200 + k) ≤ 255 * 2 ^ (200 + k) := Nat.mul_le_mul_right _ hl
  omega
theorem Big.mono {k m : Nat} {v : List Int} (h : Big k v) (hm : k ≤ m) : Big m v := fun y hy => Nat.lt_of_lt_of_le (h y hy) (Nat.pow_le_pow_right (by decide) hm)
theorem size_1000 {n : Nat} (h : n ≤ 1000) : n ≤ sizeLine := Nat.le_trans h (by decide)
section
variable {P : Program} {w : World} {K : PySem.W.Frag} {mg : Str → Option Value} {base : Heap}

theorem ok_is_whole (T : Txt K mg) : FnOk P w K mg base CX0 1 T.a_is_whole T.d_is_whole ["value"] (SpD K (gInt)) := by
  refine T.F_is_whole.ok sc_is_whole (spd_len (k := 1) fun ss S r S' hg => ?_) (fun cdv A outer s H vs Q E hr h => ⟨_, (pss_one (ps_ret (pe_and (pe_callB call_isi (by rfl) T.n_isinstance (by decide +kernel) (pa_cons (pv 0) (pa_cons (pe_bltn (v := .ty "int") (by rfl) T.n_int (by decide +kernel) rfl) pa_nil))) (pe_and (pe_cmpR op_notX (pv 0) pe_bl (nomark _)) (pe_one (pe_cmpR op_notX (pv 0) pe_bl (nomark _))))))), sp_body h fun ss S r S' hg => ?_⟩)
  · obtain ⟨i, rfl, _⟩ := hg; rfl
  · obtain ⟨i, rfl, rfl, rfl⟩ := hg
    refine sp_ret (d := .bl true) ?_ ⟨rfl, List.take_length⟩
    refine ev_andV (a := true) (b := true) ?_ fun _ => ev_andV (a := true) (b := true) ?_ fun _ => ?_
    · exact ev_cb (ea_cons (ev_var rfl) (ea_cons ev_ty ea_nil)) (cd_isi (T := "int") rfl (by decide +kernel))
    · exact ev_op (ev_var rfl) ev_bl o_isX_int
    · exact ev_op (ev_var rfl) ev_bl o_isX_int
theorem ok_is_short (T : Txt K mg) : FnOk P w K mg base CX0 2 T.a_is_short T.d_is_short ["value"] (SpD K (gShort)) := by
  have G_is_whole := ok_is_whole (P := P) (w := w) (base := base) T
  have b_is_whole := T.b_is_whole
  refine T.F_is_short.ok sc_is_short (spd_len (k := 1) fun ss S r S' hg => ?_) (fun cdv A outer s H vs Q E hr h => ⟨_, (pss_one (ps_ret (pe_and (pe_call G_is_whole (hr.mono (by decide)) rfl T.m_is_whole T.k_is_whole b_is_whole .nil pass0 (pa_cons (pv 0) pa_nil)) (pe_one (pe_chain op_lt op_lt (pe_glob (v := .int (-(10 ^ 60))) rfl T.m_BENEATH ⟨_, rfl⟩) (pv 0) (pe_glob (v := .int (10 ^ 60)) rfl T.m_BEYOND ⟨_, rfl⟩)))))), sp_body h fun ss S r S' hg => ?_⟩)
  · obtain ⟨i, rfl, _⟩ := hg; rfl
  · obtain ⟨i, rfl, hi, rfl, rfl⟩ := hg
    refine sp_ret (d := .bl true) ?_ ⟨rfl, List.take_length⟩
    refine ev_andV (a := true) (b := true) ?_ fun _ => ?_
    · exact ev_call (ea_cons (ev_var rfl) ea_nil) ⟨i, rfl, rfl, rfl⟩
    · exact ev_chain (a := true) (b := true) ev_int (ev_var rfl) (o_ltT hi.wide.1) (fun _ => ev_int) (fun _ => o_ltT hi.wide.2)
theorem ok_are_short (T : Txt K mg) : FnOk P w K mg base CX0 1 T.a_are_short T.d_are_short ["values"] (SpD K (gShorts)) := by
  refine T.F_are_short.ok sc_are_short (spd_len (k := 1) fun ss S r S' hg => ?_) (fun cdv A outer s H vs Q E hr h => ⟨_, (pss_cons (ps_for PassesOwn.never rfl (pi_seqK K (pv 0)) (pg_name (i := 1) sc_are_short.nd rfl (by first | exact Or.inl rfl | exact Or.inr rfl)) (pss_one (ps_if (PW.pt (pw_or (pt_not (pt_truK K (pe_callB call_isi (by rfl) T.n_isinstance (by decide +kernel) (pa_cons (pv 1) (pa_cons (pe_bltn (v := .ty "int") (by rfl) T.n_int (by decide +kernel) rfl) pa_nil))))) (pw_or (pt_cmpR op_isX (pv 1) pe_bl (nomark _)) (pw_or (pt_cmpR op_isX (pv 1) pe_bl (nomark _)) (pw_or (pt_cmpR op_le (pv 1) (pe_glob (v := .int (-(10 ^ 60))) rfl T.m_BENEATH ⟨_, rfl⟩) (nomark _)) (pw_or1 (pt_cmpR op_ge (pv 1) (pe_glob (v := .int (10 ^ 60)) rfl T.m_BEYOND ⟨_, rfl⟩) (nomark _)))))))) (pss_one (ps_ret pe_bl)) pss_nil))) (pss_one (ps_ret pe_bl))), sp_body h fun ss S r S' hg => ?_⟩)
  · obtain ⟨i, rfl, _⟩ := hg; rfl
  · obtain ⟨u, rfl, hu, rfl, rfl⟩ := hg
    refine sp_seq (P' := { nx := fun env' S2 => S2 = S' ∧ ∃ o1, env' = [some (.d (rowD u)), o1] })
      (sp_forA (xs := u) (g := Dat.int) (it_tup (ev_var rfl)) (fun i env' S2 => S2 = S' ∧ ∃ o1, env' = [some (.d (rowD u)), o1]) ⟨rfl, none, rfl⟩ (fun _ _ _ _ _ _ _ _ _ => trivial) ?_ ?_) ?_
    · rintro i x env' S2 hx ⟨rfl, o1, rfl⟩
      have hs := hu x (List.mem_of_getElem? hx)
      refine ⟨[1], fun env => env.set 1 (some (.d (.int x))), tg_name, ?_⟩
      refine sp_if (b := false) (et_orP (a := false) (b := false) (et_not (a := true) (et_bl (ev_cb (ea_cons (ev_var rfl) (ea_cons ev_ty ea_nil)) (cd_isi (T := "int") rfl (by decide +kernel))))) fun _ => et_orP (a := false) (b := false) (et_test (ev_op (ev_var rfl) ev_bl o_isX_int)) fun _ => et_orP (a := false) (b := false) (et_test (ev_op (ev_var rfl) ev_bl o_isX_int)) fun _ => et_orP (a := false) (b := false) (et_test ((ev_op (ev_var rfl) ev_int o_le).to ?_)) fun _ => et_test ((ev_op (ev_var rfl) ev_int o_ge).to ?_)) (fun h => by cases h) fun _ => sp_next ⟨rfl, _, rfl⟩
      · congr 2; exact decide_eq_false (by have := hs.wide.1; omega)
      · congr 2; exact decide_eq_false (by have := hs.wide.2; omega)
    · rintro env' S2 ⟨rfl, o1, rfl⟩
      exact ⟨rfl, o1, rfl⟩
    · rintro env' S2 ⟨rfl, o1, rfl⟩
      exact sp_ret ev_bl ⟨rfl, List.take_length⟩
theorem ok_is_short_row (T : Txt K mg) : FnOk P w K mg base CX0 3 T.a_is_short_row T.d_is_short_row ["value", "least", "most"] (SpD K (gSRow)) := by
  have G_are_short := ok_are_short (P := P) (w := w) (base := base) T
  have b_are_short := T.b_are_short
  refine T.F_is_short_row.ok sc_is_short_row (spd_len (k := 3) fun ss S r S' hg => ?_) (fun cdv A outer s H vs Q E hr h => ⟨_, (pss_one (ps_ret (pe_and (pe_callB call_isi (by rfl) T.n_isinstance (by decide +kernel) (pa_cons (pv 0) (pa_cons (pe_bltn (v := .ty "tuple") (by rfl) T.n_tuple (by decide +kernel) rfl) pa_nil))) (pe_and (pe_chain op_le op_le (pv 1) (pe_callB (call_lenK K) (by rfl) T.n_len (by decide +kernel) (pa_cons (pv 0) pa_nil)) (pv 2)) (pe_one (pe_call G_are_short (hr.mono (by decide)) rfl T.m_are_short T.k_are_short b_are_short .nil pass0 (pa_cons (pv 0) pa_nil))))))), sp_body h fun ss S r S' hg => ?_⟩)
  · obtain ⟨i, n, a, b, rfl, _⟩ := hg; rfl
  · obtain ⟨u, n, lo, hi, rfl, ⟨hn, hu⟩, h1, h2, hz, rfl, rfl⟩ := hg
    refine sp_ret (d := .bl true) ?_ ⟨rfl, List.take_length⟩
    refine ev_andV (a := true) (b := true) ?_ fun _ => ev_andV (a := true) (b := true) ?_ fun _ => ?_
    · exact ev_cb (ea_cons (ev_var rfl) (ea_cons ev_ty ea_nil)) (cd_isi (T := "tuple") rfl (by decide +kernel))
    · refine ev_chain (a := true) (b := true) (ev_var rfl) (ev_cb (ea_cons (ev_var rfl) ea_nil) (cd_len .tup)) (o_leT ?_) (fun _ => ev_var rfl) (fun _ => o_leT ?_)
      all_goals
        rw [List.length_map, hn]
        assumption
    · exact ev_call (ea_cons (ev_var rfl) ea_nil) ⟨u, rfl, hu, rfl, rfl⟩
end
end N85

set_option Elab.async false
set_option linter.all false
set_option maxRecDepth 100000
set_option maxHeartbeats 4000000
namespace N85
open PySem PySem.Spec PyProof.Rows L2 RW

/-! ### the networks as data -/
def lefts (r : List Int) (kp : List Bool) : List Int := ((r.zip kp).filter fun p => p.2).map fun p => p.1
abbrev Lays := List (List (List Int))
def netD (C : Addr) (n : Nat) (L : Lays) (last : List Int) : Dat := .ins C [("inputs", .int n), ("layers", laysD L), ("last", rowD last), ("depth", .int L.length), ("units", .tup (L.flatten.map rowD))]
def WL : Nat → Lays → Prop
  | _, [] => True
  | w, l :: L => (1 ≤ l.length ∧ l.length ≤ 64 ∧ ∀ u ∈ l, Rw u w) ∧ WL (w + l.length) L
structure Wf (n : Nat) (L : Lays) (last : List Int) : Prop where
  n1 : 1 ≤ n
  n8 : n ≤ 8
  l4 : L.length ≤ 4
  wl : WL n L
  u : L.flatten.length ≤ 128
  la : Rw last (n + L.flatten.length)
theorem flat_len_take {L : Lays} {i : Nat} {l : List (List Int)} (h : L[i]? = some l) : (L.take (i + 1)).flatten.length = (L.take i).flatten.length + l.length := by
  have hl := (List.getElem?_eq_some_iff.mp h).1
  have e : L[i] = l := (List.getElem?_eq_some_iff.mp h).2
  rw [List.take_succ_eq_append_getElem hl, e, List.flatten_append, List.length_append]
  simp
theorem WL.get : ∀ {L : Lays} {w i : Nat} {l : List (List Int)}, WL w L → L[i]? = some l → 1 ≤ l.length ∧ l.length ≤ 64 ∧ ∀ u ∈ l, Rw u (w + (L.take i).flatten.length)
  | [], _, _, _, _, e => by simp at e
  | l :: L, w, 0, _, h, e => by simp at e; subst e; simpa using h.1
  | l :: L, w, i + 1, m, h, e => by
    have := WL.get (i := i) (l := m) h.2 (by simpa using e)
    rw [List.take_succ_cons, List.flatten_cons, List.length_append, ← Nat.add_assoc]
    exact this
def vals (L : Lays) (row : List Int) : List Int := L.foldl (fun found l => found ++ l.map fun u => max 0 (dot u found)) row
theorem vals_take {L : Lays} {row : List Int} {i : Nat} {l : List (List Int)} (h : L[i]? = some l) : vals (L.take (i + 1)) row = vals (L.take i) row ++ l.map fun u => max 0 (dot u (vals (L.take i) row)) := by
  have hl := (List.getElem?_eq_some_iff.mp h).1
  have e : L[i] = l := (List.getElem?_eq_some_iff.mp h).2
  unfold vals
  rw [List.take_succ_eq_append_getElem hl, e, List.foldl_append]
  rfl
theorem vals_len : ∀ (L : Lays) (row : List Int), (vals L row).length = row.length + L.flatten.length
  | [], row => by simp [vals]
  | l :: L, row => by
    show (vals L (row ++ l.map _)).length = _
    rw [vals_len L, List.length_append, List.length_map, List.flatten_cons, List.length_append]
    omega
theorem vals_big {n : Nat} : ∀ (L : Lays) (w k : Nat) (row : List Int), WL w L → w + L.flatten.length ≤ 255 → Big k row → Big (k + 208 * L.length) (vals L row)
  | [], _, k, row, _, _, h => h.mono (Nat.le_add_right _ _)
  | l :: L, w, k, row, hw, hl, h => by
    rw [List.flatten_cons, List.length_append] at hl
    show Big _ (vals L (row ++ l.map _))
    have := vals_big (n := n) L (w + l.length) (k + 208) (row ++ l.map fun u => max 0 (dot u row)) hw.2 (by omega) (fun y hy => by
      rcases List.mem_append.mp hy with hy | hy
      · exact h.mono (Nat.le_add_right _ _) y hy
      · obtain ⟨u, hu, rfl⟩ := List.mem_map.mp hy
        have hu2 := hw.1.2.2 u hu
        have hd := dot_big hu2.2 h (by rw [hu2.1]; omega)
        have : (max 0 (dot u row)).natAbs ≤ (dot u row).natAbs := by omega
        exact Nat.lt_of_le_of_lt this hd)
    rw [List.length_cons]
    exact this.mono (by omega)
theorem Wf.big {n : Nat} {L : Lays} {last row : List Int} (h : Wf n L last) (hr : Rw row n) (i : Nat) : Big 4000 (vals (L.take i) row) := by
  have hl : (L.take i).flatten.length ≤ L.flatten.length := by
    conv => rhs; rw [← List.take_append_drop i L, List.flatten_append, List.length_append]
    omega
  have ht : ∀ (L : Lays) (w i : Nat), WL w L → WL w (L.take i) := by
    intro L
    induction L with
    | nil => intro w i _; simp [WL]
    | cons l L ih =>
      intro w i h
      cases i with
      | zero => trivial
      | succ i => exact ⟨h.1, ih _ i h.2⟩
  have := h.u
  have := h.n8
  have b := vals_big (n := n) (L.take i) n 200 row (ht L n i h.wl) (by omega) fun y hy => (hr.2 y hy).bits
  refine b.mono ?_
  have := h.l4
  rw [List.length_take]
  omega
def gLeft (ss : List Sl) (S : List Dat) (r : Dat) (S' : List Dat) : Prop := ∃ (u : List Int) (kp : List Bool), ss = [.d (rowD u), .d (.lst (kp.map Dat.bl))] ∧ u.length ≤ 1000 ∧ r = rowD (lefts u kp) ∧ S' = S
def gNeed (C : Addr) (ss : List Sl) (S : List Dat) (r : Dat) (S' : List Dat) : Prop := ∃ (n : Nat) (L : Lays) (last : List Int), ss = [.d (netD C n L last)] ∧ r = .non ∧ S' = S
def gNeedR (C : Addr) (ss : List Sl) (S : List Dat) (r : Dat) (S' : List Dat) : Prop := ∃ (n : Nat) (L : Lays) (last row : List Int), ss = [.d (netD C n L last), .d (rowD row)] ∧ Rw row n ∧ n ≤ 8 ∧ r = .non ∧ S' = S
def gAll (C : Addr) (ss : List Sl) (S : List Dat) (r : Dat) (S' : List Dat) : Prop := ∃ (n : Nat) (L : Lays) (last row : List Int), ss = [.d (netD C n L last), .d (rowD row)] ∧ Rw row n ∧ Wf n L last ∧ r = .lst ((vals L row).map Dat.int) ∧ S' = S
def gVal (C : Addr) (ss : List Sl) (S : List Dat) (r : Dat) (S' : List Dat) : Prop := ∃ (n : Nat) (L : Lays) (last row : List Int), ss = [.d (netD C n L last), .d (rowD row)] ∧ Rw row n ∧ Wf n L last ∧ r = .int (dot last (vals L row)) ∧ S' = S
theorem Wf.all {n : Nat} {L : Lays} {last : List Int} (h : Wf n L last) (i : Nat) : n + (L.take i).flatten.length ≤ 136 := by
  have : (L.take i).flatten.length ≤ L.flatten.length := by
    conv => rhs; rw [← List.take_append_drop i L, List.flatten_append, List.length_append]
    omega
  have := h.u; have := h.n8
  omega
section
variable {P : Program} {w : World} {K : PySem.W.Frag} {mg : Str → Option Value} {base : Heap}

theorem ok_need_network (T : Txt K mg) : FnOk P w K mg base CX0 1 T.a_need_network T.d_need_network ["network"] (SpD K (gNeed T.C)) := by
  refine T.F_need_network.ok sc_need_network (spd_len (k := 1) fun ss S r S' hg => ?_) (fun cdv A outer s H vs Q E hr h => ⟨_, (pss_one (ps_if (pt_not (pt_truK K (pe_callB call_isi (by rfl) T.n_isinstance (by decide +kernel) (pa_cons (pv 0) (pa_cons (pe_glob (v := .ref T.C) rfl T.m_Network rfl) pa_nil))))) (pss_one ps_never) pss_nil)), sp_body h fun ss S r S' hg => ?_⟩)
  · obtain ⟨i, n, l, rfl, _⟩ := hg; rfl
  · obtain ⟨n, L, last, rfl, rfl, rfl⟩ := hg
    refine sp_if (b := false) (et_not (a := true) (et_bl (ev_cb (ea_cons (ev_var rfl) (ea_cons ev_adr ea_nil)) (cd_isiO T.isC T.kC)))) (fun h => by cases h) fun _ => sp_next ⟨rfl, List.take_length⟩
end
end N85

set_option Elab.async false
set_option linter.all false
set_option maxRecDepth 100000
set_option maxHeartbeats 4000000
namespace N85
open PySem PySem.Spec PyProof.Rows L2 RW

def gParts (ss : List Sl) (S : List Dat) (r : Dat) (S' : List Dat) : Prop := ∃ (n : Nat) (L : Lays) (last : List Int), ss = [.d (.int n), .d (laysD L), .d (rowD last)] ∧ Wf n L last ∧ r = .bl true ∧ S' = S
def gInit (C : Addr) (ss : List Sl) (S : List Dat) (r : Dat) (S' : List Dat) : Prop := ∃ (k : Nat) (n : Nat) (L : Lays) (last : List Int), ss = [.c k, .d (.int n), .d (laysD L), .d (rowD last)] ∧ S[k]? = some (.ins C []) ∧ Wf n L last ∧ r = .non ∧ S' = S.set k (netD C n L last)
def gEq (C : Addr) (ss : List Sl) (S : List Dat) (r : Dat) (S' : List Dat) : Prop := (∃ (n n' : Nat) (L L' : Lays) (last last' : List Int), ss = [.d (netD C n L last), .d (netD C n' L' last')] ∧ r = .bl (decide ((n = n' ∧ L = L') ∧ last = last')) ∧ S' = S) ∨
  (∃ (n : Nat) (L : Lays) (last : List Int) (d : Dat), ss = [.d (netD C n L last), .d d] ∧ (d = .non ∨ (∃ i, d = .int i) ∨ ∃ ds, d = .tup ds) ∧ r = .bl false ∧ S' = S)
theorem o_gtF {K : PySem.W.Frag} {S : List Dat} {i j : Int} (h : ¬ j < i) : Op2 K (rI0 fun i j => V.bl (decide (j < i))) (.d (.int i)) (.d (.int j)) S (.bl false) := by have := @o_gt K S i j; rwa [decide_eq_false h] at this
theorem pl_row (r : List Int) : Pl 1 (rowD r) := .tup fun d hd => by obtain ⟨x, _, rfl⟩ := List.mem_map.mp hd; exact .int x
theorem pl_lay (l : List (List Int)) : Pl 2 (layD l) := .tup fun d hd => by obtain ⟨x, _, rfl⟩ := List.mem_map.mp hd; exact pl_row x
theorem pl_lays (L : Lays) : Pl 3 (laysD L) := .tup fun d hd => by obtain ⟨x, _, rfl⟩ := List.mem_map.mp hd; exact pl_lay x
theorem eq_row (r r' : List Int) : eqD (rowD r) (rowD r') = decide (r = r') := eqD_tup _ (fun _ _ => eqD_int) r r'
theorem eq_lay (r r' : List (List Int)) : eqD (layD r) (layD r') = decide (r = r') := eqD_tup _ eq_row r r'
theorem eq_lays (r r' : Lays) : eqD (laysD r) (laysD r') = decide (r = r') := eqD_tup _ eq_lay r r'
def inn : Dat → List Dat
  | .tup xs => xs
  | _ => []
theorem flat_lays (L : Lays) : ((L.map layD).flatMap fun d => (inn d).map fun e => e) = L.flatten.map rowD := by
  induction L with
  | nil => rfl
  | cons l L ih =>
    rw [List.map_cons, List.flatMap_cons, ih, List.flatten_cons, List.map_append]
    congr 1
    show (l.map rowD).map (fun e => e) = _
    rw [List.map_id']
section
variable {P : Program} {w : World} {K : PySem.W.Frag} {mg : Str → Option Value} {base : Heap}

theorem ok_are_parts (T : Txt K mg) : FnOk P w K mg base CX0 4 T.a_are_parts T.d_are_parts ["inputs", "layers", "last"] (SpD K (gParts)) := by
  have G_is_short := ok_is_short (P := P) (w := w) (base := base) T
  have b_is_short := T.b_is_short
  have G_is_short_row := ok_is_short_row (P := P) (w := w) (base := base) T
  have b_is_short_row := T.b_is_short_row
  refine T.F_are_parts.ok sc_are_parts (spd_len (k := 3) fun ss S r S' hg => ?_) (fun cdv A outer s H vs Q E hr h => ⟨_, (pss_cons (ps_if (PW.pt (pw_or (pt_not (pt_truK K (pe_call G_is_short (hr.mono (by decide)) rfl T.m_is_short T.k_is_short b_is_short .nil pass0 (pa_cons (pv 0) pa_nil)))) (pw_or1 (pt_not (pt_chain op_le op_le pe_int (pv 0) (pe_glob (v := .int 8) rfl T.m_MOST_INPUTS ⟨_, rfl⟩)))))) (pss_one (ps_ret pe_bl)) pss_nil) (pss_cons (ps_if (PW.pt (pw_or (pt_not (pt_truK K (pe_callB call_isi (by rfl) T.n_isinstance (by decide +kernel) (pa_cons (pv 1) (pa_cons (pe_bltn (v := .ty "tuple") (by rfl) T.n_tuple (by decide +kernel) rfl) pa_nil))))) (pw_or1 (pt_cmpR op_gt (pe_callB (call_lenK K) (by rfl) T.n_len (by decide +kernel) (pa_cons (pv 1) pa_nil)) (pe_glob (v := .int 4) rfl T.m_MOST_LAYERS ⟨_, rfl⟩) (nomark _))))) (pss_one (ps_ret pe_bl)) pss_nil) (pss_cons (ps_set (i := 3) sc_are_parts.nd rfl (by first | exact Or.inl rfl | exact Or.inr rfl) (pv 0)) (pss_cons (ps_for PassesOwn.never rfl (pi_seqK K (pv 1)) (pg_name (i := 4) sc_are_parts.nd rfl (by first | exact Or.inl rfl | exact Or.inr rfl)) (pss_cons (ps_if (PW.pt (pw_or (pt_not (pt_truK K (pe_callB call_isi (by rfl) T.n_isinstance (by decide +kernel) (pa_cons (pv 4) (pa_cons (pe_bltn (v := .ty "tuple") (by rfl) T.n_tuple (by decide +kernel) rfl) pa_nil))))) (pw_or1 (pt_not (pt_chain op_le op_le pe_int (pe_callB (call_lenK K) (by rfl) T.n_len (by decide +kernel) (pa_cons (pv 4) pa_nil)) (pe_glob (v := .int 64) rfl T.m_MOST_IN_LAYER ⟨_, rfl⟩)))))) (pss_one (ps_ret pe_bl)) pss_nil) (pss_cons (ps_if (pt_not (pt_truK K (pe_callB (cr_allK K) (by rfl) T.n_all (by decide +kernel) (pa_cons (pe_lc (own := [("unit", 5)]) rfl sc_are_parts.nd (pi_seqK K (pv 4)) (blkOk_by (own := [("unit", 5)]) (N := ["inputs", "layers", "last", "width", "layer", "unit"]) (sc := (defScope s_are_parts)) (by decide +kernel)) (fun _ _ _ _ _ => (pg_name (i := 5) sc_are_parts.nd rfl (by first | exact Or.inl rfl | exact Or.inr rfl))) (fun _ _ _ _ _ => pts_nil) (fun _ _ _ _ _ => (pe_call G_is_short_row (hr.mono (by decide)) rfl T.m_is_short_row T.k_is_short_row b_is_short_row .nil pass0 (pa_cons (pv 5) (pa_cons (pv 3) (pa_cons (pv 3) pa_nil)))))) pa_nil)))) (pss_one (ps_ret pe_bl)) pss_nil) (pss_one (ps_aug (i := 3) sc_are_parts.nd rfl (by first | exact Or.inl rfl | exact Or.inr rfl) (pe_callB (call_lenK K) (by rfl) T.n_len (by decide +kernel) (pa_cons (pv 4) pa_nil)) ip_add))))) (pss_one (ps_ret (pe_and (pe_cmpR op_le (pe_op op_sub (pv 3) (pv 0)) (pe_glob (v := .int 128) rfl T.m_MOST_UNITS ⟨_, rfl⟩) (nomark _)) (pe_one (pe_call G_is_short_row (hr.mono (by decide)) rfl T.m_is_short_row T.k_is_short_row b_is_short_row .nil pass0 (pa_cons (pv 2) (pa_cons (pv 3) (pa_cons (pv 3) pa_nil)))))))))))), sp_body h fun ss S r S' hg => ?_⟩)
  · obtain ⟨i, n, l, rfl, _⟩ := hg; rfl
  · obtain ⟨n, L, last, rfl, hw, rfl, rfl⟩ := hg
    have h1 := hw.n1
    have h8 := hw.n8
    have h4 := hw.l4
    refine sp_ifq (b := false) (et_orP (a := false) (b := false) (et_not (a := true) (et_bl (ev_call (ea_cons (ev_var rfl) ea_nil) ⟨n, rfl, by unfold Sh; omega, rfl, rfl⟩))) fun _ => et_not (a := true) (et_test (ev_chain (a := true) (b := true) ev_int (ev_var rfl) (o_leT (by omega)) (fun _ => ev_int) (fun _ => o_leT (by omega))))) (fun h => by cases h) fun _ => sp_nextq ?_
    refine sp_ifq (b := false) (et_orP (a := false) (b := false) (et_not (a := true) (et_bl (ev_cb (ea_cons (ev_var rfl) (ea_cons ev_ty ea_nil)) (cd_isi (T := "tuple") rfl (by decide +kernel))))) fun _ => et_test (ev_op (ev_cb (ea_cons (ev_var rfl) ea_nil) (cd_len .tup)) ev_int (o_gtF (by rw [List.length_map]; omega)))) (fun h => by cases h) fun _ => sp_nextq ?_
    refine sp_set (ev_var rfl) ?_
    refine sp_then (S1 := S') (env1 := [some (.d (.int n)), some (.d (laysD L)), some (.d (rowD last)), some (.d (.int ((n + L.flatten.length : Nat) : Int))), (L.getLast?.map fun l => Sl.d (layD l)), none]) (sp_forA (xs := L) (g := layD) (it_tup (ev_var rfl)) (fun i env' S2 => S2 = S' ∧ env' = [some (.d (.int n)), some (.d (laysD L)), some (.d (rowD last)), some (.d (.int ((n + (L.take i).flatten.length : Nat) : Int))), ((L.take i).getLast?.map fun l => Sl.d (layD l)), none]) ⟨rfl, rfl⟩ (fun _ _ _ _ _ _ _ _ _ => trivial) ?_ ?_) ?_
    · rintro i l env' S2 hl ⟨rfl, rfl⟩
      obtain ⟨g1, g2, g3⟩ := hw.wl.get hl
      have hall := hw.all i
      refine ⟨[4], fun env => env.set 4 (some (.d (layD l))), tg_name, ?_⟩
      refine sp_ifq (b := false) (et_orP (a := false) (b := false) (et_not (a := true) (et_bl (ev_cb (ea_cons (ev_var rfl) (ea_cons ev_ty ea_nil)) (cd_isi (T := "tuple") rfl (by decide +kernel))))) fun _ => et_not (a := true) (et_test (ev_chain (a := true) (b := true) ev_int (ev_cb (ea_cons (ev_var rfl) ea_nil) (cd_len .tup)) (o_leT (by rw [List.length_map]; omega)) (fun _ => ev_int) (fun _ => o_leT (by rw [List.length_map]; omega))))) (fun h => by cases h) fun _ => sp_nextq ?_
      refine sp_ifq (b := false) (et_not (a := true) (et_bl ((ev_cb (ea_cons (EvN.ev (en_mapA (xs := l) (is := [5]) (fun u => Dat.bl true) (it_tup (ev_var rfl)) (size_1000 (by omega)) (fun _ _ => trivial) (by decide) (fun u env => env.set 5 (some (.d (rowD u)))) fun u hu => ⟨tg_name, ?_⟩)) ea_nil) (cd_all (bs := l.map fun _ => true) ?_)).to ?_))) (fun h => by cases h) fun _ => sp_nextq ?_
      · exact ev_call (ea_cons (ev_var rfl) (ea_cons (ev_var rfl) (ea_cons (ev_var rfl) ea_nil))) ⟨u, _, _, _, rfl, g3 u hu, Int.le_refl _, Int.le_refl _, by omega, rfl, rfl⟩
      · rw [List.map_map]; exact .lst
      · congr 2; simp
      · refine sp_aug1 rfl (ev_cb (ea_cons (ev_var rfl) ea_nil) (cd_len .tup)) ⟨rfl, ?_⟩
        have hlt := (List.getElem?_eq_some_iff.mp hl).1
        have e : L[i] = l := (List.getElem?_eq_some_iff.mp hl).2
        rw [flat_len_take hl, List.take_succ_eq_append_getElem hlt, e, List.getLast?_append, List.length_map, ← Nat.add_assoc, Int.natCast_add]
        rfl
    · rintro env' S2 ⟨rfl, rfl⟩
      rw [List.take_length]
      exact ⟨rfl, rfl⟩
    · have hu := hw.u
      refine sp_ret (d := .bl true) (ev_andV (a := true) (b := true) (ev_op (ev_op (ev_var rfl) (ev_var rfl) o_sub) ev_int (o_leT (by omega))) fun _ => ?_) ⟨rfl, List.take_length⟩
      exact ev_call (ea_cons (ev_var rfl) (ea_cons (ev_var rfl) (ea_cons (ev_var rfl) ea_nil))) ⟨last, _, _, _, rfl, hw.la, Int.le_refl _, Int.le_refl _, by omega, rfl, rfl⟩
theorem ok_Networku_initu (T : Txt K mg) : FnOk P w K mg base CX0 5 T.a_Networku_initu T.d_Networku_initu ["self", "inputs", "layers", "last"] (SpD K (gInit T.C)) := by
  have G_are_parts := ok_are_parts (P := P) (w := w) (base := base) T
  have b_are_parts := T.b_are_parts
  refine T.F_Networku_initu.ok sc_Networku_initu (spd_len (k := 4) fun ss S r S' hg => ?_) (fun cdv A outer s H vs Q E hr h => ⟨_, (pss_cons (ps_if (pt_not (pt_truK K (pe_call G_are_parts (hr.mono (by decide)) rfl T.m_are_parts T.k_are_parts b_are_parts .nil pass0 (pa_cons (pv 1) (pa_cons (pv 2) (pa_cons (pv 3) pa_nil)))))) (pss_one ps_never) pss_nil) (pss_cons (ps_fld (pv 0) (pv 1) rfl) (pss_cons (ps_fld (pv 0) (pv 2) rfl) (pss_cons (ps_fld (pv 0) (pv 3) rfl) (pss_cons (ps_fld (pv 0) (pe_callB (call_lenK K) (by rfl) T.n_len (by decide +kernel) (pa_cons (pv 2) pa_nil)) rfl) (pss_one (ps_fld (pv 0) (pe_callTy (call_tupK K rfl) (by rfl) T.n_tuple (by decide +kernel) (pa_cons (pe_lc2 (own := [("layer", 4), ("unit", 5)]) (vs1 := [5]) rfl sc_Networku_initu.nd (pi_seqK K (pv 2)) (blkOk_by (own := [("layer", 4), ("unit", 5)]) (N := ["self", "inputs", "layers", "last", "layer", "unit"]) (sc := (defScope s_Networku_initu)) (by decide +kernel)) (by decide) (fun _ _ _ _ _ => (pg_name (i := 4) sc_Networku_initu.nd rfl (by first | exact Or.inl rfl | exact Or.inr rfl))) (fun _ _ _ _ _ => pts_nil) (fun _ _ _ _ _ => (pi_seqK K (pv 4))) (fun _ _ _ _ _ => (pg_name (i := 5) sc_Networku_initu.nd rfl (by first | exact Or.inl rfl | exact Or.inr rfl))) (fun _ _ _ _ _ => pts_nil) (fun _ _ _ _ _ => (pv 5))) pa_nil)) rfl))))))), sp_body h fun ss S r S' hg => ?_⟩)
  · obtain ⟨i, n, l, r, rfl, _⟩ := hg; rfl
  · obtain ⟨k, n, L, last, rfl, hk, hw, rfl, rfl⟩ := hg
    have hkl : k < S.length := (List.getElem?_eq_some_iff.mp hk).1
    have hs : ∀ (S2 : List Dat) (x : Dat), S2.length = S.length → (S2.set k x)[k]? = some x := fun S2 x e => List.getElem?_set_self (by omega)
    refine sp_ifq (b := false) (et_not (a := true) (et_bl (ev_call (ea_cons (ev_var rfl) (ea_cons (ev_var rfl) (ea_cons (ev_var rfl) ea_nil))) ⟨n, L, last, rfl, hw, rfl, rfl⟩))) (fun h => by cases h) fun _ => sp_nextq ?_
    refine sp_fld (ev_var rfl) (ev_var rfl) hk T.cl T.na_inputs (by show 0 < 1000; decide) ?_
    refine sp_fld (ev_var rfl) (ev_var rfl) (hs _ _ rfl) T.cl T.na_layers (by show 1 < 1000; decide) ?_
    refine sp_fld (ev_var rfl) (ev_var rfl) (hs _ _ (by simp)) T.cl T.na_last (by show 2 < 1000; decide) ?_
    refine sp_fld (ev_cb (ea_cons (ev_var rfl) ea_nil) (cd_len .tup)) (ev_var rfl) (hs _ _ (by simp)) T.cl T.na_depth (by show 3 < 1000; decide) ?_
    refine sp_fld1 (d := .tup (L.flatten.map rowD)) (ev_cb (ea_cons (EvN.ev (en_flat (G := G0) (G1 := G0) (ds := L.map layD) (is := [4]) (is1 := [5]) (it_tup (ev_var rfl)) inn (fun _ e => e) ?_ (fun _ _ => trivial) (fun _ _ => trivial) (by decide) (by decide) (by decide) (fun d env => env.set 4 (some (.d d))) (fun d e env => env.set 5 (some (.d e))) fun i d hd => ⟨tg_name, ?_, fun j e he => ⟨tg_name, ev_var rfl⟩⟩)) ea_nil) (cd_tup ?_)) (ev_var rfl) (hs _ _ (by simp)) T.cl T.na_units (by show 4 < 1000; decide) ⟨rfl, ?_⟩
    · rw [flat_lays, List.length_map]
      exact size_1000 (by have := hw.u; omega)
    · rw [List.getElem?_map, Option.map_eq_some_iff] at hd
      obtain ⟨l, _, rfl⟩ := hd
      exact it_tup (ev_var rfl)
    · rw [flat_lays]; exact .lst
    · have e : ∀ (x : Nat), (L.map layD).length = L.length := fun _ => List.length_map ..
      simp only [List.set_set, List.length_map]
      rw [List.take_of_length_le (by simp)]
      rfl
theorem ok_Networku_equ (T : Txt K mg) : FnOk P w K mg base CX0 1 T.a_Networku_equ T.d_Networku_equ ["self", "value"] (SpD K (gEq T.C)) := by
  refine T.F_Networku_equ.ok sc_Networku_equ (spd_len (k := 2) fun ss S r S' hg => ?_) (fun cdv A outer s H vs Q E hr h => ⟨_, (pss_one (ps_ret (pe_and (pe_callB call_isi (by rfl) T.n_isinstance (by decide +kernel) (pa_cons (pv 1) (pa_cons (pe_glob (v := .ref T.C) rfl T.m_Network rfl) pa_nil))) (pe_and (pe_cmpR op_eq (pe_fld (pv 0) rfl) (pe_fld (pv 1) rfl) (nomark _)) (pe_and (pe_cmpR (op_eqDK K hr.units) (pe_fld (pv 0) rfl) (pe_fld (pv 1) rfl) (nomark _)) (pe_one (pe_cmpR (op_eqDK K hr.units) (pe_fld (pv 0) rfl) (pe_fld (pv 1) rfl) (nomark _)))))))), sp_body h fun ss S r S' hg => ?_⟩)
  · rcases hg with ⟨i, n, l, r, a, b, rfl, _⟩ | ⟨n, l, a, d, rfl, _⟩ <;> rfl
  · rcases hg with ⟨n, n', L, L', last, last', rfl, rfl, rfl⟩ | ⟨n, L, last, d, rfl, hd, rfl, rfl⟩
    · refine sp_ret ((ev_andV (a := true) (ev_cb (ea_cons (ev_var rfl) (ea_cons ev_adr ea_nil)) (cd_isiO T.isC T.kC)) fun _ => ev_andV (ev_op (ev_fld (ev_var rfl) T.cl T.na_inputs rfl) (ev_fld (ev_var rfl) T.cl T.na_inputs rfl) op2_eq_int) fun _ => ev_andV (ev_op (ev_fld (ev_var rfl) T.cl T.na_layers rfl) (ev_fld (ev_var rfl) T.cl T.na_layers rfl) (op2_eqD (plS_d (pl_lays L)) (plS_d (pl_lays L')) (by decide) (by decide))) fun _ => (ev_op (ev_fld (ev_var rfl) T.cl T.na_last rfl) (ev_fld (ev_var rfl) T.cl T.na_last rfl) (op2_eqD (plS_d (pl_row last)) (plS_d (pl_row last')) (by decide) (by decide)))).to (r' := .d (.bl (decide ((n = n' ∧ L = L') ∧ last = last')))) ?_) ⟨rfl, List.take_length⟩
      rw [eq_lays, eq_row]
      by_cases h1 : n = n' <;> by_cases h2 : L = L' <;> by_cases h3 : last = last' <;> simp [h1, h2, h3]
      all_goals omega
    · obtain ⟨t, ht, hk⟩ : ∃ t, tyD d = some t ∧ PySem.W.kitOne K (.type t) (.ref T.C) = some false := by
        rcases hd with rfl | ⟨i, rfl⟩ | ⟨ds, rfl⟩
        · exact ⟨_, rfl, T.kt_non⟩
        · exact ⟨_, rfl, T.kt_int⟩
        · exact ⟨_, rfl, T.kt_tup⟩
      exact sp_ret (d := .bl false) ((ev_andV (a := false) (b := false) (ev_cb (ea_cons (ev_var rfl) (ea_cons ev_adr ea_nil)) (cd_isiN ht hk)) fun h => by cases h).to rfl) ⟨rfl, List.take_length⟩
end
end N85

set_option Elab.async false
set_option linter.all false
set_option maxRecDepth 100000
set_option maxHeartbeats 4000000
namespace N85
open PySem PySem.Spec PyProof.Rows L2 RW

/-! ### texts: pure -/
def numS (i : Int) : Str := Str.ofString (toString i)
def lineS (r : List Int) : Str := Str.ofString "  " ++ Txt.join (Str.ofString " ") (r.map numS)
def textS (ls : List Str) : Str := Txt.join (Str.ofString "\n") ls ++ Str.ofString "\n"
theorem tl_numS (i : Int) : TL.tl (numS i) = if i < 0 then 45 :: TL.numL i.natAbs else TL.numL i.natAbs := by
  cases i with
  | ofNat n =>
    rw [if_neg (by simp)]
    exact TL.tl_num n
  | negSucc m =>
    rw [if_pos (Int.negSucc_lt_zero m)]
    have h := TL.tl_num (m + 1)
    rw [TL.tl_ofString] at h
    show TL.tl (Str.ofString ("-" ++ Nat.repr (m + 1))) = _
    rw [TL.tl_ofString, String.toList_append, List.map_append]
    show [45] ++ _ = _
    have e : (Int.negSucc m).natAbs = m + 1 := rfl
    rw [e]
    exact congrArg (fun l => 45 :: l) h
theorem numS_chars {i : Int} {c : Nat} (h : c ∈ TL.tl (numS i)) : c = 45 ∨ (48 ≤ c ∧ c ≤ 57) := by
  rw [tl_numS] at h
  split at h
  · rcases List.mem_cons.mp h with h | h
    · exact .inl h
    · exact .inr (TL.numL_digits _ c h)
  · exact .inr (TL.numL_digits _ c h)
theorem numL_l {i : Int} (h : Sh i) : (TL.numL i.natAbs).length ≤ 60 := by
  refine TL.numL_len (by decide) ?_
  obtain ⟨h1, h2⟩ := h
  have e : (10 : Int) ^ 60 = ((10 ^ 60 : Nat) : Int) := by simp
  rw [e] at h1 h2
  generalize (10 ^ 60 : Nat) = N at h1 h2 ⊢
  omega
theorem numS_len {i : Int} (h : Sh i) : (numS i).length ≤ 61 := by
  rw [TL.len_tl, tl_numS]
  have := numL_l h
  split
  · simp; omega
  · omega
theorem numL_head {t : List Nat} : ∀ n : Nat, TL.numL n = 48 :: t → n = 0 := fun n => by
  induction n using Nat.strongRecOn generalizing t with
  | ind n ih =>
    intro h
    by_cases hn : n < 10
    · rw [TL.numL_lt hn] at h
      have := (List.cons.inj h).1
      omega
    · rw [TL.numL_step (by omega)] at h
      cases e : TL.numL (n / 10) with
      | nil => exact absurd e (TL.numL_ne _)
      | cons a u =>
        rw [e] at h
        have ea : a = 48 := (List.cons.inj h).1
        subst ea
        have := ih (n / 10) (by omega) e
        omega
/-! characters -/
def GL (s : Str) : Prop := ∀ c ∈ TL.tl s, 32 ≤ c ∧ c < 127
theorem gl_app {a b : Str} (h1 : GL a) (h2 : GL b) : GL (a ++ b) := fun c hc => by
  rw [TL.tl_append] at hc
  rcases List.mem_append.mp hc with h | h
  · exact h1 c h
  · exact h2 c h
theorem joinL_cons2 (S x y : List Nat) (r : List (List Nat)) : TL.joinL S (x :: y :: r) = x ++ (S ++ TL.joinL S (y :: r)) := by
  first
    | rfl
    | simp [TL.joinL]
theorem joinL_mem {S : List Nat} {c : Nat} : ∀ {ps : List (List Nat)}, c ∈ TL.joinL S ps → c ∈ S ∨ ∃ p ∈ ps, c ∈ p
  | [], h => by simp [TL.joinL] at h
  | [x], h => .inr ⟨x, List.mem_cons_self, by simpa [TL.joinL] using h⟩
  | x :: y :: r, h => by
    rw [joinL_cons2] at h
    rcases List.mem_append.mp h with h | h
    · exact .inr ⟨x, List.mem_cons_self, h⟩
    · rcases List.mem_append.mp h with h | h
      · exact .inl h
      · rcases joinL_mem h with h | ⟨p, hp, hc⟩
        · exact .inl h
        · exact .inr ⟨p, List.mem_cons_of_mem _ hp, hc⟩
theorem gl_join {sep : Str} {ps : List Str} (h1 : GL sep) (h2 : ∀ p ∈ ps, GL p) : GL (Txt.join sep ps) := fun c hc => by
  rw [TL.join_eq, TL.tl_join] at hc
  rcases joinL_mem hc with h | ⟨p, hp, h⟩
  · exact h1 c h
  · obtain ⟨q, hq, rfl⟩ := List.mem_map.mp hp
    exact h2 q hq c h
theorem gl_num (i : Int) : GL (numS i) := fun c hc => by
  rcases numS_chars hc with h | h <;> omega
theorem gl_of {s : String} (h : (s.toList.map Char.toNat).all (fun c => decide (32 ≤ c) && decide (c < 127)) = true) : GL (Str.ofString s) := fun c hc => by
  rw [TL.tl_ofString] at hc
  have := List.all_eq_true.mp h c hc
  simpa using this
theorem gl_line (r : List Int) : GL (lineS r) := gl_app (gl_of (by decide +kernel)) (gl_join (gl_of (by decide +kernel)) fun p hp => by
  obtain ⟨i, _, rfl⟩ := List.mem_map.mp hp
  exact gl_num i)
theorem tl_sp : TL.tl (Str.ofString " ") = [32] := by rw [TL.tl_ofString]; rfl
theorem tl_sp2 : TL.tl (Str.ofString "  ") = [32, 32] := by rw [TL.tl_ofString]; rfl
theorem tl_nl : TL.tl (Str.ofString "\n") = [10] := by rw [TL.tl_ofString]; rfl
theorem tl_e : TL.tl Str.empty = [] := rfl
theorem joinL_len {S : List Nat} {k : Nat} : ∀ {ps : List (List Nat)}, (∀ p ∈ ps, p.length ≤ k) → (TL.joinL S ps).length ≤ ps.length * (k + S.length)
  | [], _ => by simp [TL.joinL]
  | [x], h => by
    have := h x List.mem_cons_self
    simp [TL.joinL]; omega
  | x :: y :: r, h => by
    rw [joinL_cons2, List.length_append, List.length_append, List.length_cons, Nat.succ_mul]
    have h1 := h x List.mem_cons_self
    have h2 := joinL_len (S := S) (ps := y :: r) fun p hp => h p (List.mem_cons_of_mem _ hp)
    omega
theorem join_len {sep : Str} {ps : List Str} {k : Nat} (h : ∀ p ∈ ps, p.length ≤ k) : (Txt.join sep ps).length ≤ ps.length * (k + sep.length) := by
  rw [TL.len_tl, TL.join_eq, TL.tl_join]
  have := joinL_len (S := TL.tl sep) (k := k) (ps := ps.map TL.tl) fun p hp => by
    obtain ⟨q, hq, rfl⟩ := List.mem_map.mp hp
    have := h q hq
    rwa [TL.len_tl] at this
  rw [List.length_map] at this
  rw [TL.len_tl sep]
  exact this
theorem line_len {r : List Int} (h : ∀ x ∈ r, Sh x) : (lineS r).length ≤ 2 + r.length * 62 := by
  unfold lineS
  have e : (Str.ofString "  " ++ Txt.join (Str.ofString " ") (r.map numS)).length = 2 + (Txt.join (Str.ofString " ") (r.map numS)).length := by
    rw [TL.len_tl, TL.tl_append, List.length_append, tl_sp2, ← TL.len_tl]; rfl
  rw [e]
  have := join_len (sep := Str.ofString " ") (k := 61) (ps := r.map numS) fun p hp => by
    obtain ⟨i, hi, rfl⟩ := List.mem_map.mp hp
    exact numS_len (h i hi)
  rw [List.length_map, TL.len_tl (Str.ofString " "), tl_sp] at this
  exact Nat.add_le_add_left this 2
/-! a row's line read back -/
theorem starts_eq (x y : Str) : Txt.startswith x y = (decide (y.length ≤ x.length) && ((TL.tl x).take y.length == TL.tl y)) := by
  unfold Txt.startswith
  rw [StrLaws.subAt_eq, Nat.zero_add, List.drop_zero]
theorem starts_app {x y : Str} (t : List Nat) (h : TL.tl x = TL.tl y ++ t) : Txt.startswith x y = true := by
  rw [starts_eq, TL.len_tl x, TL.len_tl y, h, List.length_append, List.take_left, decide_eq_true (by omega)]
  simp
theorem starts_line (r : List Int) : Txt.startswith (lineS r) (Str.ofString "  ") = true := starts_app _ (TL.tl_append _ _)
theorem cut_from {x : Str} {k : Nat} (h : k ≤ x.length) : TL.tl (L2.cutS x (some (k : Int)) none) = (TL.tl x).drop k := by
  unfold L2.cutS
  rw [TL.tl_mk]
  have e1 : HT.sIx x.length 0 (some (k : Int)) = k := by
    show (if (k : Int) < 0 then ((k : Int) + (x.length : Int)).toNat else min (k : Int).toNat x.length) = k
    rw [if_neg (by omega)]
    simp; omega
  have e2 : HT.sIx x.length x.length none = x.length := rfl
  rw [e1, e2]
  refine List.take_of_length_le ?_
  rw [List.length_drop, TL.len_tl]
  exact Nat.le_refl _
theorem cut_line (r : List Int) : L2.cutS (lineS r) (some 2) none = Txt.join (Str.ofString " ") (r.map numS) := by
  refine TL.ext_tl ?_
  have hl : 2 ≤ (lineS r).length := by
    rw [TL.len_tl]; unfold lineS; rw [TL.tl_append, tl_sp2]; simp
  have := cut_from (x := lineS r) (k := 2) hl
  rw [show ((2 : Nat) : Int) = 2 from rfl] at this
  rw [this]
  unfold lineS
  rw [TL.tl_append, tl_sp2]
  rfl
theorem split_line {r : List Int} (h : r ≠ []) : Txt.split (Txt.join (Str.ofString " ") (r.map numS)) (Str.ofString " ") = r.map numS := by
  refine TL.split_join (s := 32) (S := []) tl_sp (by decide +kernel) (by simpa using h) fun p hp => ?_
  obtain ⟨i, _, rfl⟩ := List.mem_map.mp hp
  intro hc
  rcases numS_chars hc with h | h <;> omega
theorem starts_minus (i : Int) : Txt.startswith (numS i) (Str.ofString "-") = decide (i < 0) := by
  have e : TL.tl (Str.ofString "-") = [45] := by rw [TL.tl_ofString]; rfl
  by_cases h : i < 0
  · rw [decide_eq_true h]
    exact starts_app (TL.numL i.natAbs) (by rw [e, tl_numS, if_pos h]; rfl)
  · rw [decide_eq_false h, starts_eq, TL.len_tl (Str.ofString "-"), e, tl_numS, if_neg h]
    cases en : TL.numL i.natAbs with
    | nil => exact absurd en (TL.numL_ne _)
    | cons a t =>
      have := TL.numL_digits i.natAbs a (by rw [en]; exact List.mem_cons_self)
      have hne : a ≠ 45 := by omega
      simp [hne]
def digS (i : Int) : Str := ⟨(TL.numL i.natAbs).toArray⟩
theorem tl_dig (i : Int) : TL.tl (digS i) = TL.numL i.natAbs := TL.tl_mk _
theorem cut_num {i : Int} (h : i < 0) : L2.cutS (numS i) (some 1) none = digS i := by
  refine TL.ext_tl ?_
  have hl : 1 ≤ (numS i).length := by rw [TL.len_tl, tl_numS, if_pos h]; simp
  have := cut_from (x := numS i) (k := 1) hl
  rw [show ((1 : Nat) : Int) = 1 from rfl] at this
  rw [this, tl_numS, if_pos h, tl_dig]
  rfl
theorem num_dig {i : Int} (h : ¬ i < 0) : numS i = digS i := TL.ext_tl (by rw [tl_numS, if_neg h, tl_dig])
theorem isdig (i : Int) : Txt.isdigit (digS i) = true := by
  have h10 : ∀ c : Nat, c < 58 → 48 ≤ c → Unicode.isDigit c = true := by decide +kernel
  unfold Txt.isdigit
  rw [TL.len_tl, tl_dig, Bool.and_eq_true]
  refine ⟨decide_eq_true ?_, ?_⟩
  · cases e : TL.numL i.natAbs with
    | nil => exact absurd e (TL.numL_ne _)
    | cons a t => simp
  · rw [Array.all_eq_true']
    intro c hc
    have hc' : c ∈ TL.numL i.natAbs := by rw [← tl_dig]; exact Array.mem_toList_iff.mpr hc
    have := TL.numL_digits _ c hc'
    exact h10 c (by omega) this.1
theorem dig_len {i : Int} (h : Sh i) : (digS i).length ≤ 60 := by
  rw [TL.len_tl, tl_dig]
  exact numL_l h
theorem dig0 (i : Int) : (Txt.startswith (digS i) (Str.ofString "0") && !decide (numS i = Str.ofString "0")) = false := by
  have e : TL.tl (Str.ofString "0") = [48] := by rw [TL.tl_ofString]; rfl
  cases h : Txt.startswith (digS i) (Str.ofString "0") with
  | false => rfl
  | true =>
    rw [starts_eq, TL.len_tl (Str.ofString "0"), e, tl_dig] at h
    cases en : TL.numL i.natAbs with
    | nil => exact absurd en (TL.numL_ne _)
    | cons a t =>
      rw [en] at h
      have ha : a = 48 := by
        have h2 := (Bool.and_eq_true_iff.mp h).2
        simpa using h2
      subst ha
      have h0 := numL_head _ en
      have hi : i = 0 := by omega
      subst hi
      have : numS 0 = Str.ofString "0" := rfl
      rw [this]
      simp
theorem int_num {i : Int} (h : Sh i) : intText? (numS i) = some i := by
  have hl := numS_len h
  by_cases hi : i < 0
  · have := intText_neg (x := numS i) (cs := TL.numL i.natAbs) (by show TL.tl (numS i) = _; rw [tl_numS, if_pos hi]) (TL.numL_digits _) (TL.numL_ne _) (by omega)
    rw [this, TL.numL_val]
    congr 1; omega
  · have e : (numS i).cps.toList = TL.numL i.natAbs := by show TL.tl (numS i) = _; rw [tl_numS, if_neg hi]
    have := intText_digits (x := numS i) (by rw [e]; exact TL.numL_digits _) (by rw [e]; exact TL.numL_ne _) (by omega)
    rw [this, e, TL.numL_val]
    congr 1; omega
end N85

set_option Elab.async false
set_option linter.all false
set_option maxRecDepth 100000
set_option maxHeartbeats 4000000
namespace N85
open PySem PySem.Spec PyProof.Rows L2 RW

/-! ### lines: pure -/
theorem joinL_snoc {S e : List Nat} : ∀ {ps : List (List Nat)}, ps ≠ [] → TL.joinL S (ps ++ [e]) = TL.joinL S ps ++ (S ++ e)
  | [], h => absurd rfl h
  | [x], _ => by
    show TL.joinL S [x, e] = _
    rw [joinL_cons2]
    simp [TL.joinL]
  | x :: y :: r, _ => by
    show TL.joinL S (x :: y :: (r ++ [e])) = _
    have ih := joinL_snoc (S := S) (e := e) (ps := y :: r) (by simp)
    rw [joinL_cons2, joinL_cons2]
    rw [show y :: (r ++ [e]) = (y :: r) ++ [e] from rfl, ih]
    simp [List.append_assoc]
structure TOK (ls : List Str) : Prop where
  ne : ls ≠ []
  n : ls.length ≤ 100
  gl : ∀ l ∈ ls, GL l
  len : ∀ l ∈ ls, l.length ≤ 2000
theorem tl_text {ls : List Str} : TL.tl (textS ls) = TL.joinL [10] (ls.map TL.tl) ++ [10] := by
  unfold textS
  rw [TL.tl_append, TL.join_eq, TL.tl_join, tl_nl]
theorem text_eq {ls : List Str} (h : ls ≠ []) : textS ls = Txt.join (Str.ofString "\n") (ls ++ [Str.empty]) := by
  refine TL.ext_tl ?_
  rw [tl_text, TL.join_eq, TL.tl_join, tl_nl, List.map_append, List.map_cons, List.map_nil, joinL_snoc (by simpa using h)]
  rfl
theorem split_text {ls : List Str} (h : ls ≠ []) (hg : ∀ l ∈ ls, GL l) : Txt.split (textS ls) (Str.ofString "\n") = ls ++ [Str.empty] := by
  rw [text_eq h]
  refine TL.split_join (s := 10) (S := []) tl_nl (by decide +kernel) (by simp) fun p hp hc => ?_
  rcases List.mem_append.mp hp with hp | hp
  · have := hg p hp 10 hc
    omega
  · rw [List.mem_singleton.mp hp] at hc
    cases hc
theorem joined_eq {ls : List Str} (h : ls ≠ []) : Txt.join (Str.ofString "") (ls.map fun l => l ++ Str.ofString "\n") = textS ls := by
  refine TL.ext_tl ?_
  rw [tl_text, TL.join_eq, TL.tl_join, List.map_map]
  have e0 : TL.tl (Str.ofString "") = [] := by rw [TL.tl_ofString]; rfl
  rw [e0]
  have key : ∀ ps : List Str, ps ≠ [] → TL.joinL [] (ps.map (TL.tl ∘ fun l => l ++ Str.ofString "\n")) = TL.joinL [10] (ps.map TL.tl) ++ [10] := by
    intro ps
    induction ps with
    | nil => intro h; exact absurd rfl h
    | cons x r ih =>
      intro _
      cases r with
      | nil =>
        show TL.joinL [] [TL.tl (x ++ Str.ofString "\n")] = _
        rw [TL.tl_append, tl_nl]
        rfl
      | cons y r =>
        have := ih (by simp)
        rw [List.map_cons, List.map_cons] at this ⊢
        rw [joinL_cons2, List.map_cons, List.map_cons, joinL_cons2, this]
        show TL.tl (x ++ Str.ofString "\n") ++ _ = _
        rw [TL.tl_append, tl_nl]
        simp [List.append_assoc]
  exact key ls h
theorem text_len {ls : List Str} (h : TOK ls) : (textS ls).length ≤ 200200 := by
  rw [TL.len_tl, tl_text, List.length_append]
  have := joinL_len (S := [10]) (k := 2000) (ps := ls.map TL.tl) fun p hp => by
    obtain ⟨q, hq, rfl⟩ := List.mem_map.mp hp
    have := h.len q hq
    rwa [TL.len_tl] at this
  rw [List.length_map] at this
  have h2 := h.n
  have h3 : ls.length * (2000 + [10].length) ≤ 100 * 2001 := Nat.mul_le_mul_right _ h2
  simp only [List.length_cons, List.length_nil] at *
  omega
theorem text_chars {ls : List Str} (h : ∀ l ∈ ls, GL l) {c : Nat} (hc : c ∈ TL.tl (textS ls)) : c = 10 ∨ (32 ≤ c ∧ c < 127) := by
  rw [tl_text] at hc
  rcases List.mem_append.mp hc with hc | hc
  · rcases joinL_mem hc with hc | ⟨p, hp, hc⟩
    · exact .inl (by simpa using hc)
    · obtain ⟨q, hq, rfl⟩ := List.mem_map.mp hp
      exact .inr (h q hq c hc)
  · exact .inl (by simpa using hc)
theorem text_ascii {ls : List Str} (h : ∀ l ∈ ls, GL l) : Txt.isascii (textS ls) = true := by
  unfold Txt.isascii
  rw [Array.all_eq_true']
  intro c hc
  have := text_chars h (c := c) (Array.mem_toList_iff.mpr hc)
  exact decide_eq_true (by omega)
theorem text_print {ls : List Str} (hn : ls ≠ []) (h : ∀ l ∈ ls, GL l) : Txt.isprintable (Txt.replace (textS ls) (Str.ofString "\n") (Str.ofString "")) = true := by
  have hp : ∀ c : Nat, c < 127 → 32 ≤ c → Unicode.isPrintable c = true := by decide +kernel
  have e : Str.ofString "\n" = ⟨#[10]⟩ := TL.ext_tl (by rw [tl_nl])
  have hs := split_text hn h
  rw [e] at hs ⊢
  rw [StrLaws.replace_one, hs]
  unfold Txt.isprintable
  rw [Array.all_eq_true']
  intro c hc
  have hc2 : c ∈ TL.tl ((Str.ofString "").join (ls ++ [Str.empty])) := Array.mem_toList_iff.mpr hc
  rw [TL.tl_join] at hc2
  rcases joinL_mem hc2 with hc2 | ⟨p, hp2, hc2⟩
  · rw [TL.tl_ofString] at hc2; cases hc2
  · obtain ⟨q, hq, rfl⟩ := List.mem_map.mp hp2
    rcases List.mem_append.mp hq with hq | hq
    · have := h q hq c hc2
      exact hp c this.2 this.1
    · rw [List.mem_singleton.mp hq] at hc2; cases hc2
theorem line_ne {r : List Int} {w : Str} (h : Txt.startswith w (Str.ofString "  ") = false) : lineS r ≠ w := by
  rintro rfl
  rw [starts_line] at h; cases h
/-! lots -/
structure LotOk (n : Nat) (rows : List (List Int)) : Prop where
  n1 : 1 ≤ n
  n8 : n ≤ 8
  l1 : 1 ≤ rows.length
  l64 : rows.length ≤ 40
  rw : ∀ r ∈ rows, Rw r n
  asc : rows.Pairwise fun x y => RwS.lx x y = true
def lotLs (rows : List (List Int)) : List Str := [Str.ofString "lot"] ++ rows.map lineS ++ [Str.ofString "end"]
def readLs (rows more : List (List Int)) : List Str := [Str.ofString "reading", Str.ofString "above"] ++ (rows.map lineS ++ [Str.ofString "below"] ++ more.map lineS) ++ [Str.ofString "end"]
theorem glw (s : String) (h : (s.toList.map Char.toNat).all (fun c => decide (32 ≤ c) && decide (c < 127)) = true := by decide +kernel) : GL (Str.ofString s) := gl_of h
theorem lnw (s : String) (h : (s.toList.map Char.toNat).length ≤ 2000 := by decide +kernel) : (Str.ofString s).length ≤ 2000 := by rw [TL.len_tl, TL.tl_ofString]; exact h
theorem LotOk.line {n : Nat} {rows : List (List Int)} (h : LotOk n rows) {l : Str} (hl : l ∈ rows.map lineS) : GL l ∧ l.length ≤ 2000 := by
  obtain ⟨r, hr, rfl⟩ := List.mem_map.mp hl
  have h1 := h.rw r hr
  have := line_len h1.2
  have h8 := h.n8
  exact ⟨gl_line r, by rw [h1.1] at this; omega⟩
theorem LotOk.tok {n : Nat} {rows : List (List Int)} (h : LotOk n rows) : TOK (lotLs rows) := by
  have key : ∀ l ∈ lotLs rows, GL l ∧ l.length ≤ 2000 := fun l hl => by
    unfold lotLs at hl
    rcases List.mem_append.mp hl with hl | hl
    · rcases List.mem_append.mp hl with hl | hl
      · rw [List.mem_singleton.mp hl]; exact ⟨glw _, lnw _⟩
      · exact h.line hl
    · rw [List.mem_singleton.mp hl]; exact ⟨glw _, lnw _⟩
  refine ⟨by simp [lotLs], ?_, fun l hl => (key l hl).1, fun l hl => (key l hl).2⟩
  have := h.l64
  simp [lotLs]; omega
theorem read_tok {n : Nat} {rows more : List (List Int)} (h : LotOk n rows) (h' : LotOk n more) : TOK (readLs rows more) := by
  have key : ∀ l ∈ readLs rows more, GL l ∧ l.length ≤ 2000 := fun l hl => by
    unfold readLs at hl
    rcases List.mem_append.mp hl with hl | hl
    · rcases List.mem_append.mp hl with hl | hl
      · rcases List.mem_cons.mp hl with rfl | hl
        · exact ⟨glw _, lnw _⟩
        · rw [List.mem_singleton.mp hl]; exact ⟨glw _, lnw _⟩
      · rcases List.mem_append.mp hl with hl | hl
        · rcases List.mem_append.mp hl with hl | hl
          · exact h.line hl
          · rw [List.mem_singleton.mp hl]; exact ⟨glw _, lnw _⟩
        · exact h'.line hl
    · rw [List.mem_singleton.mp hl]; exact ⟨glw _, lnw _⟩
  refine ⟨by simp [readLs], ?_, fun l hl => (key l hl).1, fun l hl => (key l hl).2⟩
  have := h.l64
  have := h'.l64
  simp [readLs]; omega
end N85

set_option Elab.async false
set_option linter.all false
set_option maxRecDepth 100000
set_option maxHeartbeats 4000000
namespace N85
open PySem PySem.Spec PyProof.Rows L2 RW

def strsD (ls : List Str) : Dat := .lst (ls.map Dat.str)
def gRowL (ss : List Sl) (S : List Dat) (r : Dat) (S' : List Dat) : Prop := ∃ u : List Int, ss = [.d (rowD u)] ∧ (∀ x ∈ u, Sh x) ∧ u.length ≤ 30 ∧ r = .str (lineS u) ∧ S' = S
def gTextOf (ss : List Sl) (S : List Dat) (r : Dat) (S' : List Dat) : Prop := ∃ ls : List Str, ss = [.d (strsD ls)] ∧ TOK ls ∧ r = .str (textS ls) ∧ S' = S
def gRows (ss : List Sl) (S : List Dat) (r : Dat) (S' : List Dat) : Prop := ∃ (n : Nat) (rows : List (List Int)) (a b : Int), ss = [.d (layD rows), .d (.int a), .d (.int b)] ∧ LotOk n rows ∧ 40 ≤ a ∧ 8 ≤ b ∧ r = .bl true ∧ S' = S
def gAsc (ss : List Sl) (S : List Dat) (r : Dat) (S' : List Dat) : Prop := ∃ (n : Nat) (rows : List (List Int)), ss = [.d (layD rows)] ∧ LotOk n rows ∧ r = .bl true ∧ S' = S
def gNeedL (ss : List Sl) (S : List Dat) (r : Dat) (S' : List Dat) : Prop := ∃ (n : Nat) (rows : List (List Int)), ss = [.d (layD rows)] ∧ LotOk n rows ∧ r = .non ∧ S' = S
def gLotT (ss : List Sl) (S : List Dat) (r : Dat) (S' : List Dat) : Prop := ∃ (n : Nat) (rows : List (List Int)), ss = [.d (layD rows)] ∧ LotOk n rows ∧ r = .str (textS (lotLs rows)) ∧ S' = S
def gReadI (b : Dat) (ss : List Sl) (S : List Dat) (r : Dat) (S' : List Dat) : Prop := ∃ (n : Nat) (rows more : List (List Int)), ss = [.d (.tup [layD rows, layD more])] ∧ LotOk n rows ∧ LotOk n more ∧ r = b ∧ S' = S
def gReadT (ss : List Sl) (S : List Dat) (r : Dat) (S' : List Dat) : Prop := ∃ (n : Nat) (rows more : List (List Int)), ss = [.d (.tup [layD rows, layD more])] ∧ LotOk n rows ∧ LotOk n more ∧ r = .str (textS (readLs rows more)) ∧ S' = S
theorem fits {i : Int} (h : Sh i) : i.natAbs.log2 < 1920 := Nat.lt_of_le_of_lt (log2_le h.bits) (by decide)
theorem szl {n : Nat} (h : n ≤ 16000000) : n ≤ sizeLine := by rw [sizeLine_eq]; omega
theorem lnS {s : String} {k : Nat} (h : (s.toList.map Char.toNat).length = k) : (Str.ofString s).length = k := by rw [TL.len_tl, TL.tl_ofString]; exact h
theorem line_join_len {u : List Int} (h : ∀ x ∈ u, Sh x) : ((u.map numS).map fun x => x.length).sum ≤ u.length * 61 := by
  induction u with
  | nil => simp
  | cons x u ih =>
    have h1 := numS_len (h x List.mem_cons_self)
    have h2 := ih fun y hy => h y (List.mem_cons_of_mem _ hy)
    rw [List.map_cons, List.map_cons, List.sum_cons, List.length_cons, Nat.succ_mul]
    omega
theorem lens_le {ls : List Str} {k : Nat} (h : ∀ l ∈ ls, l.length ≤ k) : (ls.map fun x => x.length).sum ≤ ls.length * k := by
  induction ls with
  | nil => simp
  | cons x u ih =>
    have h1 := h x List.mem_cons_self
    have h2 := ih fun y hy => h y (List.mem_cons_of_mem _ hy)
    rw [List.map_cons, List.sum_cons, List.length_cons, Nat.succ_mul]
    omega
theorem op2_neI {K : PySem.W.Frag} {S : List Dat} {i j : Int} (h : i = j) : Op2 K rNe (.d (.int i)) (.d (.int j)) S (.bl false) := by
  have := @op2_ne_int K S i j
  rwa [decide_eq_true h] at this
section
variable {P : Program} {w : World} {K : PySem.W.Frag} {mg : Str → Option Value} {base : Heap}

theorem ok_row_line (T : Txt K mg) : FnOk P w K mg base CX0 1 T.a_row_line T.d_row_line ["row"] (SpD K (gRowL)) := by
  refine T.F_row_line.ok sc_row_line (spd_len (k := 1) fun ss S r S' hg => ?_) (fun cdv A outer s H vs Q E hr h => ⟨_, (pss_one (ps_ret (pe_op op_addS (pe_glob (v := .str (Str.ofString "  ")) rfl T.m_BLANKS ⟨_, rfl⟩) (pe_joinK K pe_str (pe_lc (own := [("x", 1)]) rfl sc_row_line.nd (pi_seqK K (pv 0)) (blkOk_by (own := [("x", 1)]) (N := ["row", "x"]) (sc := (defScope s_row_line)) (by decide +kernel)) (fun _ _ _ _ _ => (pg_name (i := 1) sc_row_line.nd rfl (by first | exact Or.inl rfl | exact Or.inr rfl))) (fun _ _ _ _ _ => pts_nil) (fun _ _ _ _ _ => (pe_callTy call_strI (by rfl) T.n_str (by decide +kernel) (pa_cons (pv 1) pa_nil)))))))), sp_body h fun ss S r S' hg => ?_⟩)
  · obtain ⟨i, rfl, _⟩ := hg; rfl
  · obtain ⟨u, rfl, hu, hl, rfl, rfl⟩ := hg
    have hj := line_join_len hu
    have hll := line_len hu
    refine sp_ret (d := .str (lineS u)) (ev_op ev_str (ev_join (ys := u.map numS) (x := .d (.lst ((u.map numS).map Dat.str))) ev_str (EvN.ev (EvN.toD (en_mapA (xs := u) (g := Dat.int) (is := [1]) (fun i => Dat.str (numS i)) (it_tup (ev_var rfl)) (szl (by omega)) (fun _ _ => trivial) (by decide) (fun i env => env.set 1 (some (.d (.int i)))) fun i hi => ⟨tg_name, ?_⟩) ?_)) .lst ?_) (o_addS ?_)) ⟨rfl, List.take_length⟩
    · exact ev_cb (ea_cons (ev_var rfl) ea_nil) (cd_strI (fits (hu i hi)))
    · rw [List.map_map]; rfl
    · rw [List.length_map, lnS (k := 1) rfl]
      omega
    · have : (Txt.join (Str.ofString " ") (u.map numS)).length ≤ (u.map numS).length * (61 + (Str.ofString " ").length) := join_len fun p hp => by
        obtain ⟨i, hi, rfl⟩ := List.mem_map.mp hp
        exact numS_len (hu i hi)
      rw [List.length_map, lnS (s := " ") (k := 1) rfl] at this
      rw [lnS (k := 2) rfl]
      exact szl (by omega)
theorem ok_text_of (T : Txt K mg) : FnOk P w K mg base CX0 1 T.a_text_of T.d_text_of ["lines"] (SpD K (gTextOf)) := by
  refine T.F_text_of.ok sc_text_of (spd_len (k := 1) fun ss S r S' hg => ?_) (fun cdv A outer s H vs Q E hr h => ⟨_, (pss_one (ps_ret (pe_op op_addS (pe_joinK K pe_str (pv 0)) pe_str))), sp_body h fun ss S r S' hg => ?_⟩)
  · obtain ⟨i, rfl, _⟩ := hg; rfl
  · obtain ⟨ls, rfl, hk, rfl, rfl⟩ := hg
    have h1 := lens_le hk.len
    have h2 := hk.n
    refine sp_ret (d := .str (textS ls)) (ev_op (ev_join (ys := ls) ev_str (ev_var rfl) .lst ?_) ev_str (o_addS ?_)) ⟨rfl, List.take_length⟩
    · rw [lnS (k := 1) rfl]
      have : ls.length * 2000 ≤ 100 * 2000 := Nat.mul_le_mul_right _ h2
      omega
    · have h3 := text_len hk
      have h4 : (textS ls).length = (Txt.join (Str.ofString "\n") ls).length + (Str.ofString "\n").length := by
        rw [TL.len_tl, textS, TL.tl_append, List.length_append, ← TL.len_tl, ← TL.len_tl]
      exact szl (by omega)
theorem ok_are_short_rows (T : Txt K mg) : FnOk P w K mg base CX0 1 T.a_are_short_rows T.d_are_short_rows ["value", "most_rows", "most_length"] (SpD K (gRows)) := by
  refine T.F_are_short_rows.ok sc_are_short_rows (spd_len (k := 3) fun ss S r S' hg => ?_) (fun cdv A outer s H vs Q E hr h => ⟨_, (pss_cons (ps_if (PW.pt (pw_or (pt_not (pt_truK K (pe_callB call_isi (by rfl) T.n_isinstance (by decide +kernel) (pa_cons (pv 0) (pa_cons (pe_bltn (v := .ty "tuple") (by rfl) T.n_tuple (by decide +kernel) rfl) pa_nil))))) (pw_or1 (pt_not (pt_chain op_le op_le pe_int (pe_callB (call_lenK K) (by rfl) T.n_len (by decide +kernel) (pa_cons (pv 0) pa_nil)) (pv 1)))))) (pss_one (ps_ret pe_bl)) pss_nil) (pss_cons (ps_if (PW.pt (pw_or (pt_not (pt_truK K (pe_callB call_isi (by rfl) T.n_isinstance (by decide +kernel) (pa_cons (pe_ix (ix_seqK K) (pv 0) pe_int (fun _ _ => rfl)) (pa_cons (pe_bltn (v := .ty "tuple") (by rfl) T.n_tuple (by decide +kernel) rfl) pa_nil))))) (pw_or1 (pt_not (pt_chain op_le op_le pe_int (pe_callB (call_lenK K) (by rfl) T.n_len (by decide +kernel) (pa_cons (pe_ix (ix_seqK K) (pv 0) pe_int (fun _ _ => rfl)) pa_nil)) (pv 2)))))) (pss_one (ps_ret pe_bl)) pss_nil) (pss_cons (ps_set (i := 3) sc_are_short_rows.nd rfl (by first | exact Or.inl rfl | exact Or.inr rfl) (pe_callB (call_lenK K) (by rfl) T.n_len (by decide +kernel) (pa_cons (pe_ix (ix_seqK K) (pv 0) pe_int (fun _ _ => rfl)) pa_nil))) (pss_cons (ps_for PassesOwn.never rfl (pi_seqK K (pv 0)) (pg_name (i := 4) sc_are_short_rows.nd rfl (by first | exact Or.inl rfl | exact Or.inr rfl)) (pss_cons (ps_if (PW.pt (pw_or (pt_not (pt_truK K (pe_callB call_isi (by rfl) T.n_isinstance (by decide +kernel) (pa_cons (pv 4) (pa_cons (pe_bltn (v := .ty "tuple") (by rfl) T.n_tuple (by decide +kernel) rfl) pa_nil))))) (pw_or1 (pt_cmpR op_ne (pe_callB (call_lenK K) (by rfl) T.n_len (by decide +kernel) (pa_cons (pv 4) pa_nil)) (pv 3) (nomark _))))) (pss_one (ps_ret pe_bl)) pss_nil) (pss_one (ps_for PassesOwn.never rfl (pi_seqK K (pv 4)) (pg_name (i := 5) sc_are_short_rows.nd rfl (by first | exact Or.inl rfl | exact Or.inr rfl)) (pss_one (ps_if (PW.pt (pw_or (pt_not (pt_truK K (pe_callB call_isi (by rfl) T.n_isinstance (by decide +kernel) (pa_cons (pv 5) (pa_cons (pe_bltn (v := .ty "int") (by rfl) T.n_int (by decide +kernel) rfl) pa_nil))))) (pw_or (pt_cmpR op_isX (pv 5) pe_bl (nomark _)) (pw_or (pt_cmpR op_isX (pv 5) pe_bl (nomark _)) (pw_or (pt_cmpR op_le (pv 5) (pe_glob (v := .int (-(10 ^ 60))) rfl T.m_BENEATH ⟨_, rfl⟩) (nomark _)) (pw_or1 (pt_cmpR op_ge (pv 5) (pe_glob (v := .int (10 ^ 60)) rfl T.m_BEYOND ⟨_, rfl⟩) (nomark _)))))))) (pss_one (ps_ret pe_bl)) pss_nil)))))) (pss_one (ps_ret pe_bl)))))), sp_body h fun ss S r S' hg => ?_⟩)
  · obtain ⟨n, rows, a, b, rfl, _⟩ := hg; rfl
  · obtain ⟨n, rows, a, b, rfl, hk, ha, hb, rfl, rfl⟩ := hg
    obtain ⟨r0, rest, hr0⟩ : ∃ r0 rest, rows = r0 :: rest := by
      cases rows with
      | nil => have := hk.l1; simp at this
      | cons r0 rest => exact ⟨r0, rest, rfl⟩
    have w0 := hk.rw r0 (by rw [hr0]; exact List.mem_cons_self)
    have l1 := hk.l1; have l64 := hk.l64; have n1 := hk.n1; have n8 := hk.n8
    have at0 : atI (rows.map rowD) 0 = some (rowD r0) := by rw [hr0]; simp [atI, ixN]
    have hlr : (rowD r0) = .tup (r0.map Dat.int) := rfl
    refine sp_ifq (b := false) (et_orP (a := false) (b := false) (et_not (a := true) (et_bl (ev_cb (ea_cons (ev_var rfl) (ea_cons ev_ty ea_nil)) (cd_isi (T := "tuple") rfl (by decide +kernel))))) fun _ => et_not (a := true) (et_test (ev_chain (a := true) (b := true) ev_int (ev_cb (ea_cons (ev_var rfl) ea_nil) (cd_len .tup)) (o_leT (by rw [List.length_map]; omega)) (fun _ => ev_var rfl) (fun _ => o_leT (by rw [List.length_map]; omega))))) (fun h => by cases h) fun _ => sp_nextq ?_
    refine sp_ifq (b := false) (et_orP (a := false) (b := false) (et_not (a := true) (et_bl (ev_cb (ea_cons (ev_op (ev_var rfl) ev_int (op2_ix .tup at0)) (ea_cons ev_ty ea_nil)) (cd_isi (T := "tuple") rfl (by decide +kernel))))) fun _ => et_not (a := true) (et_test (ev_chain (a := true) (b := true) ev_int (ev_cb (ea_cons (ev_op (ev_var rfl) ev_int (op2_ix .tup at0)) ea_nil) (cd_len .tup)) (o_leT (by rw [List.length_map, w0.1]; omega)) (fun _ => ev_var rfl) (fun _ => o_leT (by rw [List.length_map, w0.1]; omega))))) (fun h => by cases h) fun _ => sp_nextq ?_
    refine sp_set (S1 := S') (x := .d (.int n)) ?_ ?_
    · have := ev_cb (S2 := S') (ea_cons (ev_op (K := K) (env := [some (.d (layD rows)), some (.d (.int a)), some (.d (.int b)), none, none, none]) (S := S') (ev_var (i := 0) rfl) (ev_int (i := 0)) (op2_ix .tup at0)) ea_nil) (cd_len (ds := r0.map Dat.int) .tup)
      rw [List.length_map, w0.1] at this
      exact this
    refine sp_seq (P' := { nx := fun env' S2 => S2 = S' ∧ ∃ o1 o2, env' = [some (.d (layD rows)), some (.d (.int a)), some (.d (.int b)), some (.d (.int n)), o1, o2] })
      (sp_forA (xs := rows) (g := rowD) (it_tup (ev_var rfl)) (fun i env' S2 => S2 = S' ∧ ∃ o1 o2, env' = [some (.d (layD rows)), some (.d (.int a)), some (.d (.int b)), some (.d (.int n)), o1, o2]) ⟨rfl, none, none, rfl⟩ (fun _ _ _ _ _ _ _ _ _ => trivial) ?_ ?_) ?_
    · rintro i r env' S2 hx ⟨rfl, o1, o2, rfl⟩
      have hr := hk.rw r (List.mem_of_getElem? hx)
      refine ⟨[4], fun env => env.set 4 (some (.d (rowD r))), tg_name, ?_⟩
      refine sp_ifq (b := false) (et_orP (a := false) (b := false) (et_not (a := true) (et_bl (ev_cb (ea_cons (ev_var rfl) (ea_cons ev_ty ea_nil)) (cd_isi (T := "tuple") rfl (by decide +kernel))))) fun _ => et_test (ev_op (ev_cb (ea_cons (ev_var rfl) ea_nil) (cd_len .tup)) (ev_var rfl) (op2_neI (by rw [List.length_map, hr.1])))) (fun h => by cases h) fun _ => sp_nextq ?_
      refine sp_forA (xs := r) (g := Dat.int) (it_tup (ev_var rfl)) (fun i env' S3 => S3 = S2 ∧ ∃ o2, env' = [some (.d (layD rows)), some (.d (.int a)), some (.d (.int b)), some (.d (.int n)), some (.d (rowD r)), o2]) ⟨rfl, o2, rfl⟩ (fun _ _ _ _ _ _ _ _ _ => trivial) ?_ ?_
      · rintro j x env' S3 hx2 ⟨rfl, o2, rfl⟩
        have hs := hr.2 x (List.mem_of_getElem? hx2)
        refine ⟨[5], fun env => env.set 5 (some (.d (.int x))), tg_name, ?_⟩
        refine sp_if (b := false) (et_orP (a := false) (b := false) (et_not (a := true) (et_bl (ev_cb (ea_cons (ev_var rfl) (ea_cons ev_ty ea_nil)) (cd_isi (T := "int") rfl (by decide +kernel))))) fun _ => et_orP (a := false) (b := false) (et_test (ev_op (ev_var rfl) ev_bl o_isX_int)) fun _ => et_orP (a := false) (b := false) (et_test (ev_op (ev_var rfl) ev_bl o_isX_int)) fun _ => et_orP (a := false) (b := false) (et_test ((ev_op (ev_var rfl) ev_int o_le).to ?_)) fun _ => et_test ((ev_op (ev_var rfl) ev_int o_ge).to ?_)) (fun h => by cases h) fun _ => sp_next ⟨rfl, _, rfl⟩
        · congr 2; exact decide_eq_false (by have := hs.wide.1; omega)
        · congr 2; exact decide_eq_false (by have := hs.wide.2; omega)
      · rintro env' S3 ⟨rfl, o2, rfl⟩
        exact ⟨rfl, _, _, rfl⟩
    · rintro env' S2 ⟨rfl, o1, o2, rfl⟩
      exact ⟨rfl, _, _, rfl⟩
    · rintro env' S2 ⟨rfl, o1, o2, rfl⟩
      exact sp_ret ev_bl ⟨rfl, List.take_length⟩
end
end N85

set_option Elab.async false
set_option linter.all false
set_option maxRecDepth 100000
set_option maxHeartbeats 4000000
namespace N85
open PySem PySem.Spec PyProof.Rows L2 RW

def netLs (n : Nat) (L : Lays) (last : List Int) : List Str := ([Str.ofString "network " ++ numS n] ++ L.flatMap fun l => [Str.ofString "layer"] ++ l.map lineS) ++ [Str.ofString "last", lineS last, Str.ofString "end"]
structure NOk (n : Nat) (L : Lays) (last : List Int) : Prop where
  wf : Wf n L last
  few : L.flatten.length ≤ 20
def gNetT (C : Addr) (ss : List Sl) (S : List Dat) (r : Dat) (S' : List Dat) : Prop := ∃ (n : Nat) (L : Lays) (last : List Int), ss = [.d (netD C n L last)] ∧ NOk n L last ∧ r = .str (textS (netLs n L last)) ∧ S' = S
theorem NOk.row {n : Nat} {L : Lays} {last : List Int} (h : NOk n L last) : (∀ l ∈ L, ∀ u ∈ l, (∀ x ∈ u, Sh x) ∧ u.length ≤ 28) ∧ (∀ x ∈ last, Sh x) ∧ last.length ≤ 28 := by
  have n8 := h.wf.n8
  have few := h.few
  refine ⟨fun l hl u hu => ?_, h.wf.la.2, by rw [h.wf.la.1]; omega⟩
  obtain ⟨i, hi⟩ := List.mem_iff_getElem?.mp hl
  have hw := (h.wf.wl.get hi).2.2 u hu
  refine ⟨hw.2, ?_⟩
  rw [hw.1]
  have : (L.take i).flatten.length ≤ L.flatten.length := by
    conv => rhs; rw [← List.take_append_drop i L, List.flatten_append, List.length_append]
    omega
  omega
theorem fm_len (L : Lays) : (L.flatMap fun l => [Str.ofString "layer"] ++ l.map lineS).length = L.length + L.flatten.length := by
  induction L with
  | nil => rfl
  | cons l L ih =>
    rw [List.flatMap_cons, List.length_append, ih, List.flatten_cons, List.length_append, List.length_append, List.length_map, List.length_cons]
    simp; omega
theorem NOk.tok {n : Nat} {L : Lays} {last : List Int} (h : NOk n L last) : TOK (netLs n L last) := by
  have n8 := h.wf.n8
  have l4 := h.wf.l4
  have few := h.few
  obtain ⟨h1, h2, h3⟩ := h.row
  have hn : Sh (n : Int) := by unfold Sh; omega
  have key : ∀ l ∈ netLs n L last, GL l ∧ l.length ≤ 2000 := fun l hl => by
    unfold netLs at hl
    rcases List.mem_append.mp hl with hl | hl
    · rcases List.mem_append.mp hl with hl | hl
      · rw [List.mem_singleton.mp hl]
        refine ⟨gl_app (glw _) (gl_num _), ?_⟩
        have := numS_len hn
        have e : (Str.ofString "network " ++ numS n).length = (Str.ofString "network ").length + (numS n).length := by
          rw [TL.len_tl, TL.tl_append, List.length_append, ← TL.len_tl, ← TL.len_tl]
        rw [e, lnS (k := 8) rfl]
        omega
      · obtain ⟨m, hm, hl⟩ := List.mem_flatMap.mp hl
        rcases List.mem_append.mp hl with hl | hl
        · rw [List.mem_singleton.mp hl]; exact ⟨glw _, lnw _⟩
        · obtain ⟨u, hu, rfl⟩ := List.mem_map.mp hl
          have h4 := h1 m hm u hu
          have := line_len h4.1
          exact ⟨gl_line u, by have := h4.2; omega⟩
    · rcases List.mem_cons.mp hl with rfl | hl
      · exact ⟨glw _, lnw _⟩
      · rcases List.mem_cons.mp hl with rfl | hl
        · have := line_len h2
          exact ⟨gl_line last, by omega⟩
        · rw [List.mem_singleton.mp hl]; exact ⟨glw _, lnw _⟩
  refine ⟨by simp [netLs], ?_, fun l hl => (key l hl).1, fun l hl => (key l hl).2⟩
  unfold netLs
  rw [List.length_append, List.length_append, fm_len]
  simp only [List.length_cons, List.length_nil]
  omega
theorem cut1 {xs : List Dat} : RW.cutD xs (some 1) none = xs.drop 1 := by
  unfold RW.cutD
  have e2 : HT.sIx xs.length xs.length none = xs.length := rfl
  have e1 : HT.sIx xs.length 0 (some 1) = min 1 xs.length := rfl
  rw [e1, e2]
  cases xs with
  | nil => rfl
  | cons x r =>
    rw [show min 1 (x :: r).length = 1 by simp]
    exact List.take_of_length_le (by simp)
theorem cd_rowL {K : PySem.W.Frag} {S : List Dat} {x : List Int} {n : Nat} (h : x.length = n) : CallD K (rLenD K) [.d (rowD x)] S (.int n) S := by
  have := cd_len (K := K) (S := S) (x := .d (rowD x)) (ds := x.map Dat.int) .tup
  rwa [List.length_map, h] at this
section
variable {P : Program} {w : World} {K : PySem.W.Frag} {mg : Str → Option Value} {base : Heap}

theorem ok_are_ascending (T : Txt K mg) : FnOk P w K mg base CX0 1 T.a_are_ascending T.d_are_ascending ["values"] (SpD K (gAsc)) := by
  refine T.F_are_ascending.ok sc_are_ascending (spd_len (k := 1) fun ss S r S' hg => ?_) (fun cdv A outer s H vs Q E hr h => ⟨_, (pss_cons (ps_set (i := 1) sc_are_ascending.nd rfl (by first | exact Or.inl rfl | exact Or.inr rfl) (pe_ix (ix_seqK K) (pv 0) pe_int (fun _ _ => rfl))) (pss_cons (ps_for PassesOwn.never rfl (pi_seqK K (pe_slice (sl_tupAK K) (pv 0) (po_some pe_int) po_none)) (pg_name (i := 2) sc_are_ascending.nd rfl (by first | exact Or.inl rfl | exact Or.inr rfl)) (pss_cons (ps_if (pt_cmpR (op_leT (Nat.lt_of_le_of_lt (Nat.le_add_right _ _) hr.units)) (pv 2) (pv 1) (nomark _)) (pss_one (ps_ret pe_bl)) pss_nil) (pss_one (ps_set (i := 1) sc_are_ascending.nd rfl (by first | exact Or.inl rfl | exact Or.inr rfl) (pv 2))))) (pss_one (ps_ret pe_bl)))), sp_body h fun ss S r S' hg => ?_⟩)
  · obtain ⟨n, rows, rfl, _⟩ := hg; rfl
  · obtain ⟨n, rows, rfl, hk, rfl, rfl⟩ := hg
    obtain ⟨r0, rest, hr0⟩ : ∃ r0 rest, rows = r0 :: rest := by
      cases rows with
      | nil => have := hk.l1; simp at this
      | cons r0 rest => exact ⟨r0, rest, rfl⟩
    subst hr0
    refine sp_set (x := .d (rowD r0)) (ev_op (ev_var rfl) ev_int (op2_ix .tup (by simp [atI, ixN]))) ?_
    refine sp_seq (P' := { nx := fun env' S2 => S2 = S' ∧ ∃ o1 o2, env' = [some (.d (layD (r0 :: rest))), o1, o2] })
      (sp_forA (xs := rest) (g := rowD) ?_ (fun i env' S2 => S2 = S' ∧ ∃ r o2, (r0 :: rest)[i]? = some r ∧ env' = [some (.d (layD (r0 :: rest))), some (.d (rowD r)), o2]) ⟨rfl, r0, none, rfl, rfl⟩ (fun _ _ _ _ _ _ _ _ _ => trivial) ?_ ?_) ?_
    · have := it_tup (K := K) (env := [some (.d (layD (r0 :: rest))), some (.d (rowD r0)), none]) (S := S') (ev_slT (ds := (r0 :: rest).map rowD) (ev_var (i := 0) rfl) (eo_some (ev_int (i := 1))) eo_none)
      rw [cut1] at this
      exact this
    · rintro i r env' S2 hx ⟨rfl, r1, o2, h1, rfl⟩
      refine ⟨[2], fun env => env.set 2 (some (.d (rowD r))), tg_name, ?_⟩
      have h2 : (r0 :: rest)[i + 1]? = some r := by simpa using hx
      have hlt : RwS.lx r1 r = true := by
        have hp := List.pairwise_iff_getElem.mp hk.asc
        obtain ⟨l1, e1⟩ := List.getElem?_eq_some_iff.mp h1
        obtain ⟨l2, e2⟩ := List.getElem?_eq_some_iff.mp h2
        have := hp i (i + 1) l1 l2 (by omega)
        rw [e1, e2] at this
        exact this
      have w1 := hk.rw r1 (List.mem_of_getElem? h1)
      have w2 := hk.rw r (List.mem_of_getElem? h2)
      refine sp_ifq (b := false) (et_test ((ev_op (ev_var rfl) (ev_var rfl) (o_leR (by rw [w1.1, w2.1]))).to (by rw [hlt]; rfl))) (fun h => by cases h) fun _ => sp_nextq ?_
      exact sp_set1 (ev_var rfl) ⟨rfl, r, _, h2, rfl⟩
    · rintro env' S2 ⟨rfl, r, o2, _, rfl⟩
      exact ⟨rfl, _, _, rfl⟩
    · rintro env' S2 ⟨rfl, o1, o2, rfl⟩
      exact sp_ret ev_bl ⟨rfl, List.take_length⟩
theorem ok_is_lot (T : Txt K mg) : FnOk P w K mg base CX0 2 T.a_is_lot T.d_is_lot ["value"] (SpD K (gAsc)) := by
  have G_are_short_rows := ok_are_short_rows (P := P) (w := w) (base := base) T
  have b_are_short_rows := T.b_are_short_rows
  have G_are_ascending := ok_are_ascending (P := P) (w := w) (base := base) T
  have b_are_ascending := T.b_are_ascending
  refine T.F_is_lot.ok sc_is_lot (spd_len (k := 1) fun ss S r S' hg => ?_) (fun cdv A outer s H vs Q E hr h => ⟨_, (pss_one (ps_ret (pe_and (pe_call G_are_short_rows (hr.mono (by decide)) rfl T.m_are_short_rows T.k_are_short_rows b_are_short_rows .nil pass0 (pa_cons (pv 0) (pa_cons (pe_glob (v := .int 400) rfl T.m_MOST_POINTS ⟨_, rfl⟩) (pa_cons (pe_glob (v := .int 8) rfl T.m_MOST_MEMBERS ⟨_, rfl⟩) pa_nil)))) (pe_one (pe_call G_are_ascending (hr.mono (by decide)) rfl T.m_are_ascending T.k_are_ascending b_are_ascending .nil pass0 (pa_cons (pv 0) pa_nil)))))), sp_body h fun ss S r S' hg => ?_⟩)
  · obtain ⟨n, rows, rfl, _⟩ := hg; rfl
  · obtain ⟨n, rows, rfl, hk, rfl, rfl⟩ := hg
    exact sp_ret (ev_andV (a := true) (b := true) (ev_call (ea_cons (ev_var rfl) (ea_cons ev_int (ea_cons ev_int ea_nil))) ⟨n, rows, _, _, rfl, hk, by decide, by decide, rfl, rfl⟩) fun _ => ev_call (ea_cons (ev_var rfl) ea_nil) ⟨n, rows, rfl, hk, rfl, rfl⟩) ⟨rfl, List.take_length⟩
theorem ok_need_lot (T : Txt K mg) : FnOk P w K mg base CX0 3 T.a_need_lot T.d_need_lot ["lot"] (SpD K (gNeedL)) := by
  have G_is_lot := ok_is_lot (P := P) (w := w) (base := base) T
  have b_is_lot := T.b_is_lot
  refine T.F_need_lot.ok sc_need_lot (spd_len (k := 1) fun ss S r S' hg => ?_) (fun cdv A outer s H vs Q E hr h => ⟨_, (pss_one (ps_if (pt_not (pt_truK K (pe_call G_is_lot (hr.mono (by decide)) rfl T.m_is_lot T.k_is_lot b_is_lot .nil pass0 (pa_cons (pv 0) pa_nil)))) (pss_one ps_never) pss_nil)), sp_body h fun ss S r S' hg => ?_⟩)
  · obtain ⟨n, rows, rfl, _⟩ := hg; rfl
  · obtain ⟨n, rows, rfl, hk, rfl, rfl⟩ := hg
    exact sp_if (b := false) (et_not (a := true) (et_bl (ev_call (ea_cons (ev_var rfl) ea_nil) ⟨n, rows, rfl, hk, rfl, rfl⟩))) (fun h => by cases h) fun _ => sp_next ⟨rfl, List.take_length⟩
theorem ok_is_reading (T : Txt K mg) : FnOk P w K mg base CX0 3 T.a_is_reading T.d_is_reading ["value"] (SpD K (gReadI (.bl true))) := by
  have G_is_lot := ok_is_lot (P := P) (w := w) (base := base) T
  have b_is_lot := T.b_is_lot
  refine T.F_is_reading.ok sc_is_reading (spd_len (k := 1) fun ss S r S' hg => ?_) (fun cdv A outer s H vs Q E hr h => ⟨_, (pss_cons (ps_if (PW.pt (pw_or (pt_not (pt_truK K (pe_callB call_isi (by rfl) T.n_isinstance (by decide +kernel) (pa_cons (pv 0) (pa_cons (pe_bltn (v := .ty "tuple") (by rfl) T.n_tuple (by decide +kernel) rfl) pa_nil))))) (pw_or1 (pt_cmpR op_ne (pe_callB (call_lenK K) (by rfl) T.n_len (by decide +kernel) (pa_cons (pv 0) pa_nil)) pe_int (nomark _))))) (pss_one (ps_ret pe_bl)) pss_nil) (pss_one (ps_ret (pe_and (pe_call G_is_lot (hr.mono (by decide)) rfl T.m_is_lot T.k_is_lot b_is_lot .nil pass0 (pa_cons (pe_ix (ix_seqK K) (pv 0) pe_int (fun _ _ => rfl)) pa_nil)) (pe_and (pe_call G_is_lot (hr.mono (by decide)) rfl T.m_is_lot T.k_is_lot b_is_lot .nil pass0 (pa_cons (pe_ix (ix_seqK K) (pv 0) pe_int (fun _ _ => rfl)) pa_nil)) (pe_one (pe_cmpR op_eq (pe_callB (call_lenK K) (by rfl) T.n_len (by decide +kernel) (pa_cons (pe_ix (ix_seqK K) (pe_ix (ix_seqK K) (pv 0) pe_int (fun _ _ => rfl)) pe_int (fun _ _ => rfl)) pa_nil)) (pe_callB (call_lenK K) (by rfl) T.n_len (by decide +kernel) (pa_cons (pe_ix (ix_seqK K) (pe_ix (ix_seqK K) (pv 0) pe_int (fun _ _ => rfl)) pe_int (fun _ _ => rfl)) pa_nil)) (nomark _)))))))), sp_body h fun ss S r S' hg => ?_⟩)
  · obtain ⟨n, rows, more, rfl, _⟩ := hg; rfl
  · obtain ⟨n, rows, more, rfl, hk, hk2, rfl, rfl⟩ := hg
    obtain ⟨r0, rest, hr0⟩ : ∃ r0 rest, rows = r0 :: rest := by
      cases rows with
      | nil => have := hk.l1; simp at this
      | cons r0 rest => exact ⟨r0, rest, rfl⟩
    obtain ⟨m0, mest, hm0⟩ : ∃ r0 rest, more = r0 :: rest := by
      cases more with
      | nil => have := hk2.l1; simp at this
      | cons r0 rest => exact ⟨r0, rest, rfl⟩
    subst hr0 hm0
    have w1 := hk.rw r0 List.mem_cons_self
    have w2 := hk2.rw m0 List.mem_cons_self
    refine sp_ifq (b := false) (et_orP (a := false) (b := false) (et_not (a := true) (et_bl (ev_cb (ea_cons (ev_var rfl) (ea_cons ev_ty ea_nil)) (cd_isi (T := "tuple") rfl (by decide +kernel))))) fun _ => et_test (ev_op (ev_cb (ea_cons (ev_var rfl) ea_nil) (cd_len .tup)) ev_int (op2_neI rfl))) (fun h => by cases h) fun _ => sp_nextq ?_
    have ix0 : ∀ {a b : Dat} {S : List Dat}, Op2 K (rIx K) (.d (.tup [a, b])) (.d (.int 0)) S a := fun {a b S} => op2_ix .tup (by simp [atI, ixN])
    have ix1 : ∀ {a b : Dat} {S : List Dat}, Op2 K (rIx K) (.d (.tup [a, b])) (.d (.int 1)) S b := fun {a b S} => op2_ix .tup (by simp [atI, ixN])
    have ixl : ∀ {a : List Int} {r : List (List Int)} {S : List Dat}, Op2 K (rIx K) (.d (layD (a :: r))) (.d (.int 0)) S (rowD a) := fun {a r S} => op2_ix .tup (by simp [atI, ixN])
    refine sp_ret (ev_andV (a := true) (b := true) (ev_call (ea_cons (ev_op (ev_var rfl) ev_int ix0) ea_nil) ⟨n, _, rfl, hk, rfl, rfl⟩) fun _ => ev_andV (a := true) (b := true) (ev_call (ea_cons (ev_op (ev_var rfl) ev_int ix1) ea_nil) ⟨n, _, rfl, hk2, rfl, rfl⟩) fun _ => ?_) ⟨rfl, List.take_length⟩
    refine (ev_op (ev_cb (ea_cons (ev_op (ev_op (ev_var rfl) ev_int ix0) ev_int ixl) ea_nil) (cd_rowL w1.1)) (ev_cb (ea_cons (ev_op (ev_op (ev_var rfl) ev_int ix1) ev_int ixl) ea_nil) (cd_rowL w2.1)) op2_eq_int).to ?_
    rw [decide_eq_true rfl]
theorem ok_need_reading (T : Txt K mg) : FnOk P w K mg base CX0 4 T.a_need_reading T.d_need_reading ["reading"] (SpD K (gReadI .non)) := by
  have G_is_reading := ok_is_reading (P := P) (w := w) (base := base) T
  have b_is_reading := T.b_is_reading
  refine T.F_need_reading.ok sc_need_reading (spd_len (k := 1) fun ss S r S' hg => ?_) (fun cdv A outer s H vs Q E hr h => ⟨_, (pss_one (ps_if (pt_not (pt_truK K (pe_call G_is_reading (hr.mono (by decide)) rfl T.m_is_reading T.k_is_reading b_is_reading .nil pass0 (pa_cons (pv 0) pa_nil)))) (pss_one ps_never) pss_nil)), sp_body h fun ss S r S' hg => ?_⟩)
  · obtain ⟨n, rows, more, rfl, _⟩ := hg; rfl
  · obtain ⟨n, rows, more, rfl, hk, hk2, rfl, rfl⟩ := hg
    exact sp_if (b := false) (et_not (a := true) (et_bl (ev_call (ea_cons (ev_var rfl) ea_nil) ⟨n, rows, more, rfl, hk, hk2, rfl, rfl⟩))) (fun h => by cases h) fun _ => sp_next ⟨rfl, List.take_length⟩
theorem ok_lot_text (T : Txt K mg) : FnOk P w K mg base CX0 4 T.a_lot_text T.d_lot_text ["lot"] (SpD K (gLotT)) := by
  have G_need_lot := ok_need_lot (P := P) (w := w) (base := base) T
  have b_need_lot := T.b_need_lot
  have G_text_of := ok_text_of (P := P) (w := w) (base := base) T
  have b_text_of := T.b_text_of
  have G_row_line := ok_row_line (P := P) (w := w) (base := base) T
  have b_row_line := T.b_row_line
  refine T.F_lot_text.ok sc_lot_text (spd_len (k := 1) fun ss S r S' hg => ?_) (fun cdv A outer s H vs Q E hr h => ⟨_, (pss_cons (ps_expr (pe_call G_need_lot (hr.mono (by decide)) rfl T.m_need_lot T.k_need_lot b_need_lot .nil pass0 (pa_cons (pv 0) pa_nil))) (pss_one (ps_ret (pe_call G_text_of (hr.mono (by decide)) rfl T.m_text_of T.k_text_of b_text_of .nil pass0 (pa_cons (pe_op op_cat (pe_op op_cat (pe_lst (pa_cons pe_str pa_nil)) (pe_lc (own := [("point", 1)]) rfl sc_lot_text.nd (pi_seqK K (pv 0)) (blkOk_by (own := [("point", 1)]) (N := ["lot", "point"]) (sc := (defScope s_lot_text)) (by decide +kernel)) (fun _ _ _ _ _ => (pg_name (i := 1) sc_lot_text.nd rfl (by first | exact Or.inl rfl | exact Or.inr rfl))) (fun _ _ _ _ _ => pts_nil) (fun _ _ _ _ _ => (pe_call G_row_line (hr.mono (by decide)) rfl T.m_row_line T.k_row_line b_row_line .nil pass0 (pa_cons (pv 1) pa_nil))))) (pe_lst (pa_cons pe_str pa_nil))) pa_nil))))), sp_body h fun ss S r S' hg => ?_⟩)
  · obtain ⟨n, rows, rfl, _⟩ := hg; rfl
  · obtain ⟨n, rows, rfl, hk, rfl, rfl⟩ := hg
    refine sp_drop (ev_call (ea_cons (ev_var rfl) ea_nil) ⟨n, rows, rfl, hk, rfl, rfl⟩) ?_
    have l64 := hk.l64
    refine sp_ret (ev_call (ea_cons (x := .d (strsD (lotLs rows))) ?_ ea_nil) ⟨lotLs rows, rfl, hk.tok, rfl, rfl⟩) ⟨rfl, List.take_length⟩
    refine (EvN.ev (en_cat (ds := [Dat.str (Str.ofString "lot")] ++ rows.map fun r => Dat.str (lineS r)) (es := [Dat.str (Str.ofString "end")]) (EvN.ev (en_cat (ds := [Dat.str (Str.ofString "lot")]) (es := rows.map fun r => Dat.str (lineS r)) (EvN.ev (en_lst (ds := [Dat.str (Str.ofString "lot")]) (ea_cons ev_str ea_nil) (szl (by decide)))) (EvN.ev (en_mapA (xs := rows) (g := rowD) (is := [1]) (fun r => Dat.str (lineS r)) (it_tup (ev_var rfl)) (szl (by omega)) (fun _ _ => trivial) (by decide) (fun r env => env.set 1 (some (.d (rowD r)))) fun r hr => ⟨tg_name, ?_⟩)) .lst .lst ?_)) (EvN.ev (en_lst (ds := [Dat.str (Str.ofString "end")]) (ea_cons ev_str ea_nil) (szl (by decide)))) .lst .lst ?_)).to ?_
    · have h1 := hk.rw r hr
      exact ev_call (ea_cons (ev_var rfl) ea_nil) ⟨r, rfl, h1.2, by rw [h1.1]; have := hk.n8; omega, rfl, rfl⟩
    · exact szl (by simp; omega)
    · exact szl (by simp; omega)
    · unfold strsD lotLs
      rw [List.map_append, List.map_append, List.map_map]
      rfl
theorem ok_reading_text (T : Txt K mg) : FnOk P w K mg base CX0 5 T.a_reading_text T.d_reading_text ["reading"] (SpD K (gReadT)) := by
  have G_need_reading := ok_need_reading (P := P) (w := w) (base := base) T
  have b_need_reading := T.b_need_reading
  have G_row_line := ok_row_line (P := P) (w := w) (base := base) T
  have b_row_line := T.b_row_line
  have G_text_of := ok_text_of (P := P) (w := w) (base := base) T
  have b_text_of := T.b_text_of
  refine T.F_reading_text.ok sc_reading_text (spd_len (k := 1) fun ss S r S' hg => ?_) (fun cdv A outer s H vs Q E hr h => ⟨_, (pss_cons (ps_expr (pe_call G_need_reading (hr.mono (by decide)) rfl T.m_need_reading T.k_need_reading b_need_reading .nil pass0 (pa_cons (pv 0) pa_nil))) (pss_cons (ps_asg (pv 0) (pg_tup rfl (pgs_cons (pg_name (i := 1) sc_reading_text.nd rfl (by first | exact Or.inl rfl | exact Or.inr rfl)) (pgs_cons (pg_name (i := 2) sc_reading_text.nd rfl (by first | exact Or.inl rfl | exact Or.inr rfl)) pgs_nil)))) (pss_cons (ps_set (i := 3) sc_reading_text.nd rfl (by first | exact Or.inl rfl | exact Or.inr rfl) (pe_op op_cat (pe_op op_cat (pe_lc (own := [("point", 4)]) rfl sc_reading_text.nd (pi_seqK K (pv 1)) (blkOk_by (own := [("point", 4)]) (N := ["reading", "above", "below", "lines", "point"]) (sc := (defScope s_reading_text)) (by decide +kernel)) (fun _ _ _ _ _ => (pg_name (i := 4) sc_reading_text.nd rfl (by first | exact Or.inl rfl | exact Or.inr rfl))) (fun _ _ _ _ _ => pts_nil) (fun _ _ _ _ _ => (pe_call G_row_line (hr.mono (by decide)) rfl T.m_row_line T.k_row_line b_row_line .nil pass0 (pa_cons (pv 4) pa_nil)))) (pe_lst (pa_cons pe_str pa_nil))) (pe_lc (own := [("point", 4)]) rfl sc_reading_text.nd (pi_seqK K (pv 2)) (blkOk_by (own := [("point", 4)]) (N := ["reading", "above", "below", "lines", "point"]) (sc := (defScope s_reading_text)) (by decide +kernel)) (fun _ _ _ _ _ => (pg_name (i := 4) sc_reading_text.nd rfl (by first | exact Or.inl rfl | exact Or.inr rfl))) (fun _ _ _ _ _ => pts_nil) (fun _ _ _ _ _ => (pe_call G_row_line (hr.mono (by decide)) rfl T.m_row_line T.k_row_line b_row_line .nil pass0 (pa_cons (pv 4) pa_nil)))))) (pss_one (ps_ret (pe_call G_text_of (hr.mono (by decide)) rfl T.m_text_of T.k_text_of b_text_of .nil pass0 (pa_cons (pe_op op_cat (pe_op op_cat (pe_lst (pa_cons pe_str (pa_cons pe_str pa_nil))) (pv 3)) (pe_lst (pa_cons pe_str pa_nil))) pa_nil))))))), sp_body h fun ss S r S' hg => ?_⟩)
  · obtain ⟨n, rows, more, rfl, _⟩ := hg; rfl
  · obtain ⟨n, rows, more, rfl, hk, hk2, rfl, rfl⟩ := hg
    refine sp_drop (ev_call (ea_cons (ev_var rfl) ea_nil) ⟨n, rows, more, rfl, hk, hk2, rfl, rfl⟩) ?_
    refine sp_asg (ev_var rfl) tg_pair ?_
    have l64 := hk.l64
    have m64 := hk2.l64
    refine sp_set (S1 := S') (x := .d (strsD (rows.map lineS ++ [Str.ofString "below"] ++ more.map lineS))) ?_ ?_
    · refine (EvN.ev (en_cat (ds := (rows.map fun r => Dat.str (lineS r)) ++ [Dat.str (Str.ofString "below")]) (es := more.map fun r => Dat.str (lineS r)) (EvN.ev (en_cat (ds := rows.map fun r => Dat.str (lineS r)) (es := [Dat.str (Str.ofString "below")]) (EvN.ev (en_mapA (xs := rows) (g := rowD) (is := [4]) (fun r => Dat.str (lineS r)) (it_tup (ev_var rfl)) (szl (by omega)) (fun _ _ => trivial) (by decide) (fun r env => env.set 4 (some (.d (rowD r)))) fun r hr => ⟨tg_name, ?_⟩)) (EvN.ev (en_lst (ds := [Dat.str (Str.ofString "below")]) (ea_cons ev_str ea_nil) (szl (by decide)))) .lst .lst ?_)) (EvN.ev (en_mapA (xs := more) (g := rowD) (is := [4]) (fun r => Dat.str (lineS r)) (it_tup (ev_var rfl)) (szl (by omega)) (fun _ _ => trivial) (by decide) (fun r env => env.set 4 (some (.d (rowD r)))) fun r hr => ⟨tg_name, ?_⟩)) .lst .lst ?_)).to ?_
      · have h1 := hk.rw r hr
        exact ev_call (ea_cons (ev_var rfl) ea_nil) ⟨r, rfl, h1.2, by rw [h1.1]; have := hk.n8; omega, rfl, rfl⟩
      · exact szl (by simp; omega)
      · have h1 := hk2.rw r hr
        exact ev_call (ea_cons (ev_var rfl) ea_nil) ⟨r, rfl, h1.2, by rw [h1.1]; have := hk2.n8; omega, rfl, rfl⟩
      · exact szl (by simp; omega)
      · unfold strsD
        rw [List.map_append, List.map_append, List.map_map, List.map_map]
        rfl
    · refine sp_ret (ev_call (ea_cons (x := .d (strsD (readLs rows more))) ?_ ea_nil) ⟨readLs rows more, rfl, read_tok hk hk2, rfl, rfl⟩) ⟨rfl, List.take_length⟩
      refine (EvN.ev (en_cat (EvN.ev (en_cat (ds := [Dat.str (Str.ofString "reading"), Dat.str (Str.ofString "above")]) (es := (rows.map lineS ++ [Str.ofString "below"] ++ more.map lineS).map Dat.str) (EvN.ev (en_lst (ds := [Dat.str (Str.ofString "reading"), Dat.str (Str.ofString "above")]) (ea_cons ev_str (ea_cons ev_str ea_nil)) (szl (by decide)))) (ev_var rfl) .lst .lst ?_)) (EvN.ev (en_lst (ds := [Dat.str (Str.ofString "end")]) (ea_cons ev_str ea_nil) (szl (by decide)))) .lst .lst ?_)).to ?_
      · exact szl (by simp; omega)
      · exact szl (by simp; omega)
      · simp only [strsD, readLs, List.map_append]
        rfl
theorem ok_network_text (T : Txt K mg) : FnOk P w K mg base CX0 2 T.a_network_text T.d_network_text ["network"] (SpD K (gNetT T.C)) := by
  have G_need_network := ok_need_network (P := P) (w := w) (base := base) T
  have b_need_network := T.b_need_network
  have G_row_line := ok_row_line (P := P) (w := w) (base := base) T
  have b_row_line := T.b_row_line
  have G_text_of := ok_text_of (P := P) (w := w) (base := base) T
  have b_text_of := T.b_text_of
  refine T.F_network_text.ok sc_network_text (spd_len (k := 1) fun ss S r S' hg => ?_) (fun cdv A outer s H vs Q E hr h => ⟨_, (pss_cons (ps_expr (pe_call G_need_network (hr.mono (by decide)) rfl T.m_need_network T.k_need_network b_need_network .nil pass0 (pa_cons (pv 0) pa_nil))) (pss_cons (ps_set (i := 1) sc_network_text.nd rfl (by first | exact Or.inl rfl | exact Or.inr rfl) (pe_lst (pa_cons (pe_op op_addS (pe_glob (v := .str (Str.ofString "network ")) rfl T.m_HEAD ⟨_, rfl⟩) (pe_callTy call_strI (by rfl) T.n_str (by decide +kernel) (pa_cons (pe_fld (pv 0) rfl) pa_nil))) pa_nil))) (pss_cons (ps_for PassesOwn.never rfl (pi_seqK K (pe_fld (pv 0) rfl)) (pg_name (i := 2) sc_network_text.nd rfl (by first | exact Or.inl rfl | exact Or.inr rfl)) (pss_cons (ps_expr (pe_bm PySem.F.plainAttrs_list PySem.F.slot_list_append PySem.F.type_list_append mt_append (pv 1) (pa_cons pe_str pa_nil))) (pss_one (ps_expr (pe_bm PySem.F.plainAttrs_list PySem.F.slot_list_extend PySem.F.type_list_extend mt_extend (pv 1) (pa_cons (pe_lc (own := [("unit", 3)]) rfl sc_network_text.nd (pi_seqK K (pv 2)) (blkOk_by (own := [("unit", 3)]) (N := ["network", "lines", "layer", "unit"]) (sc := (defScope s_network_text)) (by decide +kernel)) (fun _ _ _ _ _ => (pg_name (i := 3) sc_network_text.nd rfl (by first | exact Or.inl rfl | exact Or.inr rfl))) (fun _ _ _ _ _ => pts_nil) (fun _ _ _ _ _ => (pe_call G_row_line (hr.mono (by decide)) rfl T.m_row_line T.k_row_line b_row_line .nil pass0 (pa_cons (pv 3) pa_nil)))) pa_nil)))))) (pss_one (ps_ret (pe_call G_text_of (hr.mono (by decide)) rfl T.m_text_of T.k_text_of b_text_of .nil pass0 (pa_cons (pe_op op_cat (pv 1) (pe_lst (pa_cons pe_str (pa_cons (pe_call G_row_line (hr.mono (by decide)) rfl T.m_row_line T.k_row_line b_row_line .nil pass0 (pa_cons (pe_fld (pv 0) rfl) pa_nil)) (pa_cons pe_str pa_nil))))) pa_nil))))))), sp_body h fun ss S r S' hg => ?_⟩)
  · obtain ⟨n, L, last, rfl, _⟩ := hg; rfl
  · obtain ⟨n, L, last, rfl, hk, rfl, rfl⟩ := hg
    obtain ⟨h1, h2, h3⟩ := hk.row
    have n8 := hk.wf.n8
    have l4 := hk.wf.l4
    have few := hk.few
    have hn : Sh (n : Int) := by unfold Sh; omega
    have htl : (netLs n L last).length ≤ 100 := hk.tok.n
    refine sp_drop (ev_call (ea_cons (ev_var rfl) ea_nil) ⟨n, L, last, rfl, rfl, rfl⟩) ?_
    refine sp_setC (en_lst (ds := [Dat.str (Str.ofString "network " ++ numS n)]) (ea_cons (ev_op ev_str (ev_cb (ea_cons (ev_fld (ev_var rfl) T.cl T.na_inputs rfl) ea_nil) (cd_strI (fits hn))) (o_addS ?_)) ea_nil) (szl (by simp))) ?_
    · have := numS_len hn
      rw [lnS (k := 8) rfl]
      exact szl (by show 8 + (numS n).length ≤ _; omega)
    have fmt : ∀ i, ((L.take i).flatMap fun l => [Str.ofString "layer"] ++ l.map lineS).length ≤ 24 := fun i => by
      rw [fm_len, List.length_take]
      have : (L.take i).flatten.length ≤ L.flatten.length := by
        conv => rhs; rw [← List.take_append_drop i L, List.flatten_append, List.length_append]
        omega
      omega
    refine sp_seq (P' := { nx := fun env' S2 => S2 = S' ++ [strsD ([Str.ofString "network " ++ numS n] ++ L.flatMap fun l => [Str.ofString "layer"] ++ l.map lineS)] ∧ ∃ o1, env' = [some (.d (netD T.C n L last)), some (.c S'.length), o1, none] })
      (sp_forA (xs := L) (g := layD) (it_tup (ev_fld (ev_var rfl) T.cl T.na_layers rfl)) (fun i env' S2 => S2 = S' ++ [strsD ([Str.ofString "network " ++ numS n] ++ (L.take i).flatMap fun l => [Str.ofString "layer"] ++ l.map lineS)] ∧ ∃ o1, env' = [some (.d (netD T.C n L last)), some (.c S'.length), o1, none]) ⟨rfl, none, rfl⟩ (fun _ _ _ _ _ _ _ _ _ => trivial) ?_ ?_) ?_
    · rintro i l env' S2 hl ⟨rfl, o1, rfl⟩
      have hf := fmt i
      refine ⟨[2], fun env => env.set 2 (some (.d (layD l))), tg_name, ?_⟩
      have hgetK : ∀ x : Dat, (S' ++ [x])[S'.length]? = some x := fun x => by simp
      have hsetK : ∀ x y : Dat, (S' ++ [x]).set S'.length y = S' ++ [y] := fun x y => by simp
      refine sp_drop (S1 := S' ++ [strsD (([Str.ofString "network " ++ numS n] ++ (L.take i).flatMap fun l => [Str.ofString "layer"] ++ l.map lineS) ++ [Str.ofString "layer"])]) ((ev_append (ev_var rfl) ev_str ⟨_, hgetK _⟩ (hgetK _) (Nat.lt_of_lt_of_le (m := 100) (by rw [List.length_map, List.length_append]; simp only [List.length_cons, List.length_nil]; omega) (szl (by decide)))).toS ?_) ?_
      · rw [hsetK]; simp only [strsD, List.map_append]; rfl
      · refine sp_drop1 (S1 := S' ++ [strsD ((([Str.ofString "network " ++ numS n] ++ (L.take i).flatMap fun l => [Str.ofString "layer"] ++ l.map lineS) ++ [Str.ofString "layer"]) ++ l.map lineS)]) ((ev_extend (es := l.map fun u => Dat.str (lineS u)) (ev_var rfl) (EvN.ev (en_mapA (xs := l) (g := rowD) (is := [3]) (fun u => Dat.str (lineS u)) (it_tup (ev_var rfl)) ?_ (fun _ _ => trivial) (by decide) (fun u env => env.set 3 (some (.d (rowD u)))) fun u hu => ⟨tg_name, ?_⟩)) ⟨_, hgetK _⟩ (hgetK _) ?_).toS ?_) ⟨?_, _, rfl⟩
        · have := (hk.wf.wl.get hl).2.1
          exact szl (by omega)
        · have hu2 := h1 l (List.mem_of_getElem? hl) u hu
          exact ev_call (ea_cons (ev_var rfl) ea_nil) ⟨u, rfl, hu2.1, by have := hu2.2; omega, rfl, rfl⟩
        · have := (hk.wf.wl.get hl).2.1
          rw [List.length_map, List.length_map, List.length_append, List.length_append]
          simp only [List.length_cons, List.length_nil]
          exact szl (by omega)
        · rw [hsetK]; simp only [strsD, List.map_append, List.map_map]; rfl
        · rw [flat_take (fun l => [Str.ofString "layer"] ++ l.map lineS) hl]
          simp only [List.append_assoc]
    · rintro env' S2 ⟨rfl, o1, rfl⟩
      rw [List.take_length]
      exact ⟨rfl, _, rfl⟩
    · rintro env' S2 ⟨rfl, o1, rfl⟩
      refine sp_ret (S1 := S' ++ [strsD ([Str.ofString "network " ++ numS n] ++ L.flatMap fun l => [Str.ofString "layer"] ++ l.map lineS)]) (ev_call (S1 := S' ++ [strsD ([Str.ofString "network " ++ numS n] ++ L.flatMap fun l => [Str.ofString "layer"] ++ l.map lineS)]) (ea_cons (x := .d (strsD (netLs n L last))) ?_ ea_nil) ⟨netLs n L last, rfl, hk.tok, rfl, rfl⟩) ⟨rfl, by simp⟩
      refine (EvN.ev (en_cat (x := .c S'.length) (ds := ([Str.ofString "network " ++ numS n] ++ L.flatMap fun l => [Str.ofString "layer"] ++ l.map lineS).map Dat.str) (ev_var rfl) (EvN.ev (en_lst (ds := [Dat.str (Str.ofString "last"), Dat.str (lineS last), Dat.str (Str.ofString "end")]) (ea_cons ev_str (ea_cons (ev_call (ea_cons (ev_fld (ev_var rfl) T.cl T.na_last rfl) ea_nil) ⟨last, rfl, h2, by omega, rfl, rfl⟩) (ea_cons ev_str ea_nil))) (szl (by simp)))) (.cell (by simp [strsD])) .lst ?_)).to ?_
      · have := fmt L.length
        rw [List.take_length] at this
        rw [List.length_map, List.length_append]
        simp only [List.length_cons, List.length_nil]
        exact szl (by omega)
      · simp only [strsD, netLs, List.map_append]
        rfl
end
end N85

set_option Elab.async false
set_option linter.all false
set_option maxRecDepth 100000
set_option maxHeartbeats 4000000
namespace N85
open PySem PySem.Spec PyProof.Rows L2 RW

def lnD (C : Addr) (ws : List Str) (a : Nat) : Dat := .ins C [("lines", strsD ws), ("at", .int a)]
def gLInit (C : Addr) (ss : List Sl) (S : List Dat) (r : Dat) (S' : List Dat) : Prop := ∃ (k : Nat) (ls : List Str), ss = [.c k, .d (.str (textS ls))] ∧ S[k]? = some (.ins C []) ∧ TOK ls ∧ r = .non ∧ S' = S.set k (lnD C (ls ++ [Str.empty]) 0)
def gLine (C : Addr) (ss : List Sl) (S : List Dat) (r : Dat) (S' : List Dat) : Prop := ∃ (k : Nat) (ws : List Str) (a : Nat) (w : Str), ss = [.c k] ∧ S[k]? = some (lnD C ws a) ∧ ws[a]? = some w ∧ a + 1 < ws.length ∧ r = .str w ∧ S' = S
def gGoOn (C : Addr) (ss : List Sl) (S : List Dat) (r : Dat) (S' : List Dat) : Prop := ∃ (k : Nat) (ws : List Str) (a : Nat), ss = [.c k] ∧ S[k]? = some (lnD C ws a) ∧ r = .non ∧ S' = S.set k (lnD C ws (a + 1))
def gWord (C : Addr) (ss : List Sl) (S : List Dat) (r : Dat) (S' : List Dat) : Prop := ∃ (k : Nat) (ws : List Str) (a : Nat) (w : Str), ss = [.c k, .d (.str w)] ∧ S[k]? = some (lnD C ws a) ∧ ws[a]? = some w ∧ a + 1 < ws.length ∧ r = .non ∧ S' = S.set k (lnD C ws (a + 1))
def gRowM (C : Addr) (ss : List Sl) (S : List Dat) (r : Dat) (S' : List Dat) : Prop := ∃ (k : Nat) (ws : List Str) (a : Nat) (u : List Int) (lo hi : Int), ss = [.c k, .d (.int lo), .d (.int hi)] ∧ S[k]? = some (lnD C ws a) ∧ ws[a]? = some (lineS u) ∧ a + 1 < ws.length ∧ (∀ x ∈ u, Sh x) ∧ lo ≤ u.length ∧ u.length ≤ hi ∧ 1 ≤ u.length ∧ u.length ≤ 30 ∧ r = rowD u ∧ S' = S
def gClose (C : Addr) (ss : List Sl) (S : List Dat) (r : Dat) (S' : List Dat) : Prop := ∃ (k : Nat) (ws : List Str), ss = [.c k] ∧ S[k]? = some (lnD C (ws ++ [Str.empty]) ws.length) ∧ r = .non ∧ S' = S
def gWhole (ss : List Sl) (S : List Dat) (r : Dat) (S' : List Dat) : Prop := ∃ i : Int, ss = [.d (.str (numS i))] ∧ Sh i ∧ r = .int i ∧ S' = S
def gRowI (ss : List Sl) (S : List Dat) (r : Dat) (S' : List Dat) : Prop := ∃ (u : List Int) (lo hi : Int), ss = [.d (.str (lineS u)), .d (.int lo), .d (.int hi)] ∧ (∀ x ∈ u, Sh x) ∧ lo ≤ u.length ∧ u.length ≤ hi ∧ 1 ≤ u.length ∧ u.length ≤ 30 ∧ r = rowD u ∧ S' = S
def gNeedT (ss : List Sl) (S : List Dat) (r : Dat) (S' : List Dat) : Prop := ∃ ls : List Str, ss = [.d (.str (textS ls))] ∧ TOK ls ∧ r = .non ∧ S' = S
theorem emp : Str.ofString "" = Str.empty := TL.ext_tl (by rw [TL.tl_ofString]; rfl)
theorem o_isNN {K : PySem.W.Frag} {S : List Dat} : Op2 K (fun x y H Q => y = V.non ∧ Q (.bl (decide (x = V.non))) H) (.d .non) (.d .non) S (.bl true) := fun B H as v w c r1 r2 Q q => by
  cases r1; cases r2
  exact ⟨rfl, by rw [decide_eq_true rfl]; exact q _ B H c Evo.refl (.bl _)⟩
theorem o_isNI {K : PySem.W.Frag} {S : List Dat} {i : Int} : Op2 K (fun x y H Q => y = V.non ∧ Q (.bl (decide (x = V.non))) H) (.d (.int i)) (.d .non) S (.bl false) := fun B H as v w c r1 r2 Q q => by
  cases r1; cases r2
  exact ⟨rfl, by rw [decide_eq_false (fun z => nomatch z)]; exact q _ B H c Evo.refl (.bl _)⟩
theorem o_isNT {K : PySem.W.Frag} {S ds : List Dat} : Op2 K (fun x y H Q => y = V.non ∧ Q (.bl (decide (x = V.non))) H) (.d (.tup ds)) (.d .non) S (.bl false) := fun B H as v w c r1 r2 Q q => by
  cases r2
  cases r1 with
  | tup h1 h2 => exact ⟨rfl, by rw [decide_eq_false (fun z => nomatch z)]; exact q _ B H c Evo.refl (.bl _)⟩
theorem at_last {ds : List Dat} {d : Dat} : atI (ds ++ [d]) (-1) = some d := by
  unfold atI ixN
  rw [List.length_append]
  simp only [List.length_cons, List.length_nil]
  have h1 : ¬ (0 : Int) ≤ -1 := by decide
  rw [if_neg h1, if_pos (by omega)]
  have h2 : (-1 + ((ds.length + (0 + 1) : Nat) : Int)).toNat = ds.length := by omega
  rw [h2]
  simp
section
variable {P : Program} {w : World} {K : PySem.W.Frag} {mg : Str → Option Value} {base : Heap}

theorem ok_Linesu_initu (T : Txt K mg) : FnOk P w K mg base CX0 1 T.a_Linesu_initu T.d_Linesu_initu ["self", "text"] (SpD K (gLInit T.CL)) := by
  refine T.F_Linesu_initu.ok sc_Linesu_initu (spd_len (k := 2) fun ss S r S' hg => ?_) (fun cdv A outer s H vs Q E hr h => ⟨_, (pss_cons (ps_fld (pv 0) (pe_bm PySem.F.plainAttrs_str PySem.F.slot_str_split PySem.F.type_str_split mt_split (pv 1) (pa_cons pe_str pa_nil)) rfl) (pss_one (ps_fld (pv 0) pe_int rfl))), sp_body h fun ss S r S' hg => ?_⟩)
  · obtain ⟨k, ls, rfl, _⟩ := hg; rfl
  · obtain ⟨k, ls, rfl, hk, ht, rfl, rfl⟩ := hg
    have hkl : k < S.length := (List.getElem?_eq_some_iff.mp hk).1
    have hl := text_len ht
    refine sp_fld (d := strsD (ls ++ [Str.empty])) ((EvN.ev (en_split (ev_var rfl) (ea_cons ev_str ea_nil) (by rw [lnS (k := 1) rfl]; rfl) (szl (by omega)))).to ?_) (ev_var rfl) hk T.cl_Lines T.na_Lines_lines (by show 0 < 1000; decide) ?_
    · rw [split_text ht.ne ht.gl]; rfl
    · refine sp_fld1 ev_int (ev_var rfl) (List.getElem?_set_self hkl) T.cl_Lines T.na_Lines_at (by show 1 < 1000; decide) ⟨rfl, ?_⟩
      rw [List.set_set, List.take_of_length_le (by simp)]
      rfl
theorem ok_Lines_line (T : Txt K mg) : FnOk P w K mg base CX0 1 T.a_Lines_line T.d_Lines_line ["self"] (SpD K (gLine T.CL)) := by
  refine T.F_Lines_line.ok sc_Lines_line (spd_len (k := 1) fun ss S r S' hg => ?_) (fun cdv A outer s H vs Q E hr h => ⟨_, (pss_cons (ps_if (pt_cmpR op_ge (pe_fld (pv 0) rfl) (pe_op op_sub (pe_callB (call_lenK K) (by rfl) T.n_len (by decide +kernel) (pa_cons (pe_fld (pv 0) rfl) pa_nil)) pe_int) (nomark _)) (pss_one ps_never) pss_nil) (pss_one (ps_ret (pe_ix (ix_seqK K) (pe_fld (pv 0) rfl) (pe_fld (pv 0) rfl) (fun _ _ => rfl))))), sp_body h fun ss S r S' hg => ?_⟩)
  · obtain ⟨k, ws, a, w, rfl, _⟩ := hg; rfl
  · obtain ⟨k, ws, a, w, rfl, hk, hw, ha, rfl, rfl⟩ := hg
    refine sp_ifq (b := false) (et_test ((ev_op (ev_fldC (ev_var rfl) hk T.cl_Lines T.na_Lines_at rfl) (ev_op (ev_cb (ea_cons (ev_fldC (ev_var rfl) hk T.cl_Lines T.na_Lines_lines rfl) ea_nil) (cd_len .lst)) ev_int o_sub) o_ge).to ?_)) (fun h => by cases h) fun _ => sp_nextq ?_
    · congr 2; rw [List.length_map]; exact decide_eq_false (by omega)
    · refine sp_ret (ev_op (ev_fldC (ev_var rfl) hk T.cl_Lines T.na_Lines_lines rfl) (ev_fldC (ev_var rfl) hk T.cl_Lines T.na_Lines_at rfl) (op2_ix .lst ?_)) ⟨rfl, List.take_length⟩
      have hl : a < ws.length := by omega
      have e : ws[a] = w := (List.getElem?_eq_some_iff.mp hw).2
      simp [atI, ixN, hl, e]
theorem ok_Lines_go_on (T : Txt K mg) : FnOk P w K mg base CX0 1 T.a_Lines_go_on T.d_Lines_go_on ["self"] (SpD K (gGoOn T.CL)) := by
  refine T.F_Lines_go_on.ok sc_Lines_go_on (spd_len (k := 1) fun ss S r S' hg => ?_) (fun cdv A outer s H vs Q E hr h => ⟨_, (pss_one (ps_fldaug (pv 0) pe_int in_add)), sp_body h fun ss S r S' hg => ?_⟩)
  · obtain ⟨k, ws, a, rfl, _⟩ := hg; rfl
  · obtain ⟨k, ws, a, rfl, hk, rfl, rfl⟩ := hg
    exact sp_fldaug1 (ev_var rfl) hk T.cl_Lines T.na_Lines_at rfl ev_int (by show 2 < 1000; decide) ⟨rfl, by rw [List.take_of_length_le (by simp)]; rfl⟩
theorem ok_Lines_word (T : Txt K mg) : FnOk P w K mg base CX0 2 T.a_Lines_word T.d_Lines_word ["self", "word"] (SpD K (gWord T.CL)) := by
  have G_Lines_line := ok_Lines_line (P := P) (w := w) (base := base) T
  have b_Lines_line := T.b_Lines_line
  have G_Lines_go_on := ok_Lines_go_on (P := P) (w := w) (base := base) T
  have b_Lines_go_on := T.b_Lines_go_on
  refine T.F_Lines_word.ok sc_Lines_word (spd_len (k := 2) fun ss S r S' hg => ?_) (fun cdv A outer s H vs Q E hr h => ⟨_, (pss_cons (ps_if (pt_cmpR op_ne (pe_meth0 (pv 0) T.cl_Lines T.me_Lines_line G_Lines_line (hr.mono (by decide)) b_Lines_line .nil pass0) (pv 1) (nomark _)) (pss_one ps_never) pss_nil) (pss_one (ps_expr (pe_meth0 (pv 0) T.cl_Lines T.me_Lines_go_on G_Lines_go_on (hr.mono (by decide)) b_Lines_go_on .nil pass0)))), sp_body h fun ss S r S' hg => ?_⟩)
  · obtain ⟨k, ws, a, w, rfl, _⟩ := hg; rfl
  · obtain ⟨k, ws, a, w, rfl, hk, hw, ha, rfl, rfl⟩ := hg
    refine sp_ifq (b := false) (et_test ((ev_op (ev_meth (ev_var rfl) hk rfl ea_nil ⟨k, ws, a, w, rfl, hk, hw, ha, rfl, rfl⟩) (ev_var rfl) o_neS).to (by rw [decide_eq_true rfl]; rfl))) (fun h => by cases h) fun _ => sp_nextq ?_
    exact sp_drop1 (ev_meth (ev_var rfl) hk rfl ea_nil ⟨k, ws, a, rfl, hk, rfl, rfl⟩) ⟨rfl, List.take_of_length_le (by simp)⟩
theorem ok_Lines_close (T : Txt K mg) : FnOk P w K mg base CX0 1 T.a_Lines_close T.d_Lines_close ["self"] (SpD K (gClose T.CL)) := by
  refine T.F_Lines_close.ok sc_Lines_close (spd_len (k := 1) fun ss S r S' hg => ?_) (fun cdv A outer s H vs Q E hr h => ⟨_, (pss_one (ps_if (PW.pt (pw_or (pt_cmpR op_lt (pe_fld (pv 0) rfl) (pe_op op_sub (pe_callB (call_lenK K) (by rfl) T.n_len (by decide +kernel) (pa_cons (pe_fld (pv 0) rfl) pa_nil)) pe_int) (nomark _)) (pw_or1 (pt_cmpR op_ne (pe_ix (ix_seqK K) (pe_fld (pv 0) rfl) (pe_un un_neg pe_int) (fun _ _ => rfl)) pe_str (nomark _))))) (pss_one ps_never) pss_nil)), sp_body h fun ss S r S' hg => ?_⟩)
  · obtain ⟨k, ws, rfl, _⟩ := hg; rfl
  · obtain ⟨k, ws, rfl, hk, rfl, rfl⟩ := hg
    refine sp_if (b := false) (et_orP (a := false) (b := false) (et_test ((ev_op (ev_fldC (ev_var rfl) hk T.cl_Lines T.na_Lines_at rfl) (ev_op (ev_cb (ea_cons (ev_fldC (ev_var rfl) hk T.cl_Lines T.na_Lines_lines rfl) ea_nil) (cd_len .lst)) ev_int o_sub) o_lt).to ?_)) fun _ => et_test ((ev_op (ev_op (d := .str Str.empty) (ev_fldC (ev_var rfl) hk T.cl_Lines T.na_Lines_lines rfl) (ev_un ev_int o_neg) (op2_ix .lst ?_)) ev_str o_neS).to (by rw [emp, decide_eq_true rfl]; rfl))) (fun h => by cases h) fun _ => sp_next ⟨rfl, List.take_length⟩
    · congr 2; rw [List.length_map, List.length_append]; exact decide_eq_false (by simp)
    · rw [List.map_append]; exact at_last
theorem ok_whole_in (T : Txt K mg) : FnOk P w K mg base CX0 1 T.a_whole_in T.d_whole_in ["word"] (SpD K (gWhole)) := by
  refine T.F_whole_in.ok sc_whole_in (spd_len (k := 1) fun ss S r S' hg => ?_) (fun cdv A outer s H vs Q E hr h => ⟨_, (pss_cons (ps_set (i := 1) sc_whole_in.nd rfl (by first | exact Or.inl rfl | exact Or.inr rfl) (pe_ifExp (pt_truK K (pe_bm PySem.F.plainAttrs_str PySem.F.slot_str_startswith PySem.F.type_str_startswith mt_startswith (pv 0) (pa_cons pe_str pa_nil))) (pe_slice sl_str (pv 0) (po_some pe_int) po_none) (pv 0))) (pss_cons (ps_if (PW.pt (pw_or (pt_not (pt_truK K (pe_bm0 PySem.F.plainAttrs_str PySem.F.slot_str_isdigit PySem.F.type_str_isdigit mt_isdigit (pv 1)))) (pw_or (pt_cmpR op_gt (pe_callB RwS.call_lenS (by rfl) T.n_len (by decide +kernel) (pa_cons (pv 1) pa_nil)) (pe_glob (v := .int 60) rfl T.m_MOST_DIGITS ⟨_, rfl⟩) (nomark _)) (pw_or1 (PW.pt (pw_and (pt_truK K (pe_bm PySem.F.plainAttrs_str PySem.F.slot_str_startswith PySem.F.type_str_startswith mt_startswith (pv 1) (pa_cons pe_str pa_nil))) (pw_and1 (pt_cmpR op_ne (pv 0) pe_str (nomark _))))))))) (pss_one (ps_ret pe_non)) pss_nil) (pss_one (ps_ret (pe_callTy call_intS (by rfl) T.n_int (by decide +kernel) (pa_cons (pv 0) pa_nil)))))), sp_body h fun ss S r S' hg => ?_⟩)
  · obtain ⟨i, rfl, _⟩ := hg; rfl
  · obtain ⟨i, rfl, hi, rfl, rfl⟩ := hg
    have hl := numS_len hi
    have hd := dig_len hi
    refine sp_set (S1 := S') (x := .d (.str (digS i))) (ev_if (b := decide (i < 0)) (et_bl ((ev_startsS (ev_var rfl) (ea_cons ev_str ea_nil)).to (by rw [starts_minus]))) (fun h => (ev_slS (ev_var rfl) (eo_some ev_int) eo_none (szl (by omega))).to (by rw [cut_num (of_decide_eq_true h)])) fun h => (ev_var rfl).to (by rw [num_dig (of_decide_eq_false h)])) ?_
    refine sp_ifq (b := false) (et_orP (a := false) (b := false) (et_not (a := true) (et_bl ((ev_bm0S (C := fun _ => True) (f := fun a => V.bl (Txt.isdigit a)) (ev_var rfl) trivial fun B => .bl _).to (by rw [isdig])))) fun _ => et_orP (a := false) (b := false) (et_test (ev_op (ev_cb (ea_cons (ev_var rfl) ea_nil) (cd_lenT (szl (by omega)))) ev_int (o_gtF (by omega)))) fun _ => ?_) (fun h => by cases h) fun _ => sp_nextq ?_
    · have := et_andP (K := K) (env := [some (.d (.str (numS i))), some (.d (.str (digS i)))]) (S := S') (a := Txt.startswith (digS i) (Str.ofString "0")) (b := !decide (numS i = Str.ofString "0")) (et_bl (ev_startsS (ev_var (i := 1) rfl) (ea_cons ev_str ea_nil))) fun _ => et_test (ev_op (ev_var (i := 0) rfl) ev_str o_neS)
      rw [dig0] at this
      exact this
    · exact sp_ret (ev_cb (ea_cons (ev_var rfl) ea_nil) (cd_intS (int_num hi) (by omega))) ⟨rfl, List.take_length⟩
theorem ok_row_in (T : Txt K mg) : FnOk P w K mg base CX0 2 T.a_row_in T.d_row_in ["line", "least", "most"] (SpD K (gRowI)) := by
  have G_whole_in := ok_whole_in (P := P) (w := w) (base := base) T
  have b_whole_in := T.b_whole_in
  refine T.F_row_in.ok sc_row_in (spd_len (k := 3) fun ss S r S' hg => ?_) (fun cdv A outer s H vs Q E hr h => ⟨_, (pss_cons (ps_if (pt_not (pt_truK K (pe_bm PySem.F.plainAttrs_str PySem.F.slot_str_startswith PySem.F.type_str_startswith mt_startswith (pv 0) (pa_cons (pe_glob (v := .str (Str.ofString "  ")) rfl T.m_BLANKS ⟨_, rfl⟩) pa_nil)))) (pss_one (ps_ret pe_non)) pss_nil) (pss_cons (ps_set (i := 3) sc_row_in.nd rfl (by first | exact Or.inl rfl | exact Or.inr rfl) (pe_bm PySem.F.plainAttrs_str PySem.F.slot_str_split PySem.F.type_str_split mt_split (pe_slice sl_str (pv 0) (po_some (pe_callB RwS.call_lenS (by rfl) T.n_len (by decide +kernel) (pa_cons (pe_glob (v := .str (Str.ofString "  ")) rfl T.m_BLANKS ⟨_, rfl⟩) pa_nil))) po_none) (pa_cons pe_str pa_nil))) (pss_cons (ps_if (pt_not (pt_chain op_le op_le (pv 1) (pe_callB (call_lenK K) (by rfl) T.n_len (by decide +kernel) (pa_cons (pv 3) pa_nil)) (pv 2))) (pss_one (ps_ret pe_non)) pss_nil) (pss_cons (ps_setLc (own := [("word", 5)]) (i := 4) rfl sc_row_in.nd rfl rfl (sw_true rfl rfl rfl (by decide +kernel)) (pi_seqK K (pv 3)) (blkOk_by (own := [("word", 5)]) (N := ["line", "least", "most", "words", "row", "word"]) (sc := (defScope s_row_in)) (by decide +kernel)) (fun _ _ _ _ _ => (pg_name (i := 5) sc_row_in.nd rfl (by first | exact Or.inl rfl | exact Or.inr rfl))) (fun _ _ _ _ _ => pts_nil) (fun _ _ _ _ _ => (pe_call G_whole_in (hr.mono (by decide)) rfl T.m_whole_in T.k_whole_in b_whole_in .nil pass0 (pa_cons (pv 5) pa_nil)))) (pss_one (ps_ret (pe_ifExp (pt_cmpR op_in_seq pe_non (pv 4) rfl) pe_non (pe_callTy (call_tupK K rfl) (by rfl) T.n_tuple (by decide +kernel) (pa_cons (pv 4) pa_nil))))))))), sp_body h fun ss S r S' hg => ?_⟩)
  · obtain ⟨u, lo, hi, rfl, _⟩ := hg; rfl
  · obtain ⟨u, lo, hi, rfl, hu, h1, h2, h3, h4, rfl, rfl⟩ := hg
    have hll := line_len hu
    have hne : u ≠ [] := by rintro rfl; simp at h3
    refine sp_ifq (b := false) (et_not (a := true) (et_bl ((ev_startsS (ev_var rfl) (ea_cons ev_str ea_nil)).to (by rw [starts_line])))) (fun h => by cases h) fun _ => sp_nextq ?_
    have hcl : (Txt.join (Str.ofString " ") (u.map numS)).length ≤ 2000 := by
      have : (lineS u).length = (Str.ofString "  ").length + (Txt.join (Str.ofString " ") (u.map numS)).length := by
        rw [TL.len_tl, lineS, TL.tl_append, List.length_append, ← TL.len_tl, ← TL.len_tl]
      omega
    refine sp_set (S1 := S') (x := .d (strsD (u.map numS))) ((EvN.ev (en_split ((ev_slS (lo := some 2) (ev_var rfl) (eo_some ((ev_cb (ea_cons ev_str ea_nil) (cd_lenT (szl (by rw [lnS (k := 2) rfl]; decide)))).to (by rw [lnS (k := 2) rfl]; rfl))) eo_none (szl (by omega))).to (by rw [cut_line])) (ea_cons ev_str ea_nil) (by rw [lnS (k := 1) rfl]; rfl) (szl (by omega)))).to ?_) ?_
    · rw [split_line hne]; rfl
    refine sp_ifq (b := false) (et_not (a := true) (et_test (ev_chain (a := true) (b := true) (ev_var rfl) (ev_cb (ea_cons (ev_var rfl) ea_nil) (cd_len .lst)) (o_leT (by rw [List.length_map, List.length_map]; exact h1)) (fun _ => ev_var rfl) (fun _ => o_leT (by rw [List.length_map, List.length_map]; exact h2))))) (fun h => by cases h) fun _ => sp_nextq ?_
    refine sp_set (S1 := S') (x := .d (.lst (u.map Dat.int))) (EvN.ev (EvN.toD (en_mapA (G := G0) (xs := u) (g := fun i => Dat.str (numS i)) (is := [5]) Dat.int ?_ (szl (by omega)) (fun _ _ => trivial) (by decide) (fun i env => env.set 5 (some (.d (.str (numS i))))) fun i hi => ⟨tg_name, ?_⟩) rfl)) ?_
    · have := it_lst (K := K) (ev_var (K := K) (S := S') (env := [some (.d (.str (lineS u))), some (.d (.int lo)), some (.d (.int hi)), some (.d (strsD (u.map numS))), none, none]) (i := 3) rfl)
      rw [List.map_map] at this
      exact this
    · exact ev_call (ea_cons (ev_var rfl) ea_nil) ⟨i, rfl, hu i hi, rfl, rfl⟩
    · exact sp_ret (ev_if (b := false) (et_test (ev_op ev_non (ev_var rfl) (o_inN .lst))) (fun h => by cases h) fun _ => ev_cb (ea_cons (ev_var rfl) ea_nil) (cd_tup .lst)) ⟨rfl, List.take_length⟩
theorem ok_Lines_row (T : Txt K mg) : FnOk P w K mg base CX0 3 T.a_Lines_row T.d_Lines_row ["self", "least", "most"] (SpD K (gRowM T.CL)) := by
  have G_row_in := ok_row_in (P := P) (w := w) (base := base) T
  have b_row_in := T.b_row_in
  have G_Lines_line := ok_Lines_line (P := P) (w := w) (base := base) T
  have b_Lines_line := T.b_Lines_line
  refine T.F_Lines_row.ok sc_Lines_row (spd_len (k := 3) fun ss S r S' hg => ?_) (fun cdv A outer s H vs Q E hr h => ⟨_, (pss_one (ps_ret (pe_call G_row_in (hr.mono (by decide)) rfl T.m_row_in T.k_row_in b_row_in .nil pass0 (pa_cons (pe_meth0 (pv 0) T.cl_Lines T.me_Lines_line G_Lines_line (hr.mono (by decide)) b_Lines_line .nil pass0) (pa_cons (pv 1) (pa_cons (pv 2) pa_nil)))))), sp_body h fun ss S r S' hg => ?_⟩)
  · obtain ⟨k, ws, a, u, lo, hi, rfl, _⟩ := hg; rfl
  · obtain ⟨k, ws, a, u, lo, hi, rfl, hk, hw, ha, hu, h1, h2, h3, h4, rfl, rfl⟩ := hg
    exact sp_ret (ev_call (ea_cons (ev_meth (ev_var rfl) hk rfl ea_nil ⟨k, ws, a, _, rfl, hk, hw, ha, rfl, rfl⟩) (ea_cons (ev_var rfl) (ea_cons (ev_var rfl) ea_nil))) ⟨u, lo, hi, rfl, hu, h1, h2, h3, h4, rfl, rfl⟩) ⟨rfl, List.take_length⟩
theorem ok_need_text (T : Txt K mg) : FnOk P w K mg base CX0 1 T.a_need_text T.d_need_text ["text"] (SpD K (gNeedT)) := by
  refine T.F_need_text.ok sc_need_text (spd_len (k := 1) fun ss S r S' hg => ?_) (fun cdv A outer s H vs Q E hr h => ⟨_, (RwS.pss_guard (RwS.ptg_or (pt_not (pt_truK K (pe_callB call_isi (by rfl) T.n_isinstance (by decide +kernel) (pa_cons (pv 0) (pa_cons (pe_bltn (v := .ty "str") (by rfl) T.n_str (by decide +kernel) rfl) pa_nil))))) (RwS.ptg_cmp op_gt (RwS.peg_len (by rfl) T.n_len (pa_cons (pv 0) pa_nil)) (pe_glob (v := .int 1200000) rfl T.m_MOST_TEXT ⟨_, rfl⟩) (nomark _))) (RwS.psst_guard (RwS.ptT_or (pt_not (pt_truK K (pe_bm0 PySem.F.plainAttrs_str PySem.F.slot_str_isascii PySem.F.type_str_isascii mt_isascii (pv 0)))) (RwS.ptT_not (RwS.ptT_tru (RwS.petT_bm0 PySem.F.plainAttrs_str PySem.F.slot_str_isprintable PySem.F.type_str_isprintable mt_isprintable (CwR.pet_replC (pv 0)))))))), sp_body h fun ss S r S' hg => ?_⟩)
  · obtain ⟨ls, rfl, _⟩ := hg; rfl
  · obtain ⟨ls, rfl, ht, rfl, rfl⟩ := hg
    have hl := text_len ht
    refine sp_guard (et_orF (et_not (a := true) (et_bl (ev_cb (ea_cons (ev_var rfl) (ea_cons ev_ty ea_nil)) (cd_isi (T := "str") rfl (by decide +kernel))))) (et_test (ev_op (ev_cb (ea_cons (ev_var rfl) ea_nil) (cd_lenT (szl (by omega)))) ev_int (o_gtF (by omega))))) ?_
    refine sp_guard1 (et_orP (a := false) (b := false) (et_not (a := true) (et_bl ((ev_bm0S (C := fun _ => True) (f := fun a => V.bl (Txt.isascii a)) (ev_var rfl) trivial fun B => .bl _).to (by rw [text_ascii ht.gl])))) fun _ => et_not (a := true) (et_bl ((ev_bm0S (C := fun _ => True) (f := fun a => V.bl (Txt.isprintable a)) (ev_repl (ev_var rfl) ?_) trivial fun B => .bl _).to (by rw [text_print ht.ne ht.gl])))) ⟨rfl, List.take_length⟩
    rw [lnS (s := "") (k := 0) rfl]
    omega
end
end N85

set_option Elab.async false
set_option linter.all false
set_option maxRecDepth 100000
set_option maxHeartbeats 4000000
namespace N85
open PySem PySem.Spec PyProof.Rows L2 RW

def layL (rows : List (List Int)) : Dat := .lst (rows.map rowD)
def gPoints (C : Addr) (ss : List Sl) (S : List Dat) (r : Dat) (S' : List Dat) : Prop := ∃ (k : Nat) (ws : List Str) (a : Nat) (len : Dat) (n : Nat) (rows : List (List Int)) (w : Str), ss = [.c k, .d len, .d (.str w)] ∧ S[k]? = some (lnD C ws a) ∧ (len = .non ∨ len = .int n) ∧ LotOk n rows ∧
  (∀ i r, rows[i]? = some r → ws[a + i]? = some (lineS r)) ∧ ws[a + rows.length]? = some w ∧ Txt.startswith w (Str.ofString "  ") = false ∧ a + rows.length + 1 < ws.length ∧ r = layD rows ∧ S' = S.set k (lnD C ws (a + rows.length + 1))
def gReadL (ss : List Sl) (S : List Dat) (r : Dat) (S' : List Dat) : Prop := ∃ (n : Nat) (rows : List (List Int)), ss = [.d (.str (textS (lotLs rows)))] ∧ LotOk n rows ∧ r = layD rows ∧ S' = S
def gReadR (ss : List Sl) (S : List Dat) (r : Dat) (S' : List Dat) : Prop := ∃ (n : Nat) (rows more : List (List Int)), ss = [.d (.str (textS (readLs rows more)))] ∧ LotOk n rows ∧ LotOk n more ∧ r = .tup [layD rows, layD more] ∧ S' = S
section
variable {S : List Dat} {k : Nat} {x x' y y' : Dat}
theorem gk (h : k < S.length) : (S.set k x ++ [y])[k]? = some x := by
  rw [List.getElem?_append_left (by simpa using h), List.getElem?_set_self h]
theorem gn : (S.set k x ++ [y])[S.length]? = some y := by
  rw [List.getElem?_append_right (by simp)]
  simp
theorem sk (h : k < S.length) : (S.set k x ++ [y]).set k x' = S.set k x' ++ [y] := by
  rw [List.set_append_left _ _ (by simpa using h), List.set_set]
theorem sn : (S.set k x ++ [y]).set S.length y' = S.set k x ++ [y'] := by
  rw [List.set_append_right _ _ (by simp)]
  simp
theorem same_set (h : S[k]? = some x) : S.set k x = S := by
  obtain ⟨h1, h2⟩ := List.getElem?_eq_some_iff.mp h
  rw [← h2, List.set_getElem_self]
end
theorem last_take {rows : List (List Int)} {i : Nat} {p : List Int} (h : rows[i]? = some p) : atI ((rows.take (i + 1)).map rowD) (-1) = some (rowD p) := by
  rw [map_take rowD h]
  exact at_last
section
variable {P : Program} {w : World} {K : PySem.W.Frag} {mg : Str → Option Value} {base : Heap}

theorem ok_points_in (T : Txt K mg) : FnOk P w K mg base CX0 4 T.a_points_in T.d_points_in ["lines", "length", "word"] (SpD K (gPoints T.CL)) := by
  have G_Lines_line := ok_Lines_line (P := P) (w := w) (base := base) T
  have b_Lines_line := T.b_Lines_line
  have G_Lines_row := ok_Lines_row (P := P) (w := w) (base := base) T
  have b_Lines_row := T.b_Lines_row
  have G_Lines_go_on := ok_Lines_go_on (P := P) (w := w) (base := base) T
  have b_Lines_go_on := T.b_Lines_go_on
  refine T.F_points_in.ok sc_points_in (spd_len (k := 3) fun ss S r S' hg => ?_) (fun cdv A outer s H vs Q E hr h => ⟨_, (pss_cons (ps_set (i := 3) sc_points_in.nd rfl (by first | exact Or.inl rfl | exact Or.inr rfl) (pe_lst pa_nil)) (pss_cons (ps_while PassesOwn.never (PW.pt (pw_or (pt_cmpR op_ne (pe_meth0 (pv 0) T.cl_Lines T.me_Lines_line G_Lines_line (hr.mono (by decide)) b_Lines_line .nil pass0) (pv 2) (nomark _)) (pw_or1 (pt_not (pt_truK K (pv 3)))))) (pss_cons (ps_set (i := 4) sc_points_in.nd rfl (by first | exact Or.inl rfl | exact Or.inr rfl) (pe_ifExp (pt_cmpR op_isN (pv 1) pe_non (nomark _)) (pe_meth (pv 0) T.cl_Lines T.me_Lines_row G_Lines_row (hr.mono (by decide)) b_Lines_row .nil pass0 (pa_cons pe_int (pa_cons (pe_glob (v := .int 8) rfl T.m_MOST_MEMBERS ⟨_, rfl⟩) pa_nil))) (pe_meth (pv 0) T.cl_Lines T.me_Lines_row G_Lines_row (hr.mono (by decide)) b_Lines_row .nil pass0 (pa_cons (pv 1) (pa_cons (pv 1) pa_nil))))) (pss_cons (ps_if (PW.pt (pw_or (pt_cmpR op_isN (pv 4) pe_non (nomark _)) (pw_or (pt_cmpR op_eq (pe_callB (call_lenK K) (by rfl) T.n_len (by decide +kernel) (pa_cons (pv 3) pa_nil)) (pe_glob (v := .int 400) rfl T.m_MOST_POINTS ⟨_, rfl⟩) (nomark _)) (pw_or1 (PW.pt (pw_and (pt_truK K (pv 3)) (pw_and1 (pt_cmpR (op_leT (Nat.lt_of_le_of_lt (Nat.le_add_right _ _) hr.units)) (pv 4) (pe_ix (ix_seqK K) (pv 3) (pe_un un_neg pe_int) (fun _ _ => rfl)) (nomark _))))))))) (pss_one ps_never) pss_nil) (pss_cons (ps_set (i := 1) sc_points_in.nd rfl (by first | exact Or.inl rfl | exact Or.inr rfl) (pe_callB (call_lenK K) (by rfl) T.n_len (by decide +kernel) (pa_cons (pv 4) pa_nil))) (pss_cons (ps_expr (pe_bm PySem.F.plainAttrs_list PySem.F.slot_list_append PySem.F.type_list_append mt_append (pv 3) (pa_cons (pv 4) pa_nil))) (pss_one (ps_expr (pe_meth0 (pv 0) T.cl_Lines T.me_Lines_go_on G_Lines_go_on (hr.mono (by decide)) b_Lines_go_on .nil pass0)))))))) (pss_cons (ps_expr (pe_meth0 (pv 0) T.cl_Lines T.me_Lines_go_on G_Lines_go_on (hr.mono (by decide)) b_Lines_go_on .nil pass0)) (pss_one (ps_ret (pe_callTy (call_tupK K rfl) (by rfl) T.n_tuple (by decide +kernel) (pa_cons (pv 3) pa_nil))))))), sp_body h fun ss S r S' hg => ?_⟩)
  · obtain ⟨k, ws, a, len, n, rows, w, rfl, _⟩ := hg; rfl
  · obtain ⟨k, ws, a, len, n, rows, w, rfl, hk, hlen, hl, hw, hend, hst, hlt, rfl, rfl⟩ := hg
    have hkl : k < S.length := (List.getElem?_eq_some_iff.mp hk).1
    have l64 := hl.l64
    have l1 := hl.l1
    have n8 := hl.n8
    have n1 := hl.n1
    refine sp_setC (en_lst (ds := []) ea_nil (szl (by decide))) ?_
    refine sp_seq (P' := { nx := fun env' S2 => S2 = S.set k (lnD T.CL ws (a + rows.length)) ++ [layL rows] ∧ ∃ l o, env' = [some (.c k), l, some (.d (.str w)), some (.c S.length), o] })
      (sp_while (m0 := rows.length) (fun m env' S2 => ∃ i o len', m + i = rows.length ∧ S2 = S.set k (lnD T.CL ws (a + i)) ++ [layL (rows.take i)] ∧ env' = [some (.c k), some (.d len'), some (.d (.str w)), some (.c S.length), o] ∧ (len' = .non ∨ len' = .int n)) ⟨0, none, len, by omega, ?_, rfl, hlen⟩ ?_) ?_
    · rw [Nat.add_zero, same_set hk]; rfl
    · rintro m env' S2 ⟨i, o, len', hm, rfl, rfl, hln⟩
      have gk' := gk (S := S) (k := k) (x := lnD T.CL ws (a + i)) (y := layL (rows.take i)) hkl
      have gn' := gn (S := S) (k := k) (x := lnD T.CL ws (a + i)) (y := layL (rows.take i))
      by_cases hi : i < rows.length
      · obtain ⟨r, hr⟩ : ∃ r, rows[i]? = some r := ⟨_, List.getElem?_eq_getElem hi⟩
        have hwr := hw i r hr
        have hrw := hl.rw r (List.mem_of_getElem? hr)
        refine ⟨true, _, (et_orP (a := true) (b := true) (et_test ((ev_op (ev_meth (ev_var rfl) gk' rfl ea_nil ⟨k, ws, a + i, _, rfl, gk', hwr, by omega, rfl, rfl⟩) (ev_var rfl) o_neS).to (by rw [decide_eq_false (line_ne hst)]; rfl))) fun h => by cases h), fun _ => ?_, fun h => by cases h⟩
        refine sp_set (S1 := S.set k (lnD T.CL ws (a + i)) ++ [layL (rows.take i)]) (x := .d (rowD r)) ?_ ?_
        · rcases hln with rfl | rfl
          · exact ev_if (b := true) (et_test (ev_op (ev_var rfl) ev_non o_isNN)) (fun _ => ev_meth (ev_var rfl) gk' rfl (ea_cons ev_int (ea_cons ev_int ea_nil)) ⟨k, ws, a + i, r, _, _, rfl, gk', hwr, by omega, hrw.2, by rw [hrw.1]; omega, by rw [hrw.1]; omega, by rw [hrw.1]; omega, by rw [hrw.1]; omega, rfl, rfl⟩) fun h => by cases h
          · exact ev_if (b := false) (et_test (ev_op (ev_var rfl) ev_non o_isNI)) (fun h => by cases h) fun _ => ev_meth (ev_var rfl) gk' rfl (ea_cons (ev_var rfl) (ea_cons (ev_var rfl) ea_nil)) ⟨k, ws, a + i, r, _, _, rfl, gk', hwr, by omega, hrw.2, by rw [hrw.1]; omega, by rw [hrw.1]; omega, by rw [hrw.1]; omega, by rw [hrw.1]; omega, rfl, rfl⟩
        · have hseq : Seq (S.set k (lnD T.CL ws (a + i)) ++ [layL (rows.take i)]) (.c S.length) ((rows.take i).map rowD) := .cell gn'
          refine sp_ifq (b := false) (et_orP (a := false) (b := false) (et_test (ev_op (ev_var rfl) ev_non o_isNT)) fun _ => et_orP (a := false) (b := false) (et_test ((ev_op (ev_cb (ea_cons (ev_var rfl) ea_nil) (cd_len hseq)) ev_int op2_eq_int).to ?_)) fun _ => (et_andP (b := false) (et_seq (ev_var rfl) hseq) fun hne => ?_).to (by simp)) (fun h => by cases h) fun _ => sp_nextq ?_
          · congr 2
            rw [List.length_map, List.length_take]
            exact decide_eq_false (by omega)
          · have hi0 : i ≠ 0 := by rintro rfl; simp at hne
            obtain ⟨j, rfl⟩ : ∃ j, i = j + 1 := ⟨i - 1, by omega⟩
            obtain ⟨p, hp⟩ : ∃ p, rows[j]? = some p := ⟨_, List.getElem?_eq_getElem (by omega)⟩
            have hpw := hl.rw p (List.mem_of_getElem? hp)
            have hlx : RwS.lx p r = true := by
              have hpp := List.pairwise_iff_getElem.mp hl.asc
              obtain ⟨q1, e1⟩ := List.getElem?_eq_some_iff.mp hp
              obtain ⟨q2, e2⟩ := List.getElem?_eq_some_iff.mp hr
              have := hpp j (j + 1) q1 q2 (by omega)
              rw [e1, e2] at this
              exact this
            exact et_test ((ev_op (ev_var rfl) (ev_op (d := rowD p) (ev_var rfl) (ev_un ev_int o_neg) (op2_ix hseq (last_take hp))) (o_leR (by rw [hrw.1, hpw.1]))).to (by rw [hlx]; rfl))
          · refine sp_set (ev_cb (ea_cons (ev_var rfl) ea_nil) (cd_rowL hrw.1)) ?_
            refine sp_drop (S1 := S.set k (lnD T.CL ws (a + i)) ++ [layL (rows.take (i + 1))]) ((ev_append (ev_var rfl) (ev_var rfl) ⟨_, gn'⟩ gn' (Nat.lt_of_lt_of_le (m := 100) (by rw [List.length_map, List.length_take]; omega) (szl (by decide)))).toS ?_) ?_
            · rw [sn]; unfold layL; rw [map_take rowD hr]
            · have gk2 := gk (S := S) (k := k) (x := lnD T.CL ws (a + i)) (y := layL (rows.take (i + 1))) hkl
              refine sp_drop1 (ev_meth (ev_var rfl) gk2 rfl ea_nil ⟨k, ws, a + i, rfl, gk2, rfl, rfl⟩) ⟨m - 1, by omega, i + 1, _, .int n, by omega, ?_, rfl, .inr rfl⟩
              rw [sk hkl]; rfl
      · have hie : i = rows.length := by omega
        subst hie
        rw [List.take_length] at gn' ⊢
        have gk2 := gk (S := S) (k := k) (x := lnD T.CL ws (a + rows.length)) (y := layL rows) hkl
        have hseq : Seq (S.set k (lnD T.CL ws (a + rows.length)) ++ [layL rows]) (.c S.length) (rows.map rowD) := .cell gn'
        refine ⟨false, _, (et_orP (a := false) (b := false) (et_test ((ev_op (ev_meth (ev_var rfl) gk2 rfl ea_nil ⟨k, ws, a + rows.length, _, rfl, gk2, hend, by omega, rfl, rfl⟩) (ev_var rfl) o_neS).to (by rw [decide_eq_true rfl]; rfl))) fun _ => (et_not (et_seq (ev_var rfl) hseq)).to ?_), fun h => (by cases h), fun _ => ⟨rfl, _, _, rfl⟩⟩
        cases rows with
        | nil => simp at l1
        | cons r0 rest => rfl
    · rintro env' S2 ⟨rfl, l, o, rfl⟩
      have gk2 := gk (S := S) (k := k) (x := lnD T.CL ws (a + rows.length)) (y := layL rows) hkl
      refine sp_drop (ev_meth (ev_var rfl) gk2 rfl ea_nil ⟨k, ws, a + rows.length, rfl, gk2, rfl, rfl⟩) ?_
      rw [sk hkl]
      refine sp_ret (ev_cb (ea_cons (ev_var rfl) ea_nil) (cd_tup (.cell gn))) ⟨rfl, ?_⟩
      rw [List.take_append_of_le_length (by simp), List.take_of_length_le (by simp)]
end
end N85

set_option Elab.async false
set_option linter.all false
set_option maxRecDepth 100000
set_option maxHeartbeats 4000000
namespace N85
open PySem PySem.Spec PyProof.Rows L2 RW

def gNeedU (C : Addr) (ss : List Sl) (S : List Dat) (r : Dat) (S' : List Dat) : Prop := ∃ (k : Nat) (ws : List Str) (a n : Nat) (u : List Int), ss = [.c k, .d (.int n)] ∧ S[k]? = some (lnD C ws a) ∧ ws[a]? = some (lineS u) ∧ a + 1 < ws.length ∧ Rw u n ∧ 1 ≤ n ∧ n ≤ 30 ∧ r = rowD u ∧ S' = S.set k (lnD C ws (a + 1))
def gInp (C : Addr) (ss : List Sl) (S : List Dat) (r : Dat) (S' : List Dat) : Prop := ∃ (k : Nat) (ws : List Str) (a n : Nat), ss = [.c k] ∧ S[k]? = some (lnD C ws a) ∧ ws[a]? = some (Str.ofString "network " ++ numS n) ∧ a + 1 < ws.length ∧ 1 ≤ n ∧ n ≤ 8 ∧ r = .int n ∧ S' = S.set k (lnD C ws (a + 1))
def gLayI (C : Addr) (ss : List Sl) (S : List Dat) (r : Dat) (S' : List Dat) : Prop := ∃ (k : Nat) (ws : List Str) (a n : Nat) (most : Int) (l : List (List Int)) (w : Str), ss = [.c k, .d (.int n), .d (.int most)] ∧ S[k]? = some (lnD C ws a) ∧ 1 ≤ l.length ∧ (l.length : Int) ≤ most ∧ l.length ≤ 100 ∧
  (∀ u ∈ l, Rw u n) ∧ 1 ≤ n ∧ n ≤ 30 ∧ (∀ i r, l[i]? = some r → ws[a + i]? = some (lineS r)) ∧ ws[a + l.length]? = some w ∧ Txt.startswith w (Str.ofString "  ") = false ∧ a + l.length + 1 < ws.length ∧ r = layD l ∧ S' = S.set k (lnD C ws (a + l.length))
theorem cut_head (n : Nat) : L2.cutS (Str.ofString "network " ++ numS n) (some 8) none = numS n := by
  refine TL.ext_tl ?_
  have e8 : (TL.tl (Str.ofString "network ")).length = 8 := by rw [TL.tl_ofString]; rfl
  have hl : 8 ≤ (Str.ofString "network " ++ numS n).length := by
    rw [TL.len_tl, TL.tl_append, List.length_append, e8]; omega
  have := cut_from (k := 8) hl
  rw [show ((8 : Nat) : Int) = 8 from rfl] at this
  rw [this, TL.tl_append, List.drop_left' e8]
theorem a1 {S : List Dat} {x : Dat} : (S ++ [x])[S.length]? = some x := by simp
theorem a2 {S : List Dat} {x y : Dat} : (S ++ [x]).set S.length y = S ++ [y] := by simp
theorem a3 {S : List Dat} {x : Dat} : (S ++ [x]).take S.length = S := by simp
theorem lot_at {rows : List (List Int)} {i : Nat} {r : List Int} (h : rows[i]? = some r) : (lotLs rows ++ [Str.empty])[1 + i]? = some (lineS r) := by
  have hi := (List.getElem?_eq_some_iff.mp h).1
  unfold lotLs
  rw [List.append_assoc, List.append_assoc, Nat.add_comm]
  show (rows.map lineS ++ _)[i]? = _
  rw [List.getElem?_append_left (by simpa using hi), List.getElem?_map, h]
  rfl
theorem lot_end {rows : List (List Int)} : (lotLs rows ++ [Str.empty])[1 + rows.length]? = some (Str.ofString "end") := by
  unfold lotLs
  rw [List.append_assoc, List.append_assoc, Nat.add_comm]
  show (rows.map lineS ++ _)[rows.length]? = _
  rw [List.getElem?_append_right (by simp)]
  simp
theorem lot_len {rows : List (List Int)} : (lotLs rows).length = rows.length + 2 := by
  unfold lotLs; simp
theorem r_at1 {rows more : List (List Int)} {i : Nat} {r : List Int} (h : rows[i]? = some r) : (readLs rows more ++ [Str.empty])[2 + i]? = some (lineS r) := by
  have hi := (List.getElem?_eq_some_iff.mp h).1
  unfold readLs
  rw [List.append_assoc, List.append_assoc, List.append_assoc, List.append_assoc, Nat.add_comm]
  show (rows.map lineS ++ _)[i]? = _
  rw [List.getElem?_append_left (by simpa using hi), List.getElem?_map, h]
  rfl
theorem r_below {rows more : List (List Int)} : (readLs rows more ++ [Str.empty])[2 + rows.length]? = some (Str.ofString "below") := by
  unfold readLs
  rw [List.append_assoc, List.append_assoc, List.append_assoc, List.append_assoc, Nat.add_comm]
  show (rows.map lineS ++ _)[rows.length]? = _
  rw [List.getElem?_append_right (by simp)]
  simp
theorem r_at2 {rows more : List (List Int)} {i : Nat} {r : List Int} (h : more[i]? = some r) : (readLs rows more ++ [Str.empty])[2 + rows.length + 1 + i]? = some (lineS r) := by
  have hi := (List.getElem?_eq_some_iff.mp h).1
  unfold readLs
  rw [List.append_assoc, List.append_assoc, List.append_assoc, List.append_assoc, show 2 + rows.length + 1 + i = (rows.length + (1 + i)) + 2 by omega]
  show (rows.map lineS ++ _)[rows.length + (1 + i)]? = _
  rw [List.getElem?_append_right (by simp), List.length_map, Nat.add_sub_cancel_left, Nat.add_comm 1 i]
  show (more.map lineS ++ _)[i]? = _
  rw [List.getElem?_append_left (by simpa using hi), List.getElem?_map, h]
  rfl
theorem r_end {rows more : List (List Int)} : (readLs rows more ++ [Str.empty])[2 + rows.length + 1 + more.length]? = some (Str.ofString "end") := by
  unfold readLs
  rw [List.append_assoc, List.append_assoc, List.append_assoc, List.append_assoc, show 2 + rows.length + 1 + more.length = (rows.length + (1 + more.length)) + 2 by omega]
  show (rows.map lineS ++ _)[rows.length + (1 + more.length)]? = _
  rw [List.getElem?_append_right (by simp), List.length_map, Nat.add_sub_cancel_left, Nat.add_comm 1 more.length]
  show (more.map lineS ++ _)[more.length]? = _
  rw [List.getElem?_append_right (by simp)]
  simp
theorem read_len {rows more : List (List Int)} : (readLs rows more).length = rows.length + more.length + 4 := by
  unfold readLs; simp; omega
theorem ns_end : Txt.startswith (Str.ofString "end") (Str.ofString "  ") = false := by rw [starts_eq, TL.len_tl, TL.len_tl, TL.tl_ofString, TL.tl_ofString]; rfl
theorem ns_below : Txt.startswith (Str.ofString "below") (Str.ofString "  ") = false := by rw [starts_eq, TL.len_tl, TL.len_tl, TL.tl_ofString, TL.tl_ofString]; rfl
section
variable {P : Program} {w : World} {K : PySem.W.Frag} {mg : Str → Option Value} {base : Heap}

theorem ok_read_lot (T : Txt K mg) : FnOk P w K mg base CX0 5 T.a_read_lot T.d_read_lot ["text"] (SpD K (gReadL)) := by
  have G_need_text := ok_need_text (P := P) (w := w) (base := base) T
  have b_need_text := T.b_need_text
  have G_Linesu_initu := ok_Linesu_initu (P := P) (w := w) (base := base) T
  have b_Linesu_initu := T.b_Linesu_initu
  have G_Lines_word := ok_Lines_word (P := P) (w := w) (base := base) T
  have b_Lines_word := T.b_Lines_word
  have G_points_in := ok_points_in (P := P) (w := w) (base := base) T
  have b_points_in := T.b_points_in
  have G_Lines_close := ok_Lines_close (P := P) (w := w) (base := base) T
  have b_Lines_close := T.b_Lines_close
  have M_Lines := T.M_Lines
  refine T.F_read_lot.ok sc_read_lot (spd_len (k := 1) fun ss S r S' hg => ?_) (fun cdv A outer s H vs Q E hr h => ⟨_, (pss_cons (ps_expr (pe_call G_need_text (hr.mono (by decide)) rfl T.m_need_text T.k_need_text b_need_text .nil pass0 (pa_cons (pv 0) pa_nil))) (pss_cons (ps_set (i := 1) sc_read_lot.nd rfl (by first | exact Or.inl rfl | exact Or.inr rfl) (pe_make M_Lines G_Linesu_initu (hr.mono (by decide)) rfl T.m_Lines b_Linesu_initu .nil pass0 (pa_cons (pv 0) pa_nil))) (pss_cons (ps_expr (pe_meth (pv 1) T.cl_Lines T.me_Lines_word G_Lines_word (hr.mono (by decide)) b_Lines_word .nil pass0 (pa_cons pe_str pa_nil))) (pss_cons (ps_set (i := 2) sc_read_lot.nd rfl (by first | exact Or.inl rfl | exact Or.inr rfl) (pe_call G_points_in (hr.mono (by decide)) rfl T.m_points_in T.k_points_in b_points_in .nil pass0 (pa_cons (pv 1) (pa_cons pe_non (pa_cons pe_str pa_nil))))) (pss_cons (ps_expr (pe_meth0 (pv 1) T.cl_Lines T.me_Lines_close G_Lines_close (hr.mono (by decide)) b_Lines_close .nil pass0)) (pss_one (ps_ret (pv 2)))))))), sp_body h fun ss S r S' hg => ?_⟩)
  · obtain ⟨n, rows, rfl, _⟩ := hg; rfl
  · obtain ⟨n, rows, rfl, hk, rfl, rfl⟩ := hg
    have hlen := lot_len (rows := rows)
    refine sp_drop (ev_call (ea_cons (ev_var rfl) ea_nil) ⟨lotLs rows, rfl, hk.tok, rfl, rfl⟩) ?_
    refine sp_setMk (S2 := S') (fs := [("lines", strsD (lotLs rows ++ [Str.empty])), ("at", .int (0 : Nat))]) (ea_cons (ev_var rfl) ea_nil) ⟨S'.length, lotLs rows, rfl, a1, hk.tok, rfl, a2.symm⟩ rfl ?_
    refine sp_drop (S1 := S' ++ [lnD T.CL (lotLs rows ++ [Str.empty]) 1]) ((ev_meth (ev_var rfl) a1 rfl (ea_cons ev_str ea_nil) ⟨S'.length, lotLs rows ++ [Str.empty], 0, Str.ofString "lot", rfl, a1, rfl, by rw [List.length_append]; simp; omega, rfl, rfl⟩).toS a2) ?_
    refine sp_set (x := .d (layD rows)) (S1 := S' ++ [lnD T.CL (lotLs rows ++ [Str.empty]) (lotLs rows).length]) ((ev_call (ea_cons (ev_var rfl) (ea_cons ev_non (ea_cons ev_str ea_nil))) ⟨S'.length, lotLs rows ++ [Str.empty], 1, .non, n, rows, Str.ofString "end", rfl, a1, .inl rfl, hk, fun i r h => lot_at h, lot_end, ns_end, by rw [List.length_append, hlen]; simp; omega, rfl, rfl⟩).toS ?_) ?_
    · rw [a2, hlen, show 1 + rows.length + 1 = rows.length + 2 by omega]
    · refine sp_drop (ev_meth (ev_var rfl) a1 rfl ea_nil ⟨S'.length, lotLs rows, rfl, a1, rfl, rfl⟩) ?_
      exact sp_ret (ev_var rfl) ⟨rfl, a3⟩
theorem ok_read_reading (T : Txt K mg) : FnOk P w K mg base CX0 5 T.a_read_reading T.d_read_reading ["text"] (SpD K (gReadR)) := by
  have G_need_text := ok_need_text (P := P) (w := w) (base := base) T
  have b_need_text := T.b_need_text
  have G_Linesu_initu := ok_Linesu_initu (P := P) (w := w) (base := base) T
  have b_Linesu_initu := T.b_Linesu_initu
  have G_Lines_word := ok_Lines_word (P := P) (w := w) (base := base) T
  have b_Lines_word := T.b_Lines_word
  have G_points_in := ok_points_in (P := P) (w := w) (base := base) T
  have b_points_in := T.b_points_in
  have G_Lines_close := ok_Lines_close (P := P) (w := w) (base := base) T
  have b_Lines_close := T.b_Lines_close
  have M_Lines := T.M_Lines
  refine T.F_read_reading.ok sc_read_reading (spd_len (k := 1) fun ss S r S' hg => ?_) (fun cdv A outer s H vs Q E hr h => ⟨_, (pss_cons (ps_expr (pe_call G_need_text (hr.mono (by decide)) rfl T.m_need_text T.k_need_text b_need_text .nil pass0 (pa_cons (pv 0) pa_nil))) (pss_cons (ps_set (i := 1) sc_read_reading.nd rfl (by first | exact Or.inl rfl | exact Or.inr rfl) (pe_make M_Lines G_Linesu_initu (hr.mono (by decide)) rfl T.m_Lines b_Linesu_initu .nil pass0 (pa_cons (pv 0) pa_nil))) (pss_cons (ps_expr (pe_meth (pv 1) T.cl_Lines T.me_Lines_word G_Lines_word (hr.mono (by decide)) b_Lines_word .nil pass0 (pa_cons pe_str pa_nil))) (pss_cons (ps_expr (pe_meth (pv 1) T.cl_Lines T.me_Lines_word G_Lines_word (hr.mono (by decide)) b_Lines_word .nil pass0 (pa_cons pe_str pa_nil))) (pss_cons (ps_set (i := 2) sc_read_reading.nd rfl (by first | exact Or.inl rfl | exact Or.inr rfl) (pe_call G_points_in (hr.mono (by decide)) rfl T.m_points_in T.k_points_in b_points_in .nil pass0 (pa_cons (pv 1) (pa_cons pe_non (pa_cons pe_str pa_nil))))) (pss_cons (ps_set (i := 3) sc_read_reading.nd rfl (by first | exact Or.inl rfl | exact Or.inr rfl) (pe_call G_points_in (hr.mono (by decide)) rfl T.m_points_in T.k_points_in b_points_in .nil pass0 (pa_cons (pv 1) (pa_cons (pe_callB (call_lenK K) (by rfl) T.n_len (by decide +kernel) (pa_cons (pe_ix (ix_seqK K) (pv 2) pe_int (fun _ _ => rfl)) pa_nil)) (pa_cons pe_str pa_nil))))) (pss_cons (ps_expr (pe_meth0 (pv 1) T.cl_Lines T.me_Lines_close G_Lines_close (hr.mono (by decide)) b_Lines_close .nil pass0)) (pss_one (ps_ret (pe_tup (pa_cons (pv 2) (pa_cons (pv 3) pa_nil)))))))))))), sp_body h fun ss S r S' hg => ?_⟩)
  · obtain ⟨n, rows, more, rfl, _⟩ := hg; rfl
  · obtain ⟨n, rows, more, rfl, hk, hk2, rfl, rfl⟩ := hg
    have hlen := read_len (rows := rows) (more := more)
    have ht := read_tok hk hk2
    obtain ⟨r0, rest, hr0⟩ : ∃ r0 rest, rows = r0 :: rest := by
      cases rows with
      | nil => have := hk.l1; simp at this
      | cons r0 rest => exact ⟨r0, rest, rfl⟩
    have w0 := hk.rw r0 (by rw [hr0]; exact List.mem_cons_self)
    have at0 : atI (rows.map rowD) 0 = some (rowD r0) := by rw [hr0]; simp [atI, ixN]
    have hL : (readLs rows more ++ [Str.empty]).length = rows.length + more.length + 5 := by rw [List.length_append, hlen]; rfl
    refine sp_drop (ev_call (ea_cons (ev_var rfl) ea_nil) ⟨readLs rows more, rfl, ht, rfl, rfl⟩) ?_
    refine sp_setMk (S2 := S') (fs := [("lines", strsD (readLs rows more ++ [Str.empty])), ("at", .int (0 : Nat))]) (ea_cons (ev_var rfl) ea_nil) ⟨S'.length, readLs rows more, rfl, a1, ht, rfl, a2.symm⟩ rfl ?_
    refine sp_drop (S1 := S' ++ [lnD T.CL (readLs rows more ++ [Str.empty]) 1]) ((ev_meth (ev_var rfl) a1 rfl (ea_cons ev_str ea_nil) ⟨S'.length, readLs rows more ++ [Str.empty], 0, Str.ofString "reading", rfl, a1, rfl, by rw [hL]; omega, rfl, rfl⟩).toS a2) ?_
    refine sp_drop (S1 := S' ++ [lnD T.CL (readLs rows more ++ [Str.empty]) 2]) ((ev_meth (ev_var rfl) a1 rfl (ea_cons ev_str ea_nil) ⟨S'.length, readLs rows more ++ [Str.empty], 1, Str.ofString "above", rfl, a1, rfl, by rw [hL]; omega, rfl, rfl⟩).toS a2) ?_
    refine sp_set (x := .d (layD rows)) (S1 := S' ++ [lnD T.CL (readLs rows more ++ [Str.empty]) (2 + rows.length + 1)]) ((ev_call (ea_cons (ev_var rfl) (ea_cons ev_non (ea_cons ev_str ea_nil))) ⟨S'.length, readLs rows more ++ [Str.empty], 2, .non, n, rows, Str.ofString "below", rfl, a1, .inl rfl, hk, fun i r h => r_at1 h, r_below, ns_below, by rw [hL]; omega, rfl, rfl⟩).toS a2) ?_
    refine sp_set (x := .d (layD more)) (S1 := S' ++ [lnD T.CL (readLs rows more ++ [Str.empty]) (readLs rows more).length]) ((ev_call (ea_cons (ev_var rfl) (ea_cons (ev_cb (ea_cons (ev_op (ev_var rfl) ev_int (op2_ix .tup at0)) ea_nil) (cd_rowL w0.1)) (ea_cons ev_str ea_nil))) ⟨S'.length, readLs rows more ++ [Str.empty], 2 + rows.length + 1, .int n, n, more, Str.ofString "end", rfl, a1, .inr rfl, hk2, fun i r h => r_at2 h, r_end, ns_end, by rw [hL]; omega, rfl, rfl⟩).toS ?_) ?_
    · rw [a2, hlen, show 2 + rows.length + 1 + more.length + 1 = rows.length + more.length + 4 by omega]
    · refine sp_drop (ev_meth (ev_var rfl) a1 rfl ea_nil ⟨S'.length, readLs rows more, rfl, a1, rfl, rfl⟩) ?_
      exact sp_ret (ev_tup (ds := [layD rows, layD more]) (ea_cons (ev_var rfl) (ea_cons (ev_var rfl) ea_nil)) (szl (by simp))) ⟨rfl, a3⟩
theorem ok_need_unit (T : Txt K mg) : FnOk P w K mg base CX0 4 T.a_need_unit T.d_need_unit ["lines", "width"] (SpD K (gNeedU T.CL)) := by
  have G_Lines_row := ok_Lines_row (P := P) (w := w) (base := base) T
  have b_Lines_row := T.b_Lines_row
  have G_Lines_go_on := ok_Lines_go_on (P := P) (w := w) (base := base) T
  have b_Lines_go_on := T.b_Lines_go_on
  refine T.F_need_unit.ok sc_need_unit (spd_len (k := 2) fun ss S r S' hg => ?_) (fun cdv A outer s H vs Q E hr h => ⟨_, (pss_cons (ps_set (i := 2) sc_need_unit.nd rfl (by first | exact Or.inl rfl | exact Or.inr rfl) (pe_meth (pv 0) T.cl_Lines T.me_Lines_row G_Lines_row (hr.mono (by decide)) b_Lines_row .nil pass0 (pa_cons (pv 1) (pa_cons (pv 1) pa_nil)))) (pss_cons (ps_if (pt_cmpR op_isN (pv 2) pe_non (nomark _)) (pss_one ps_never) pss_nil) (pss_cons (ps_expr (pe_meth0 (pv 0) T.cl_Lines T.me_Lines_go_on G_Lines_go_on (hr.mono (by decide)) b_Lines_go_on .nil pass0)) (pss_one (ps_ret (pv 2)))))), sp_body h fun ss S r S' hg => ?_⟩)
  · obtain ⟨k, ws, a, n, u, rfl, _⟩ := hg; rfl
  · obtain ⟨k, ws, a, n, u, rfl, hk, hw, ha, hu, h1, h2, rfl, rfl⟩ := hg
    refine sp_set (x := .d (rowD u)) (ev_meth (ev_var rfl) hk rfl (ea_cons (ev_var rfl) (ea_cons (ev_var rfl) ea_nil)) ⟨k, ws, a, u, _, _, rfl, hk, hw, ha, hu.2, by rw [hu.1]; omega, by rw [hu.1]; omega, by rw [hu.1]; omega, by rw [hu.1]; omega, rfl, rfl⟩) ?_
    refine sp_ifq (b := false) (et_test (ev_op (ev_var rfl) ev_non o_isNT)) (fun h => by cases h) fun _ => sp_nextq ?_
    refine sp_drop (ev_meth (ev_var rfl) hk rfl ea_nil ⟨k, ws, a, rfl, hk, rfl, rfl⟩) ?_
    exact sp_ret (ev_var rfl) ⟨rfl, List.take_of_length_le (by simp)⟩
theorem ok_inputs_in (T : Txt K mg) : FnOk P w K mg base CX0 2 T.a_inputs_in T.d_inputs_in ["lines"] (SpD K (gInp T.CL)) := by
  have G_Lines_line := ok_Lines_line (P := P) (w := w) (base := base) T
  have b_Lines_line := T.b_Lines_line
  have G_whole_in := ok_whole_in (P := P) (w := w) (base := base) T
  have b_whole_in := T.b_whole_in
  have G_Lines_go_on := ok_Lines_go_on (P := P) (w := w) (base := base) T
  have b_Lines_go_on := T.b_Lines_go_on
  refine T.F_inputs_in.ok sc_inputs_in (spd_len (k := 1) fun ss S r S' hg => ?_) (fun cdv A outer s H vs Q E hr h => ⟨_, (pss_cons (ps_set (i := 1) sc_inputs_in.nd rfl (by first | exact Or.inl rfl | exact Or.inr rfl) (pe_meth0 (pv 0) T.cl_Lines T.me_Lines_line G_Lines_line (hr.mono (by decide)) b_Lines_line .nil pass0)) (pss_cons (ps_set (i := 2) sc_inputs_in.nd rfl (by first | exact Or.inl rfl | exact Or.inr rfl) (pe_ifExp (pt_truK K (pe_bm PySem.F.plainAttrs_str PySem.F.slot_str_startswith PySem.F.type_str_startswith mt_startswith (pv 1) (pa_cons (pe_glob (v := .str (Str.ofString "network ")) rfl T.m_HEAD ⟨_, rfl⟩) pa_nil))) (pe_call G_whole_in (hr.mono (by decide)) rfl T.m_whole_in T.k_whole_in b_whole_in .nil pass0 (pa_cons (pe_slice sl_str (pv 1) (po_some (pe_callB RwS.call_lenS (by rfl) T.n_len (by decide +kernel) (pa_cons (pe_glob (v := .str (Str.ofString "network ")) rfl T.m_HEAD ⟨_, rfl⟩) pa_nil))) po_none) pa_nil)) pe_non)) (pss_cons (ps_if (PW.pt (pw_or (pt_cmpR op_isN (pv 2) pe_non (nomark _)) (pw_or1 (pt_not (pt_chain op_le op_le pe_int (pv 2) (pe_glob (v := .int 8) rfl T.m_MOST_INPUTS ⟨_, rfl⟩)))))) (pss_one ps_never) pss_nil) (pss_cons (ps_expr (pe_meth0 (pv 0) T.cl_Lines T.me_Lines_go_on G_Lines_go_on (hr.mono (by decide)) b_Lines_go_on .nil pass0)) (pss_one (ps_ret (pv 2))))))), sp_body h fun ss S r S' hg => ?_⟩)
  · obtain ⟨k, ws, a, n, rfl, _⟩ := hg; rfl
  · obtain ⟨k, ws, a, n, rfl, hk, hw, ha, h1, h8, rfl, rfl⟩ := hg
    have hn : Sh (n : Int) := by unfold Sh; omega
    have hl := numS_len hn
    have hll : (Str.ofString "network " ++ numS n).length ≤ 100 := by
      have e : (Str.ofString "network " ++ numS n).length = (Str.ofString "network ").length + (numS n).length := by
        rw [TL.len_tl, TL.tl_append, List.length_append, ← TL.len_tl, ← TL.len_tl]
      rw [e, lnS (k := 8) rfl]; omega
    refine sp_set (ev_meth (ev_var rfl) hk rfl ea_nil ⟨k, ws, a, _, rfl, hk, hw, ha, rfl, rfl⟩) ?_
    refine sp_set (x := .d (.int n)) (S1 := S) (ev_if (b := true) (et_bl ((ev_startsS (ev_var rfl) (ea_cons ev_str ea_nil)).to (by rw [starts_app _ (TL.tl_append _ _)]))) (fun _ => ev_call (ea_cons ((ev_slS (lo := some 8) (ev_var rfl) (eo_some ((ev_cb (ea_cons ev_str ea_nil) (cd_lenT (szl (by rw [lnS (k := 8) rfl]; decide)))).to (by rw [lnS (k := 8) rfl]; rfl))) eo_none (szl (by omega))).to (by rw [cut_head])) ea_nil) ⟨n, rfl, hn, rfl, rfl⟩) fun h => by cases h) ?_
    refine sp_ifq (b := false) (et_orP (a := false) (b := false) (et_test (ev_op (ev_var rfl) ev_non o_isNI)) fun _ => et_not (a := true) (et_test (ev_chain (a := true) (b := true) ev_int (ev_var rfl) (o_leT (by omega)) (fun _ => ev_int) (fun _ => o_leT (by omega))))) (fun h => by cases h) fun _ => sp_nextq ?_
    refine sp_drop (ev_meth (ev_var rfl) hk rfl ea_nil ⟨k, ws, a, rfl, hk, rfl, rfl⟩) ?_
    exact sp_ret (ev_var rfl) ⟨rfl, List.take_of_length_le (by simp)⟩
end
end N85

set_option Elab.async false
set_option linter.all false
set_option maxRecDepth 100000
set_option maxHeartbeats 4000000
namespace N85
open PySem PySem.Spec PyProof.Rows L2 RW

def gReadN (C : Addr) (ss : List Sl) (S : List Dat) (r : Dat) (S' : List Dat) : Prop := ∃ (n : Nat) (L : Lays) (last : List Int), ss = [.d (.str (textS (netLs n L last)))] ∧ NOk n L last ∧ r = netD C n L last ∧ S' = S
abbrev fml (l : List (List Int)) : List Str := [Str.ofString "layer"] ++ l.map lineS
theorem fm_get : ∀ {L : Lays} {i : Nat} {l : List (List Int)} {j : Nat}, L[i]? = some l → j < l.length + 1 → (L.flatMap fml)[i + (L.take i).flatten.length + j]? = (fml l)[j]?
  | [], _, _, _, h, _ => by simp at h
  | l0 :: L, 0, l, j, h, hj => by
    have e : l0 = l := by simpa using h
    subst e
    rw [List.flatMap_cons, List.getElem?_append_left (by simp [fml]; omega)]
    simp
  | l0 :: L, i + 1, l, j, h, hj => by
    have h' : L[i]? = some l := by simpa using h
    have := fm_get h' hj
    rw [List.flatMap_cons, List.getElem?_append_right (by simp [fml]; omega), List.take_succ_cons, List.flatten_cons, List.length_append]
    rw [show i + 1 + (l0.length + (L.take i).flatten.length) + j - (fml l0).length = i + (L.take i).flatten.length + j by simp [fml]; omega]
    exact this
theorem fm_len2 (L : Lays) : (L.flatMap fml).length = L.length + L.flatten.length := fm_len L
abbrev npos (L : Lays) (i : Nat) : Nat := 1 + i + (L.take i).flatten.length
abbrev netW (n : Nat) (L : Lays) (last : List Int) : List Str := netLs n L last ++ [Str.empty]
section
variable {n : Nat} {L : Lays} {last : List Int} {i : Nat} {l : List (List Int)}
theorem net_len : (netLs n L last).length = L.length + L.flatten.length + 4 := by
  unfold netLs
  rw [List.length_append, List.length_append, fm_len]
  simp; omega
theorem net_head : (netW n L last)[0]? = some (Str.ofString "network " ++ numS n) := by
  unfold netW netLs; simp
theorem net_mid {x : Nat} (h : x < L.length + L.flatten.length) : (netW n L last)[1 + x]? = (L.flatMap fml)[x]? := by
  unfold netW netLs
  rw [List.append_assoc, List.append_assoc, Nat.add_comm]
  show (L.flatMap fml ++ _)[x]? = _
  rw [List.getElem?_append_left (by rw [fm_len2]; exact h)]
theorem net_end {x : Nat} : (netW n L last)[1 + L.length + L.flatten.length + x]? = ([Str.ofString "last", lineS last, Str.ofString "end"] ++ [Str.empty])[x]? := by
  unfold netW netLs
  rw [List.append_assoc, List.append_assoc, show 1 + L.length + L.flatten.length + x = (L.length + L.flatten.length + x) + 1 by omega]
  show (L.flatMap fml ++ _)[L.length + L.flatten.length + x]? = _
  rw [List.getElem?_append_right (by rw [fm_len2]; omega), fm_len2, Nat.add_sub_cancel_left]
theorem flat_le (h : L[i]? = some l) : i + (L.take i).flatten.length + l.length + 1 ≤ L.length + L.flatten.length := by
  have h1 := flat_len_take h
  have h2 : (L.take (i + 1)).flatten.length ≤ L.flatten.length := by
    conv => rhs; rw [← List.take_append_drop (i + 1) L, List.flatten_append, List.length_append]
    omega
  have := (List.getElem?_eq_some_iff.mp h).1
  omega
theorem net_layer (h : L[i]? = some l) : (netW n L last)[npos L i]? = some (Str.ofString "layer") := by
  have := flat_le h
  have hp : npos L i = 1 + i + (L.take i).flatten.length := rfl
  rw [show npos L i = 1 + (i + (L.take i).flatten.length + 0) by omega, net_mid (by omega), fm_get h (by omega)]
  rfl
theorem net_unit {j : Nat} {u : List Int} (h : L[i]? = some l) (hu : l[j]? = some u) : (netW n L last)[npos L i + 1 + j]? = some (lineS u) := by
  have := flat_le h
  have hj := (List.getElem?_eq_some_iff.mp hu).1
  have hp : npos L i = 1 + i + (L.take i).flatten.length := rfl
  rw [show npos L i + 1 + j = 1 + (i + (L.take i).flatten.length + (j + 1)) by omega, net_mid (by omega), fm_get h (by omega)]
  show (l.map lineS)[j]? = _
  rw [List.getElem?_map, hu]; rfl
theorem npos_next (h : L[i]? = some l) : npos L i + 1 + l.length = npos L (i + 1) := by
  have := flat_len_take h
  unfold npos; omega
theorem npos_end : npos L L.length = 1 + L.length + L.flatten.length := by
  unfold npos; rw [List.take_length]
theorem ns_layer : Txt.startswith (Str.ofString "layer") (Str.ofString "  ") = false := by rw [starts_eq, TL.len_tl, TL.len_tl, TL.tl_ofString, TL.tl_ofString]; rfl
theorem ns_last : Txt.startswith (Str.ofString "last") (Str.ofString "  ") = false := by rw [starts_eq, TL.len_tl, TL.len_tl, TL.tl_ofString, TL.tl_ofString]; rfl
theorem net_next (h : L[i]? = some l) : ∃ w, (netW n L last)[npos L i + 1 + l.length]? = some w ∧ Txt.startswith w (Str.ofString "  ") = false := by
  rw [npos_next h]
  by_cases hi : i + 1 < L.length
  · exact ⟨_, net_layer (List.getElem?_eq_getElem hi), ns_layer⟩
  · have : i + 1 = L.length := by have := (List.getElem?_eq_some_iff.mp h).1; omega
    rw [this, npos_end]
    exact ⟨_, net_end (x := 0), ns_last⟩
theorem netW_len : (netW n L last).length = L.length + L.flatten.length + 5 := by unfold netW; rw [List.length_append, net_len]; rfl
end
section
variable {S : List Dat} {x x' y y' : Dat}
theorem b1 : (S ++ [x] ++ [y])[S.length]? = some x := by simp
theorem b2 : (S ++ [x] ++ [y])[S.length + 1]? = some y := by simp
theorem b3 : (S ++ [x] ++ [y]).set S.length x' = S ++ [x'] ++ [y] := by simp
theorem b4 : (S ++ [x] ++ [y]).set (S.length + 1) y' = S ++ [x] ++ [y'] := by
  rw [List.set_append_right _ _ (by simp)]
  simp
theorem b5 : (S ++ [x] ++ [y]).take S.length = S := by simp
end
theorem str_ne {a b : String} (h : a.toList.map Char.toNat ≠ b.toList.map Char.toNat) : Str.ofString a ≠ Str.ofString b := fun e => by
  have := congrArg TL.tl e
  rw [TL.tl_ofString, TL.tl_ofString] at this
  exact h this
section
variable {P : Program} {w : World} {K : PySem.W.Frag} {mg : Str → Option Value} {base : Heap}

theorem ok_layer_in (T : Txt K mg) : FnOk P w K mg base CX0 5 T.a_layer_in T.d_layer_in ["lines", "width", "most"] (SpD K (gLayI T.CL)) := by
  have G_Lines_line := ok_Lines_line (P := P) (w := w) (base := base) T
  have b_Lines_line := T.b_Lines_line
  have G_need_unit := ok_need_unit (P := P) (w := w) (base := base) T
  have b_need_unit := T.b_need_unit
  refine T.F_layer_in.ok sc_layer_in (spd_len (k := 3) fun ss S r S' hg => ?_) (fun cdv A outer s H vs Q E hr h => ⟨_, (pss_cons (ps_set (i := 3) sc_layer_in.nd rfl (by first | exact Or.inl rfl | exact Or.inr rfl) (pe_lst pa_nil)) (pss_cons (ps_while PassesOwn.never (PW.pt (pw_or (pt_not (pt_truK K (pv 3))) (pw_or1 (pt_truK K (pe_bm PySem.F.plainAttrs_str PySem.F.slot_str_startswith PySem.F.type_str_startswith mt_startswith (pe_meth0 (pv 0) T.cl_Lines T.me_Lines_line G_Lines_line (hr.mono (by decide)) b_Lines_line .nil pass0) (pa_cons (pe_glob (v := .str (Str.ofString "  ")) rfl T.m_BLANKS ⟨_, rfl⟩) pa_nil)))))) (pss_cons (ps_if (pt_cmpR op_eq (pe_callB (call_lenK K) (by rfl) T.n_len (by decide +kernel) (pa_cons (pv 3) pa_nil)) (pv 2) (nomark _)) (pss_one ps_never) pss_nil) (pss_one (ps_expr (pe_bm PySem.F.plainAttrs_list PySem.F.slot_list_append PySem.F.type_list_append mt_append (pv 3) (pa_cons (pe_call G_need_unit (hr.mono (by decide)) rfl T.m_need_unit T.k_need_unit b_need_unit .nil pass0 (pa_cons (pv 0) (pa_cons (pv 1) pa_nil))) pa_nil)))))) (pss_one (ps_ret (pe_callTy (call_tupK K rfl) (by rfl) T.n_tuple (by decide +kernel) (pa_cons (pv 3) pa_nil)))))), sp_body h fun ss S r S' hg => ?_⟩)
  · obtain ⟨k, ws, a, n, most, l, w, rfl, _⟩ := hg; rfl
  · obtain ⟨k, ws, a, n, most, l, w, rfl, hk, l1, lm, l100, hl, n1, n30, hw, hend, hst, hlt, rfl, rfl⟩ := hg
    have hkl : k < S.length := (List.getElem?_eq_some_iff.mp hk).1
    refine sp_setC (en_lst (ds := []) ea_nil (szl (by decide))) ?_
    refine sp_seq (P' := { nx := fun env' S2 => S2 = S.set k (lnD T.CL ws (a + l.length)) ++ [layL l] ∧ env' = [some (.c k), some (.d (.int n)), some (.d (.int most)), some (.c S.length)] })
      (sp_while (m0 := l.length) (fun m env' S2 => ∃ i, m + i = l.length ∧ S2 = S.set k (lnD T.CL ws (a + i)) ++ [layL (l.take i)] ∧ env' = [some (.c k), some (.d (.int n)), some (.d (.int most)), some (.c S.length)]) ⟨0, by omega, ?_, rfl⟩ ?_) ?_
    · rw [Nat.add_zero, same_set hk]; rfl
    · rintro m env' S2 ⟨i, hm, rfl, rfl⟩
      have gk' := gk (S := S) (k := k) (x := lnD T.CL ws (a + i)) (y := layL (l.take i)) hkl
      have gn' := gn (S := S) (k := k) (x := lnD T.CL ws (a + i)) (y := layL (l.take i))
      have hseq : Seq (S.set k (lnD T.CL ws (a + i)) ++ [layL (l.take i)]) (.c S.length) ((l.take i).map rowD) := .cell gn'
      by_cases hi : i < l.length
      · obtain ⟨r, hr⟩ : ∃ r, l[i]? = some r := ⟨_, List.getElem?_eq_getElem hi⟩
        have hwr := hw i r hr
        have hrw := hl r (List.mem_of_getElem? hr)
        refine ⟨true, _, (et_orP (b := true) (et_not (et_seq (ev_var rfl) hseq)) fun _ => et_bl ((ev_startsS (ev_meth (ev_var rfl) gk' rfl ea_nil ⟨k, ws, a + i, _, rfl, gk', hwr, by omega, rfl, rfl⟩) (ea_cons ev_str ea_nil)).to (by rw [starts_line]))).to (by simp), fun _ => ?_, fun h => by cases h⟩
        refine sp_ifq (b := false) (et_test ((ev_op (ev_cb (ea_cons (ev_var rfl) ea_nil) (cd_len hseq)) (ev_var rfl) op2_eq_int).to ?_)) (fun h => by cases h) fun _ => sp_nextq ?_
        · congr 2
          rw [List.length_map, List.length_take]
          exact decide_eq_false (by omega)
        · refine sp_drop1 ((ev_append (S2 := S.set k (lnD T.CL ws (a + i + 1)) ++ [layL (l.take i)]) (ev_var rfl) ((ev_call (ea_cons (ev_var rfl) (ea_cons (ev_var rfl) ea_nil)) ⟨k, ws, a + i, n, r, rfl, gk', hwr, by omega, hrw, n1, n30, rfl, rfl⟩).toS (sk hkl)) ⟨_, gn'⟩ gn (Nat.lt_of_lt_of_le (m := 200) (by rw [List.length_map, List.length_take]; omega) (szl (by decide)))).toS ?_) ⟨m - 1, by omega, i + 1, by omega, rfl, rfl⟩
          rw [sn, ← map_take rowD hr]; rfl
      · have hie : i = l.length := by omega
        subst hie
        rw [List.take_length] at gk' gn' hseq ⊢
        refine ⟨false, _, (et_orP (a := false) (b := false) ((et_not (et_seq (ev_var rfl) hseq)).to ?_) fun _ => et_bl ((ev_startsS (ev_meth (ev_var rfl) gk' rfl ea_nil ⟨k, ws, a + l.length, w, rfl, gk', hend, by omega, rfl, rfl⟩) (ea_cons ev_str ea_nil)).to (by rw [hst]))), fun h => (by cases h), fun _ => ⟨rfl, rfl⟩⟩
        cases l with
        | nil => simp at l1
        | cons r0 rest => rfl
    · rintro env' S2 ⟨rfl, rfl⟩
      refine sp_ret (ev_cb (ea_cons (ev_var rfl) ea_nil) (cd_tup (.cell gn))) ⟨rfl, ?_⟩
      rw [List.take_append_of_le_length (by simp), List.take_of_length_le (by simp)]
theorem ok_read_network (T : Txt K mg) : FnOk P w K mg base CX0 7 T.a_read_network T.d_read_network ["text"] (SpD K (gReadN T.C)) := by
  have G_need_text := ok_need_text (P := P) (w := w) (base := base) T
  have b_need_text := T.b_need_text
  have G_Linesu_initu := ok_Linesu_initu (P := P) (w := w) (base := base) T
  have b_Linesu_initu := T.b_Linesu_initu
  have G_inputs_in := ok_inputs_in (P := P) (w := w) (base := base) T
  have b_inputs_in := T.b_inputs_in
  have G_Lines_line := ok_Lines_line (P := P) (w := w) (base := base) T
  have b_Lines_line := T.b_Lines_line
  have G_Lines_go_on := ok_Lines_go_on (P := P) (w := w) (base := base) T
  have b_Lines_go_on := T.b_Lines_go_on
  have G_layer_in := ok_layer_in (P := P) (w := w) (base := base) T
  have b_layer_in := T.b_layer_in
  have G_Lines_word := ok_Lines_word (P := P) (w := w) (base := base) T
  have b_Lines_word := T.b_Lines_word
  have G_need_unit := ok_need_unit (P := P) (w := w) (base := base) T
  have b_need_unit := T.b_need_unit
  have G_Lines_close := ok_Lines_close (P := P) (w := w) (base := base) T
  have b_Lines_close := T.b_Lines_close
  have G_Networku_initu := ok_Networku_initu (P := P) (w := w) (base := base) T
  have b_Networku_initu := T.b_Networku_initu
  have M_Lines := T.M_Lines
  have M_Network := T.M_Network
  refine T.F_read_network.ok sc_read_network (spd_len (k := 1) fun ss S r S' hg => ?_) (fun cdv A outer s H vs Q E hr h => ⟨_, (pss_cons (ps_expr (pe_call G_need_text (hr.mono (by decide)) rfl T.m_need_text T.k_need_text b_need_text .nil pass0 (pa_cons (pv 0) pa_nil))) (pss_cons (ps_set (i := 1) sc_read_network.nd rfl (by first | exact Or.inl rfl | exact Or.inr rfl) (pe_make M_Lines G_Linesu_initu (hr.mono (by decide)) rfl T.m_Lines b_Linesu_initu .nil pass0 (pa_cons (pv 0) pa_nil))) (pss_cons (ps_set (i := 2) sc_read_network.nd rfl (by first | exact Or.inl rfl | exact Or.inr rfl) (pe_call G_inputs_in (hr.mono (by decide)) rfl T.m_inputs_in T.k_inputs_in b_inputs_in .nil pass0 (pa_cons (pv 1) pa_nil))) (pss_cons (ps_par (i := 3) (j := 4) rfl sc_read_network.nd rfl rfl (by decide) rfl rfl (pa_cons (pe_lst pa_nil) (pa_cons pe_int pa_nil)) (by rfl)) (pss_cons (ps_while PassesOwn.never (PW.pt (pw_and (pt_cmpR op_eq (pe_meth0 (pv 1) T.cl_Lines T.me_Lines_line G_Lines_line (hr.mono (by decide)) b_Lines_line .nil pass0) pe_str (nomark _)) (pw_and1 (pt_cmpR op_lt (pe_callB (call_lenK K) (by rfl) T.n_len (by decide +kernel) (pa_cons (pv 3) pa_nil)) (pe_glob (v := .int 4) rfl T.m_MOST_LAYERS ⟨_, rfl⟩) (nomark _))))) (pss_cons (ps_expr (pe_meth0 (pv 1) T.cl_Lines T.me_Lines_go_on G_Lines_go_on (hr.mono (by decide)) b_Lines_go_on .nil pass0)) (pss_cons (ps_set (i := 5) sc_read_network.nd rfl (by first | exact Or.inl rfl | exact Or.inr rfl) (pe_call G_layer_in (hr.mono (by decide)) rfl T.m_layer_in T.k_layer_in b_layer_in .nil pass0 (pa_cons (pv 1) (pa_cons (pe_op op_add (pv 2) (pv 4)) (pa_cons (pe_callB (call_min2D rfl) (by rfl) T.n_min (by decide +kernel) (pa_cons (pe_glob (v := .int 64) rfl T.m_MOST_IN_LAYER ⟨_, rfl⟩) (pa_cons (pe_op op_sub (pe_glob (v := .int 128) rfl T.m_MOST_UNITS ⟨_, rfl⟩) (pv 4)) pa_nil))) pa_nil))))) (pss_cons (ps_expr (pe_bm PySem.F.plainAttrs_list PySem.F.slot_list_append PySem.F.type_list_append mt_append (pv 3) (pa_cons (pv 5) pa_nil))) (pss_one (ps_aug (i := 4) sc_read_network.nd rfl (by first | exact Or.inl rfl | exact Or.inr rfl) (pe_callB (call_lenK K) (by rfl) T.n_len (by decide +kernel) (pa_cons (pv 5) pa_nil)) ip_add)))))) (pss_cons (ps_expr (pe_meth (pv 1) T.cl_Lines T.me_Lines_word G_Lines_word (hr.mono (by decide)) b_Lines_word .nil pass0 (pa_cons pe_str pa_nil))) (pss_cons (ps_set (i := 6) sc_read_network.nd rfl (by first | exact Or.inl rfl | exact Or.inr rfl) (pe_call G_need_unit (hr.mono (by decide)) rfl T.m_need_unit T.k_need_unit b_need_unit .nil pass0 (pa_cons (pv 1) (pa_cons (pe_op op_add (pv 2) (pv 4)) pa_nil)))) (pss_cons (ps_expr (pe_meth (pv 1) T.cl_Lines T.me_Lines_word G_Lines_word (hr.mono (by decide)) b_Lines_word .nil pass0 (pa_cons pe_str pa_nil))) (pss_cons (ps_expr (pe_meth0 (pv 1) T.cl_Lines T.me_Lines_close G_Lines_close (hr.mono (by decide)) b_Lines_close .nil pass0)) (pss_one (ps_ret (pe_make M_Network G_Networku_initu (hr.mono (by decide)) rfl T.m_Network b_Networku_initu .nil pass0 (pa_cons (pv 2) (pa_cons (pe_callTy (call_tupK K rfl) (by rfl) T.n_tuple (by decide +kernel) (pa_cons (pv 3) pa_nil)) (pa_cons (pv 6) pa_nil))))))))))))))), sp_body h fun ss S r S' hg => ?_⟩)
  · obtain ⟨n, L, last, rfl, _⟩ := hg; rfl
  · obtain ⟨n, L, last, rfl, hk, rfl, rfl⟩ := hg
    have ht := hk.tok
    have n1 := hk.wf.n1
    have n8 := hk.wf.n8
    have l4 := hk.wf.l4
    have few := hk.few
    have hW : (netW n L last).length = L.length + L.flatten.length + 5 := netW_len
    refine sp_drop (ev_call (ea_cons (ev_var rfl) ea_nil) ⟨netLs n L last, rfl, ht, rfl, rfl⟩) ?_
    refine sp_setMk (S2 := S') (fs := [("lines", strsD (netW n L last)), ("at", .int (0 : Nat))]) (ea_cons (ev_var rfl) ea_nil) ⟨S'.length, netLs n L last, rfl, a1, ht, rfl, a2.symm⟩ rfl ?_
    refine sp_set (x := .d (.int n)) (S1 := S' ++ [lnD T.CL (netW n L last) 1]) ((ev_call (ea_cons (ev_var rfl) ea_nil) ⟨S'.length, netW n L last, 0, n, rfl, a1, net_head, by omega, n1, n8, rfl, rfl⟩).toS a2) ?_
    refine sp_parC (en_lst (ds := []) ea_nil (szl (by decide))) ev_int ?_
    rw [show (S' ++ [lnD T.CL (netW n L last) 1]).length = S'.length + 1 by simp]
    refine sp_seq (P' := { nx := fun env' S2 => S2 = S' ++ [lnD T.CL (netW n L last) (npos L L.length)] ++ [.lst (L.map layD)] ∧ ∃ o o2, env' = [some (.d (.str (textS (netLs n L last)))), some (.c S'.length), some (.d (.int n)), some (.c (S'.length + 1)), some (.d (.int (L.flatten.length : Nat))), o, o2] })
      (sp_while (m0 := L.length) (fun m env' S2 => ∃ i o, m + i = L.length ∧ S2 = S' ++ [lnD T.CL (netW n L last) (npos L i)] ++ [.lst ((L.take i).map layD)] ∧ env' = [some (.d (.str (textS (netLs n L last)))), some (.c S'.length), some (.d (.int n)), some (.c (S'.length + 1)), some (.d (.int ((L.take i).flatten.length : Nat))), o, none]) ⟨0, none, by omega, rfl, rfl⟩ ?_) ?_
    · rintro m env' S2 ⟨i, o, hm, rfl, rfl⟩
      have hseq : Seq (S' ++ [lnD T.CL (netW n L last) (npos L i)] ++ [.lst ((L.take i).map layD)]) (.c (S'.length + 1)) ((L.take i).map layD) := .cell b2
      by_cases hi : i < L.length
      · obtain ⟨l, hl⟩ : ∃ l, L[i]? = some l := ⟨_, List.getElem?_eq_getElem hi⟩
        have hfl := flat_le hl
        have hft := flat_len_take hl
        have hp : npos L i = 1 + i + (L.take i).flatten.length := rfl
        have hwl := hk.wf.wl.get hl
        obtain ⟨w, hw, hst⟩ := net_next (n := n) (last := last) hl
        refine ⟨true, _, et_andP (a := true) (b := true) (et_test ((ev_op (ev_meth (ev_var rfl) b1 rfl ea_nil ⟨S'.length, netW n L last, npos L i, _, rfl, b1, net_layer hl, by omega, rfl, rfl⟩) ev_str o_eqS).to (by rw [decide_eq_true rfl]))) fun _ => et_test ((ev_op (ev_cb (ea_cons (ev_var rfl) ea_nil) (cd_len hseq)) ev_int o_lt).to ?_), fun _ => ?_, fun h => by cases h⟩
        · congr 2
          rw [List.length_map, List.length_take]
          exact decide_eq_true (by omega)
        · refine sp_drop (S1 := S' ++ [lnD T.CL (netW n L last) (npos L i + 1)] ++ [.lst ((L.take i).map layD)]) ((ev_meth (ev_var rfl) b1 rfl ea_nil ⟨S'.length, netW n L last, npos L i, rfl, b1, rfl, rfl⟩).toS b3) ?_
          refine sp_set (x := .d (layD l)) (S1 := S' ++ [lnD T.CL (netW n L last) (npos L i + 1 + l.length)] ++ [.lst ((L.take i).map layD)]) ((ev_call (ea_cons (ev_var rfl) (ea_cons ((ev_op (ev_var rfl) (ev_var rfl) o_add).to (r' := .d (.int ((n + (L.take i).flatten.length : Nat) : Int))) rfl) (ea_cons (ev_cb (ea_cons ev_int (ea_cons (ev_op ev_int (ev_var rfl) o_sub) ea_nil)) cd_min2) ea_nil))) ⟨S'.length, netW n L last, npos L i + 1, n + (L.take i).flatten.length, _, l, w, rfl, b1, hwl.1, by omega, by omega, hwl.2.2, by omega, by omega, fun j r hr => net_unit hl hr, hw, hst, by omega, rfl, rfl⟩).toS b3) ?_
          refine sp_drop (S1 := S' ++ [lnD T.CL (netW n L last) (npos L i + 1 + l.length)] ++ [.lst ((L.take (i + 1)).map layD)]) ((ev_append (ev_var rfl) (ev_var rfl) ⟨_, b2⟩ b2 (Nat.lt_of_lt_of_le (m := 200) (by rw [List.length_map, List.length_take]; omega) (szl (by decide)))).toS ?_) ?_
          · rw [b4, ← map_take layD hl]
          · refine sp_aug1 rfl (ev_cb (ea_cons (ev_var rfl) ea_nil) (cd_len .tup)) ⟨m - 1, by omega, i + 1, some (.d (layD l)), by omega, by rw [npos_next hl], ?_⟩
            rw [hft, List.length_map, Int.natCast_add]
            rfl
      · have hie : i = L.length := by omega
        subst hie
        refine ⟨false, _, et_andP (a := false) (b := false) (et_test ((ev_op (ev_meth (ev_var rfl) b1 rfl ea_nil ⟨S'.length, netW n L last, npos L L.length, Str.ofString "last", rfl, b1, by rw [npos_end]; exact net_end (x := 0), by rw [npos_end]; omega, rfl, rfl⟩) ev_str o_eqS).to (by rw [decide_eq_false (str_ne (by decide))]))) (fun h => by cases h), fun h => (by cases h), fun _ => ⟨by rw [List.take_length], o, none, by rw [List.take_length]⟩⟩
    · rintro env' S2 ⟨rfl, o, o2, rfl⟩
      have hpe : npos L L.length = 1 + L.length + L.flatten.length := npos_end
      refine sp_drop (S1 := S' ++ [lnD T.CL (netW n L last) (npos L L.length + 1)] ++ [.lst (L.map layD)]) ((ev_meth (ev_var rfl) b1 rfl (ea_cons ev_str ea_nil) ⟨S'.length, netW n L last, npos L L.length, Str.ofString "last", rfl, b1, by rw [hpe]; exact net_end (x := 0), by omega, rfl, rfl⟩).toS b3) ?_
      refine sp_set (x := .d (rowD last)) (S1 := S' ++ [lnD T.CL (netW n L last) (npos L L.length + 1 + 1)] ++ [.lst (L.map layD)]) ((ev_call (ea_cons (ev_var rfl) (ea_cons ((ev_op (ev_var rfl) (ev_var rfl) o_add).to (r' := .d (.int ((n + L.flatten.length : Nat) : Int))) rfl) ea_nil)) ⟨S'.length, netW n L last, npos L L.length + 1, n + L.flatten.length, last, rfl, b1, by rw [hpe]; exact net_end (x := 1), by omega, hk.wf.la, by omega, by omega, rfl, rfl⟩).toS b3) ?_
      refine sp_drop (S1 := S' ++ [lnD T.CL (netW n L last) (netLs n L last).length] ++ [.lst (L.map layD)]) ((ev_meth (ev_var rfl) b1 rfl (ea_cons ev_str ea_nil) ⟨S'.length, netW n L last, npos L L.length + 1 + 1, Str.ofString "end", rfl, b1, by rw [hpe]; exact net_end (x := 2), by omega, rfl, rfl⟩).toS ?_) ?_
      · rw [b3, net_len, hpe, show 1 + L.length + L.flatten.length + 1 + 1 + 1 = L.length + L.flatten.length + 4 by omega]
      · refine sp_drop (ev_meth (ev_var rfl) b1 rfl ea_nil ⟨S'.length, netLs n L last, rfl, b1, rfl, rfl⟩) ?_
        refine sp_ret (ev_make (S2 := S' ++ [lnD T.CL (netW n L last) (netLs n L last).length] ++ [.lst (L.map layD)]) (fs := [("inputs", .int n), ("layers", laysD L), ("last", rowD last), ("depth", .int L.length), ("units", .tup (L.flatten.map rowD))]) (ea_cons (ev_var rfl) (ea_cons (ev_cb (ea_cons (ev_var rfl) ea_nil) (cd_tup (.cell b2))) (ea_cons (ev_var rfl) ea_nil))) ⟨_, n, L, last, rfl, a1, hk.wf, rfl, a2.symm⟩ rfl) ⟨rfl, b5⟩
end
end N85

set_option Elab.async false
set_option linter.all false
set_option maxRecDepth 100000
set_option maxHeartbeats 4000000
namespace N85
open PySem PySem.Spec PyProof.Rows L2 RW

abbrev Vt := Int × Int × Int
def vatD (v : Vt) : Dat := .lst [.int v.1, .int v.2.1, .int v.2.2]
def drawF (v : Vt) (t : Int) : Int × Vt :=
  if 0 < v.1 then (v.1 % t, (v.1 / t, v.2.1, v.2.2)) else
    ((((((v.2.1 + 15486277 * (v.2.2 + 1)) % 2305843009213693951) * ((v.2.1 + 15486277 * (v.2.2 + 1)) % 2305843009213693951) + 101 * (v.2.2 + 1)) % 2305843009213693921 * 7369597 + (v.2.1 + 15486277 * (v.2.2 + 1)) % 2305843009213693951) / 65539) % t, (v.1, v.2.1, v.2.2 + 1))
theorem draw_nn (v : Vt) {t : Int} (h : 0 < t) : 0 ≤ (drawF v t).1 := by
  unfold drawF; split <;> exact Int.emod_nonneg _ (by omega)
theorem draw_lt (v : Vt) {t : Int} (h : 0 < t) : (drawF v t).1 < t := by
  unfold drawF; split <;> exact Int.emod_lt_of_pos _ h
def foldF {α β : Type} (f : Vt → α → β × Vt) : List α → Vt → List β × Vt
  | [], v => ([], v)
  | x :: xs, v => ((f v x).1 :: (foldF f xs (f v x).2).1, (foldF f xs (f v x).2).2)
theorem foldF_len {α β : Type} (f : Vt → α → β × Vt) : ∀ (xs : List α) (v : Vt), (foldF f xs v).1.length = xs.length
  | [], _ => rfl
  | x :: xs, v => by rw [foldF, List.length_cons, List.length_cons, foldF_len f xs]
theorem foldF_get {α β : Type} (f : Vt → α → β × Vt) : ∀ (xs : List α) (v : Vt) (i : Nat) (a : α), xs[i]? = some a → (foldF f xs v).1[i]? = some (f (foldF f (xs.take i) v).2 a).1
  | [], _, _, _, h => by simp at h
  | x :: xs, v, 0, a, h => by simp at h; subst h; rfl
  | x :: xs, v, i + 1, a, h => by
    rw [foldF, List.getElem?_cons_succ, foldF_get f xs _ i a (by simpa using h), List.take_succ_cons, foldF]
theorem foldF_step {α β : Type} (f : Vt → α → β × Vt) : ∀ (xs : List α) (v : Vt) (i : Nat) (a : α), xs[i]? = some a → (foldF f (xs.take (i + 1)) v).2 = (f (foldF f (xs.take i) v).2 a).2
  | [], _, _, _, h => by simp at h
  | x :: xs, v, 0, a, h => by simp at h; subst h; simp [foldF]
  | x :: xs, v, i + 1, a, h => by
    rw [List.take_succ_cons, foldF, foldF_step f xs _ i a (by simpa using h), List.take_succ_cons, foldF]
theorem foldF_mem {α β : Type} {f : Vt → α → β × Vt} {p : β → Prop} : ∀ (xs : List α) (v : Vt), (∀ v, ∀ a ∈ xs, p (f v a).1) → ∀ b ∈ (foldF f xs v).1, p b
  | [], _, _, _, h => by simp [foldF] at h
  | x :: xs, v, hp, b, h => by
    rw [foldF, List.mem_cons] at h
    rcases h with rfl | h
    · exact hp v x List.mem_cons_self
    · exact foldF_mem xs _ (fun v a ha => hp v a (List.mem_cons_of_mem _ ha)) b h
def gDraw (ss : List Sl) (S : List Dat) (r : Dat) (S' : List Dat) : Prop := ∃ (k : Nat) (v : Vt) (t : Int), ss = [.c k, .d (.int t)] ∧ S[k]? = some (vatD v) ∧ 0 < t ∧ t < 2 ^ 100 ∧ r = .int (drawF v t).1 ∧ S' = S.set k (vatD (drawF v t).2)
def pickF (v : Vt) (ns : List Int) : Int × Vt := (ns.getD (drawF v ns.length).1.toNat 0, (drawF v ns.length).2)
theorem pick_in (v : Vt) {ns : List Int} (h : ns ≠ []) : (pickF v ns).1 ∈ ns := by
  have hp : 0 < (ns.length : Int) := by have := List.length_pos_iff.mpr h; omega
  have h1 := draw_nn v hp
  have h2 := draw_lt v hp
  have hl : (drawF v ns.length).1.toNat < ns.length := by omega
  show ns.getD _ 0 ∈ ns
  rw [List.getD_eq_getElem?_getD, List.getElem?_eq_getElem hl]
  exact List.getElem_mem _
def gPick (ss : List Sl) (S : List Dat) (r : Dat) (S' : List Dat) : Prop := ∃ (k : Nat) (v : Vt) (ns : List Int), ss = [.c k, .d (.lst (ns.map Dat.int))] ∧ S[k]? = some (vatD v) ∧ ns ≠ [] ∧ ns.length ≤ 1000 ∧ r = .int (pickF v ns).1 ∧ S' = S.set k (vatD (pickF v ns).2)
theorem set_get {S : List Dat} {k : Nat} {d e : Dat} (h : S[k]? = some d) : (S.set k e)[k]? = some e := List.getElem?_set_self (List.getElem?_eq_some_iff.mp h).1
theorem set_id {S : List Dat} {k : Nat} {d : Dat} (h : S[k]? = some d) : S.set k d = S := by
  obtain ⟨hl, e⟩ := List.getElem?_eq_some_iff.mp h
  rw [← e]; exact List.set_getElem_self hl
theorem ixN_nat {m p : Nat} (h : p < m) : ixN m (p : Int) = some p := by
  unfold ixN
  simp
  omega
theorem atI_nat {α : Type} {xs : List α} {p : Nat} (h : p < xs.length) : atI xs (p : Int) = some xs[p] := by
  unfold atI
  rw [ixN_nat h]
  exact List.getElem?_eq_getElem h
theorem atI_map {α : Type} {f : α → Dat} {xs : List α} {p : Nat} {a : α} (h : xs[p]? = some a) : atI (xs.map f) (p : Int) = some (f a) := by
  obtain ⟨hl, e⟩ := List.getElem?_eq_some_iff.mp h
  rw [atI_nat (by rw [List.length_map]; exact hl), List.getElem_map, e]
section
variable {P : Program} {w : World} {K : PySem.W.Frag} {mg : Str → Option Value} {base : Heap}

theorem ok__law_dealt (T : Txt K mg) : FnOk P w K mg base CX0 1 T.a__law_dealt T.d__law_dealt ["pack", "total"] (SpD K (gDraw)) := by
  refine T.F__law_dealt.ok sc__law_dealt (spd_len (k := 2) fun ss S r S' hg => ?_) (fun cdv A outer s H vs Q E hr h => ⟨_, (pss_cons (ps_if (pt_cmpR op_gt (pe_ix (ix_seqK K) (pv 0) pe_int (fun _ _ => rfl)) pe_int (nomark _)) (pss_cons (ps_set (i := 2) sc__law_dealt.nd rfl (by first | exact Or.inl rfl | exact Or.inr rfl) (pe_op op_mod (pe_callTy call_intD (by rfl) T.n_int (by decide +kernel) (pa_cons (pe_ix (ix_seqK K) (pv 0) pe_int (fun _ _ => rfl)) pa_nil)) (pv 1))) (pss_cons (ps_asg (pe_op op_fdivW (pe_ix (ix_seqK K) (pv 0) pe_int (fun _ _ => rfl)) (pv 1)) (pg_sub (pv 0) pe_int set_list)) (pss_one (ps_ret (pv 2))))) pss_nil) (pss_cons (ps_asg (pe_op op_add (pe_ix (ix_seqK K) (pv 0) pe_int (fun _ _ => rfl)) pe_int) (pg_sub (pv 0) pe_int set_list)) (pss_cons (ps_set (i := 3) sc__law_dealt.nd rfl (by first | exact Or.inl rfl | exact Or.inr rfl) (pe_op op_mod (pe_callTy call_intD (by rfl) T.n_int (by decide +kernel) (pa_cons (pe_op op_add (pe_ix (ix_seqK K) (pv 0) pe_int (fun _ _ => rfl)) (pe_op op_mul pe_int (pe_ix (ix_seqK K) (pv 0) pe_int (fun _ _ => rfl)))) pa_nil)) pe_int)) (pss_cons (ps_set (i := 4) sc__law_dealt.nd rfl (by first | exact Or.inl rfl | exact Or.inr rfl) (pe_op op_add (pe_op op_mul (pe_op op_mod (pe_callTy call_intD (by rfl) T.n_int (by decide +kernel) (pa_cons (pe_op op_add (pe_op op_mul (pv 3) (pv 3)) (pe_op op_mul pe_int (pe_ix (ix_seqK K) (pv 0) pe_int (fun _ _ => rfl)))) pa_nil)) pe_int) pe_int) (pv 3))) (pss_one (ps_ret (pe_op op_mod (pe_callTy call_intD (by rfl) T.n_int (by decide +kernel) (pa_cons (pe_op op_fdivW (pv 4) pe_int) pa_nil)) (pv 1)))))))), sp_body h fun ss S r S' hg => ?_⟩)
  · obtain ⟨i, n, l, rfl, _⟩ := hg; rfl
  · obtain ⟨k, v, t, rfl, hk, ht, htw, rfl, rfl⟩ := hg
    have hs : ∀ (x : Dat), (S.set k x).take S.length = S.set k x := fun x => List.take_of_length_le (by simp)
    refine sp_ifq (b := decide (0 < v.1)) (et_test (ev_op (ev_op (ev_var rfl) ev_int (op2_ix (.cell hk) rfl)) ev_int o_gt)) (fun hh => ?_) fun hh => sp_nextq ?_
    · have hp := of_decide_eq_true hh
      refine sp_assoc (sp_set (ev_op (ev_cb (ea_cons (ev_op (ev_var rfl) ev_int (op2_ix (.cell hk) rfl)) ea_nil) cd_int) (ev_var rfl) (o_mod ht)) (sp_assoc (sp_setitem (j := 0) (ev_op (ev_op (ev_var rfl) ev_int (op2_ix (.cell hk) rfl)) (ev_var rfl) (o_fdivW ⟨ht, ?_⟩)) (ev_var rfl) ev_int hk rfl (sp_retq (sp_ret (ev_var rfl) ⟨?_, ?_⟩)))))
      · have h2 : t.natAbs < 2 ^ 100 := by omega
        have : t.natAbs.log2 < 100 := (Nat.log2_lt (by omega)).mpr h2
        omega
      · unfold drawF; rw [if_pos hp]
      · rw [hs]; unfold drawF; rw [if_pos hp]; rfl
    · have hp := of_decide_eq_false hh
      have h1 : ∀ x : Int, 0 ≤ x % 2305843009213693951 ∧ x % 2305843009213693951 < 2305843009213693951 := fun x => ⟨Int.emod_nonneg _ (by decide), Int.emod_lt_of_pos _ (by decide)⟩
      refine sp_setitem (j := 2) (ev_op (ev_op (ev_var rfl) ev_int (op2_ix (.cell hk) rfl)) ev_int o_add) (ev_var rfl) ev_int hk rfl ?_
      have hk2 := set_get (e := .lst [.int v.1, .int v.2.1, .int (v.2.2 + 1)]) hk
      refine sp_set (ev_op (ev_cb (ea_cons (ev_op (ev_op (ev_var rfl) ev_int (op2_ix (.cell hk2) rfl)) (ev_op ev_int (ev_op (ev_var rfl) ev_int (op2_ix (.cell hk2) rfl)) (o_mul (cm_l (by decide) (by decide)))) o_add) ea_nil) cd_int) ev_int (o_mod (by decide))) ?_
      refine sp_set (ev_op (ev_op (ev_op (ev_cb (ea_cons (ev_op (ev_op (ev_var rfl) (ev_var rfl) (o_mul (cm_l ?_ ?_))) (ev_op ev_int (ev_op (ev_var rfl) ev_int (op2_ix (.cell hk2) rfl)) (o_mul (cm_l (by decide) (by decide)))) o_add) ea_nil) cd_int) ev_int (o_mod (by decide))) ev_int (o_mul (cm_r (by decide) (by decide)))) (ev_var rfl) o_add) ?_
      · have := h1 (v.2.1 + 15486277 * (v.2.2 + 1)); omega
      · have := h1 (v.2.1 + 15486277 * (v.2.2 + 1)); omega
      · refine sp_ret (ev_op (ev_cb (ea_cons (ev_op (ev_var rfl) ev_int (o_fdivW ⟨by decide, by decide⟩)) ea_nil) cd_int) (ev_var rfl) (o_mod ht)) ⟨?_, ?_⟩
        · unfold drawF; rw [if_neg hp]
        · refine (hs _).trans ?_
          unfold drawF; rw [if_neg hp]; rfl
theorem ok__law_one_of (T : Txt K mg) : FnOk P w K mg base CX0 2 T.a__law_one_of T.d__law_one_of ["pack", "items"] (SpD K (gPick)) := by
  have G__law_dealt := ok__law_dealt (P := P) (w := w) (base := base) T
  have b__law_dealt := T.b__law_dealt
  refine T.F__law_one_of.ok sc__law_one_of (spd_len (k := 2) fun ss S r S' hg => ?_) (fun cdv A outer s H vs Q E hr h => ⟨_, (pss_one (ps_ret (pe_ix (ix_seqK K) (pv 1) (pe_call G__law_dealt (hr.mono (by decide)) rfl T.m__law_dealt T.k__law_dealt b__law_dealt .nil pass0 (pa_cons (pv 0) (pa_cons (pe_callB (call_lenK K) (by rfl) T.n_len (by decide +kernel) (pa_cons (pv 1) pa_nil)) pa_nil))) (fun _ _ => rfl)))), sp_body h fun ss S r S' hg => ?_⟩)
  · obtain ⟨i, n, l, rfl, _⟩ := hg; rfl
  · obtain ⟨k, v, ns, rfl, hk, hne, hl, rfl, rfl⟩ := hg
    have hp : 0 < (ns.length : Int) := by have := List.length_pos_iff.mpr hne; omega
    have h1 := draw_nn v hp
    have h2 := draw_lt v hp
    have hlt : (drawF v ns.length).1.toNat < ns.length := by omega
    refine sp_ret (S1 := S.set k (vatD (pickF v ns).2)) (ev_op (ev_var rfl) (ev_call (ea_cons (ev_var rfl) (ea_cons ((ev_cb (ea_cons (ev_var rfl) ea_nil) (cd_len .lst)).to (r' := .d (.int ns.length)) (by rw [List.length_map])) ea_nil)) ⟨k, v, ns.length, rfl, hk, hp, by omega, rfl, rfl⟩) (op2_ix .lst ?_)) ⟨rfl, List.take_of_length_le (by simp)⟩
    have e : (drawF v ns.length).1 = ((drawF v ns.length).1.toNat : Int) := by omega
    rw [e]
    refine atI_map ?_
    show ns[_]? = some (ns.getD _ 0)
    rw [List.getD_eq_getElem?_getD, List.getElem?_eq_getElem hlt]; rfl
end
end N85

set_option Elab.async false
set_option linter.all false
set_option maxRecDepth 100000
set_option maxHeartbeats 4000000
namespace N85
open PySem PySem.Spec PyProof.Rows L2 RW

/-! the pack -/
def cellF (ns : List Int) (i : Nat) : Int := if i < ns.length then ns.getD i 0 else 191 * (i : Nat) + 47
def big : Int := (10 ^ (59 : Int).toNat) ^ (6 : Int).toNat
def greatF (ns : List Int) (i : Nat) : Int := ((cellF ns i).natAbs : Int) % big
def vatF (ns : List Int) (i : Nat) : Vt := (max 0 (greatF ns i - 10 ^ (16 : Int).toNat), greatF ns i % 2147483549 * 149 + 593 * (i : Nat) + 43 * b2i (decide (cellF ns i < 0)) + 11, 0)
theorem big_pos : 0 < big := by unfold big; decide +kernel
def gVat (ss : List Sl) (S : List Dat) (r : List Dat) (S' : List Dat) : Prop := ∃ (ns : List Int) (i : Nat), ss = [.d (.scr ns), .d (.int i)] ∧ r = [.int (vatF ns i).1, .int (vatF ns i).2.1, .int (vatF ns i).2.2] ∧ S' = S
theorem op2_ixS {K : PySem.W.Frag} {S : List Dat} {ns : List Int} {i : Int} {u : Int} (h : atI (ns.map V.int) i = some (V.int u)) : Op2 K (rIx K) (.d (.scr ns)) (.d (.int i)) S (.int u) := fun B H as v w c h1 h2 Q q => by
  cases h2
  cases h1 with
  | scr h1 => exact .inl ⟨_, _, i, _, rfl, rfl, Evl.ex_l c.ex h1, h, q _ B H c Evo.refl (.int u)⟩
theorem raw_set {K : PySem.W.Frag} {te : TE} {env : Env1} {S S1 : List Dat} {x : Sl} {i : Nat} {u : TS} {D : Ends} {B H : Hp} {as : List Addr} {σ : L2.St} (h : Ev K te env S x S1) (c : Ok K B H as S) (g : EnvR K B as σ env)
    (q : ∀ B1 H1 v, Ok K B1 H1 as S1 → Evo B H as B1 H1 → EnvR K B1 as (σ.set i (some v)) (env.set i (some x)) → u D (σ.set i (some v)) H1) : tSeq (tAsg te (gName i)) u D σ H :=
  h B H as σ c g _ fun v B1 H1 c1 e1 r1 => q B1 H1 v c1 e1 ((g.mono e1.ex).set i r1)
theorem raw_retN {K : PySem.W.Frag} {te : TE} {env : Env1} {S S1 ds : List Dat} {D : Ends} {B H : Hp} {as : List Addr} {σ : L2.St} (h : EvN K te env S ds S1) (c : Ok K B H as S) (g : EnvR K B as σ env)
    (q : ∀ p B' H' vs, Ok K B' H' as S1 → Evo B H as B' H' → H p = none → B' p = none → H' p = some (.lst vs) → Reps K B' vs ds → D.rt (.ref p) H') : tRet te D σ H := h B H as σ c g _ q
/-! numbers and rows -/
def NUMS : List Int := [0, 1, -1, 2, 10, -7, 305, 10 ^ (12 : Int).toNat, -(10 ^ (59 : Int).toNat), 10 ^ (60 : Int).toNat - 1, 1 - 10 ^ (60 : Int).toNat]
def numF (v : Vt) : Int × Vt := pickF v NUMS
theorem num_sh (v : Vt) : Sh (numF v).1 := by
  have h0 := pick_in v (ns := NUMS) (by simp [NUMS])
  have hb : ∀ x ∈ NUMS, -(10 ^ 60) < x ∧ x < 10 ^ 60 := by decide +kernel
  exact hb _ h0
def rowN (v : Vt) (m : Nat) : List Int × Vt := foldF (fun v _ => numF v) (List.range m) v
theorem rowN_len (v : Vt) (m : Nat) : (rowN v m).1.length = m := by unfold rowN; rw [foldF_len, List.length_range]
theorem rowN_rw (v : Vt) (m : Nat) : Rw (rowN v m).1 m := ⟨rowN_len v m, foldF_mem (p := Sh) _ _ fun v a _ => num_sh v⟩
/-! what is drawn without doubles, and sorted -/
def keysF (rs : List (List Int)) : List (List Int) := rs.foldl insK []
theorem insK_mem {ks : List (List Int)} {k x : List Int} : x ∈ insK ks k ↔ x ∈ ks ∨ x = k := by
  unfold insK
  split
  · next h => exact ⟨.inl, fun z => z.elim id fun e => e ▸ h⟩
  · simp
theorem insK_nd {ks : List (List Int)} {k : List Int} (h : ks.Nodup) : (insK ks k).Nodup := by
  unfold insK
  split
  · exact h
  · next hk => exact List.nodup_append.mpr ⟨h, by simp, fun a ha b hb => by rw [List.mem_singleton.mp hb]; rintro rfl; exact hk ha⟩
theorem insK_len {ks : List (List Int)} {k : List Int} : (insK ks k).length ≤ ks.length + 1 := by
  unfold insK; split <;> simp
theorem keysF_add (rs : List (List Int)) (r : List Int) : keysF (rs ++ [r]) = insK (keysF rs) r := by unfold keysF; rw [List.foldl_append]; rfl
theorem keys_ok : ∀ (rs ks : List (List Int)), ks.Nodup → (rs.foldl insK ks).Nodup ∧ (∀ x, x ∈ rs.foldl insK ks ↔ x ∈ ks ∨ x ∈ rs) ∧ (rs.foldl insK ks).length ≤ ks.length + rs.length
  | [], ks, h => ⟨h, fun x => by simp, by simp⟩
  | r :: rs, ks, h => by
    obtain ⟨h1, h2, h3⟩ := keys_ok rs (insK ks r) (insK_nd h)
    refine ⟨h1, fun x => ?_, ?_⟩
    · rw [List.foldl_cons, h2, insK_mem, List.mem_cons, or_assoc]
    · rw [List.foldl_cons, List.length_cons]
      have := insK_len (ks := ks) (k := r)
      omega
def sortF (ks : List (List Int)) : List (List Int) := ks.mergeSort fun a b => decide (RwS.rk ks a ≤ RwS.rk ks b)
theorem sortF_perm (ks : List (List Int)) : (sortF ks).Perm ks := List.mergeSort_perm _ _
theorem sortF_pw {ks : List (List Int)} {n : Nat} (hl : ∀ r ∈ ks, r.length = n) : (sortF ks).Pairwise fun x y => RwS.lx y x = false := by
  have h := List.pairwise_mergeSort (le := fun a b => decide (RwS.rk ks a ≤ RwS.rk ks b)) (fun a b c h1 h2 => by simp only [decide_eq_true_eq] at *; omega) (fun a b => by simp only [Bool.or_eq_true, decide_eq_true_eq]; omega) ks
  refine List.Pairwise.imp_of_mem (fun {x y} hx hy hxy => ?_) h
  have hx := (sortF_perm ks).mem_iff.mp hx
  have hy := (sortF_perm ks).mem_iff.mp hy
  have := RwS.rk_lt hy (y := x) (by rw [hl _ hx, hl _ hy])
  cases e : RwS.lx y x with
  | false => rfl
  | true =>
    have := this.mp e
    have hxy : RwS.rk ks x ≤ RwS.rk ks y := of_decide_eq_true hxy
    omega
theorem sortF_uniq {ks : List (List Int)} {n : Nat} (hl : ∀ r ∈ ks, r.length = n) (rs : List (List Int)) (hp : rs.Perm ks) (hw : rs.Pairwise fun x y => RwS.lx y x = false) : rs = sortF ks := by
  refine List.Perm.eq_of_pairwise (le := fun x y => RwS.lx y x = false) (fun a b ha hb h1 h2 => ?_) hw (sortF_pw hl) (hp.trans (sortF_perm ks).symm)
  have la := hl _ (hp.mem_iff.mp ha)
  have lb := hl _ ((sortF_perm ks).mem_iff.mp hb)
  rcases RwS.lx_tri (x := a) (y := b) (by omega) with h | h | h
  · rw [h] at h2; cases h2
  · exact h
  · rw [h] at h1; cases h1
def rowsG (v : Vt) (len most : Nat) : List (List Int) × Vt := foldF (fun v _ => rowN v len) (List.range (1 + (drawF v most).1).toNat) (drawF v most).2
def rowsF (v : Vt) (len most : Nat) : List (List Int) × Vt := (sortF (keysF (rowsG v len most).1), (rowsG v len most).2)
theorem m_ok (v : Vt) {most : Nat} (h : 1 ≤ most) : (1 + (drawF v most).1 = ((1 + (drawF v most).1).toNat : Int)) ∧ 1 ≤ (1 + (drawF v most).1).toNat ∧ (1 + (drawF v most).1).toNat ≤ most := by
  have h1 := draw_nn v (t := most) (by omega)
  have h2 := draw_lt v (t := most) (by omega)
  omega
theorem rowsG_len (v : Vt) (len most : Nat) : (rowsG v len most).1.length = (1 + (drawF v most).1).toNat := by unfold rowsG; rw [foldF_len, List.length_range]
theorem rowsG_rw (v : Vt) (len most : Nat) : ∀ r ∈ (rowsG v len most).1, Rw r len := foldF_mem (p := fun r => Rw r len) _ _ fun v a _ => rowN_rw v len
theorem keysG_rw (v : Vt) (len most : Nat) : ∀ r ∈ keysF (rowsG v len most).1, Rw r len := fun r hr => by
  rcases ((keys_ok (rowsG v len most).1 [] (by simp)).2.1 r).mp hr with h | h
  · simp at h
  · exact rowsG_rw v len most r h
theorem rowsF_ok (v : Vt) {len most : Nat} (h1 : 1 ≤ len) (h8 : len ≤ 8) (m1 : 1 ≤ most) (m40 : most ≤ 40) : LotOk len (rowsF v len most).1 := by
  obtain ⟨hm, hm1, hm2⟩ := m_ok v m1
  have hl := rowsG_len v len most
  obtain ⟨k1, k2, k3⟩ := keys_ok (rowsG v len most).1 [] (by simp)
  have hrw : ∀ r ∈ (rowsF v len most).1, Rw r len := fun r hr => keysG_rw v len most r ((sortF_perm _).mem_iff.mp hr)
  have hpl : (rowsF v len most).1.length = (keysF (rowsG v len most).1).length := (sortF_perm _).length_eq
  refine ⟨h1, h8, ?_, ?_, hrw, ?_⟩
  · rw [hpl]
    have h0 : 0 < (rowsG v len most).1.length := by omega
    have : (rowsG v len most).1[0] ∈ keysF (rowsG v len most).1 := (k2 _).mpr (.inr (List.getElem_mem h0))
    exact List.length_pos_of_mem this
  · rw [hpl]
    have : (keysF (rowsG v len most).1).length ≤ ([] : List (List Int)).length + (rowsG v len most).1.length := k3
    simp at this
    omega
  · have hw : (rowsF v len most).1.Pairwise _ := sortF_pw (n := len) fun r hr => (keysG_rw v len most r hr).1
    have hn : (rowsF v len most).1.Nodup := (sortF_perm _).nodup_iff.mpr k1
    refine List.Pairwise.imp_of_mem (fun {x y} hx hy hxy => ?_) (hw.and hn)
    rcases RwS.lx_tri (x := x) (y := y) (by rw [(hrw x hx).1, (hrw y hy).1]) with h | h | h
    · exact h
    · exact absurd h hxy.2
    · rw [h] at hxy; cases hxy.1
def gNum (ss : List Sl) (S : List Dat) (r : Dat) (S' : List Dat) : Prop := ∃ (k : Nat) (v : Vt), ss = [.c k] ∧ S[k]? = some (vatD v) ∧ r = .int (numF v).1 ∧ S' = S.set k (vatD (numF v).2)
def gRowsD (ss : List Sl) (S : List Dat) (r : Dat) (S' : List Dat) : Prop := ∃ (k : Nat) (v : Vt) (len most : Nat), ss = [.c k, .d (.int len), .d (.int most)] ∧ S[k]? = some (vatD v) ∧ 1 ≤ len ∧ len ≤ 8 ∧ 1 ≤ most ∧ most ≤ 40 ∧ r = layD (rowsF v len most).1 ∧ S' = S.set k (vatD (rowsF v len most).2)
/-- a row of drawn numbers -/
theorem en_rowN {K : PySem.W.Frag} {env : Env1} {S : List Dat} {k j i m : Nat} {v : Vt} {ta : TE} (hk : S[k]? = some (vatD v)) (h : Ev K ta env S (.d (.int m)) S) (hm : m ≤ 1000) (hj : env[j]? = some (some (.c k))) (hij : i ≠ j) :
    EvN K (tLc (iRng1 (tCons ta tNil)) (gName i) tYes (tCall (SpD K gNum) [] E0 (tCons (tVar j) tNil)) [i]) env S ((rowN v m).1.map Dat.int) (S.set k (vatD (rowN v m).2)) := by
  have hz : (List.range m).length ≤ sizeLine := size_1000 (by rw [List.length_range]; exact hm)
  have hN := en_fold (K := K) (te := tCall (SpD K gNum) [] E0 (tCons (tVar j) tNil)) (env := env) (S := S) (xs := List.range m) (g := fun i => Dat.int (0 + (i : Nat))) (es := (rowN v m).1) Dat.int (fun i => S.set k (vatD (foldF (fun v _ => numF v) ((List.range m).take i) v).2)) (wi := iRng1 (tCons ta tNil)) (tg := gName i) (vs := [i]) (G := G0) (is := [i]) ?_ hz (by rw [rowN_len, List.length_range]) (fun _ _ _ => trivial) (fun i => by simp) (by simp) (fun x env => env.set i (some (.d (.int (0 + (x : Nat)))))) (fun q a b ha hb => ⟨tg_name, ?_⟩)
  · rw [List.take_of_length_le (Nat.le_refl _)] at hN
    exact hN
  · show IterD K _ _ S G0 _ (S.set k (vatD v))
    rw [set_id hk]
    exact it_rangeN (ea_cons h ea_nil) hm
  · have hb2 := foldF_get (fun v _ => numF v) (List.range m) v q a ha
    have hs2 := foldF_step (fun v _ => numF v) (List.range m) v q a ha
    rw [hs2]
    have e : b = (numF (foldF (fun v _ => numF v) ((List.range m).take q) v).2).1 := Option.some.inj (hb.symm.trans hb2)
    subst e
    generalize (foldF (fun v _ => numF v) ((List.range m).take q) v).2 = vi
    refine ev_call (ea_cons (ev_var ?_) ea_nil) ⟨k, vi, rfl, set_get hk, rfl, by rw [List.set_set]⟩
    simp [wipeE, hij, hj]
section
variable {P : Program} {w : World} {K : PySem.W.Frag} {mg : Str → Option Value} {base : Heap}

theorem ok__law_pack (T : Txt K mg) : FnOk P w K mg base CX0 1 T.a__law_pack T.d__law_pack ["script", "spot"] (SpN K gVat) := by
  refine T.F__law_pack.ok sc__law_pack (spn_len (k := 2) fun ss S r S' hg => ?_) (fun cdv A outer s H vs Q E hr h => ⟨_, (pss_cons (ps_set (i := 2) sc__law_pack.nd rfl (by first | exact Or.inl rfl | exact Or.inr rfl) (pe_ifExp (pt_cmpR op_lt (pv 1) (pe_callB (call_lenK K) (by rfl) T.n_len (by decide +kernel) (pa_cons (pv 0) pa_nil)) (nomark _)) (pe_callTy call_intD (by rfl) T.n_int (by decide +kernel) (pa_cons (pe_ix (ix_seqK K) (pv 0) (pv 1) (fun _ _ => rfl)) pa_nil)) (pe_op op_add (pe_op op_mul pe_int (pv 1)) pe_int))) (pss_cons (ps_set (i := 3) sc__law_pack.nd rfl (by first | exact Or.inl rfl | exact Or.inr rfl) (pe_op op_mod (pe_callTy call_intD (by rfl) T.n_int (by decide +kernel) (pa_cons (pe_callB call_absD (by rfl) T.n_abs (by decide +kernel) (pa_cons (pv 2) pa_nil)) pa_nil)) (pe_op op_powW (pe_op op_powW pe_int pe_int) pe_int))) (pss_one (ps_ret (pe_lst (pa_cons (pe_callB (call_max2D rfl) (by rfl) T.n_max (by decide +kernel) (pa_cons pe_int (pa_cons (pe_op op_sub (pv 3) (pe_op op_powW pe_int pe_int)) pa_nil))) (pa_cons (pe_op op_add (pe_op op_add (pe_op op_add (pe_op op_mul (pe_op op_mod (pe_callTy call_intD (by rfl) T.n_int (by decide +kernel) (pa_cons (pv 3) pa_nil)) pe_int) pe_int) (pe_op op_mul pe_int (pv 1))) (pe_op op_mul pe_int (pe_callTy call_intD (by rfl) T.n_int (by decide +kernel) (pa_cons (pe_cmpR op_lt (pv 2) pe_int (nomark _)) pa_nil)))) pe_int) (pa_cons pe_int pa_nil)))))))), ?_⟩)
  · obtain ⟨i, n, rfl, _⟩ := hg; rfl
  · obtain ⟨B, as, S, ss, r, S', c, rs, ⟨ns, i, rfl, rfl, rfl⟩, q⟩ := h
    have g := EnvR.start (N := ["script", "spot", "cell", "great"]) rs
    refine raw_set (x := .d (.int (cellF ns i))) (S1 := S') (ev_if (b := decide ((i : Int) < ns.length)) (S1 := S') (et_test (ev_op (ev_var rfl) (ev_cb (ea_cons (ev_var rfl) ea_nil) cd_lenS) o_lt)) (fun hh => ?_) fun hh => ?_) c g fun B1 H1 v c1 x1 g1 => ?_
    · have hlt : i < ns.length := by have := of_decide_eq_true hh; omega
      refine (ev_cb (ea_cons (ev_op (ev_var rfl) (ev_var rfl) (op2_ixS (u := ns.getD i 0) ?_)) ea_nil) cd_int).to ?_
      · rw [atI_nat (by rw [List.length_map]; exact hlt), List.getElem_map, List.getD_eq_getElem?_getD, List.getElem?_eq_getElem hlt]; rfl
      · unfold cellF; rw [if_pos hlt]
    · have hlt : ¬ i < ns.length := by have := of_decide_eq_false hh; omega
      refine (ev_op (ev_op ev_int (ev_var rfl) (o_mul (cm_l (by decide) (by decide)))) ev_int o_add).to ?_
      unfold cellF; rw [if_neg hlt]
    · refine raw_set (x := .d (.int (greatF ns i))) (S1 := S') (ev_op (ev_cb (ea_cons (ev_cb (ea_cons (ev_var rfl) ea_nil) cd_abs) ea_nil) cd_int) (ev_op (ev_op ev_int ev_int (o_powW ⟨by decide, by decide⟩)) ev_int (o_powW ⟨by decide, by decide +kernel⟩)) (o_mod big_pos)) c1 g1 fun B2 H2 v2 c2 x2 g2 => ?_
      refine raw_retN (ds := [.int (vatF ns i).1, .int (vatF ns i).2.1, .int (vatF ns i).2.2]) (S1 := S') (en_lst (ea_cons (ev_cb (ea_cons ev_int (ea_cons (ev_op (ev_var rfl) (ev_op ev_int ev_int (o_powW ⟨by decide, by decide⟩)) o_sub) ea_nil)) cd_max2) (ea_cons (ev_op (ev_op (ev_op (ev_op (ev_op (ev_cb (ea_cons (ev_var rfl) ea_nil) cd_int) ev_int (o_mod (by decide))) ev_int (o_mul (cm_r (by decide) (by decide)))) (ev_op ev_int (ev_var rfl) (o_mul (cm_l (by decide) (by decide)))) o_add) (ev_op ev_int (ev_cb (ea_cons (ev_op (ev_var rfl) ev_int o_lt) ea_nil) cd_intB) (o_mul (cm_l (by decide) (by decide)))) o_add) ev_int o_add) (ea_cons ev_int ea_nil))) (by show 3 ≤ sizeLine; decide)) c2 g2 fun p B3 H3 ws c3 x3 hp hb hl r3 => q p B3 H3 ws c3 ((x1.trans x2).trans x3) ((x1.trans x2).old hp) hb hl r3
theorem ok__law_number_drawn (T : Txt K mg) : FnOk P w K mg base CX0 3 T.a__law_number_drawn T.d__law_number_drawn ["pack"] (SpD K (gNum)) := by
  have G__law_one_of := ok__law_one_of (P := P) (w := w) (base := base) T
  have b__law_one_of := T.b__law_one_of
  refine T.F__law_number_drawn.ok sc__law_number_drawn (spd_len (k := 1) fun ss S r S' hg => ?_) (fun cdv A outer s H vs Q E hr h => ⟨_, (pss_one (ps_ret (pe_call G__law_one_of (hr.mono (by decide)) rfl T.m__law_one_of T.k__law_one_of b__law_one_of .nil pass0 (pa_cons (pv 0) (pa_cons (pe_lst (pa_cons pe_int (pa_cons pe_int (pa_cons (pe_un un_neg pe_int) (pa_cons pe_int (pa_cons pe_int (pa_cons (pe_un un_neg pe_int) (pa_cons pe_int (pa_cons (pe_op op_powW pe_int pe_int) (pa_cons (pe_un un_neg (pe_op op_powW pe_int pe_int)) (pa_cons (pe_op op_sub (pe_op op_powW pe_int pe_int) pe_int) (pa_cons (pe_op op_sub pe_int (pe_op op_powW pe_int pe_int)) pa_nil)))))))))))) pa_nil))))), sp_body h fun ss S r S' hg => ?_⟩)
  · obtain ⟨k, v, rfl, _⟩ := hg; rfl
  · obtain ⟨k, v, rfl, hk, rfl, rfl⟩ := hg
    refine sp_ret (S1 := S.set k (vatD (numF v).2)) (ev_call (ea_cons (ev_var rfl) (ea_cons (EvN.ev (en_lst (ds := NUMS.map Dat.int) (ea_cons ev_int (ea_cons ev_int (ea_cons (ev_un ev_int o_neg) (ea_cons ev_int (ea_cons ev_int (ea_cons (ev_un ev_int o_neg) (ea_cons ev_int (ea_cons (ev_op ev_int ev_int (o_powW ⟨by decide, by decide⟩)) (ea_cons (ev_un (ev_op ev_int ev_int (o_powW ⟨by decide, by decide⟩)) o_neg) (ea_cons (ev_op (ev_op ev_int ev_int (o_powW ⟨by decide, by decide⟩)) ev_int o_sub) (ea_cons (ev_op ev_int (ev_op ev_int ev_int (o_powW ⟨by decide, by decide⟩)) o_sub) ea_nil))))))))))) (by show 11 ≤ sizeLine; decide))) ea_nil)) ⟨k, v, NUMS, rfl, hk, by simp [NUMS], by simp [NUMS], rfl, rfl⟩) ⟨rfl, List.take_of_length_le (by simp)⟩
theorem ok__law_rows_drawn (T : Txt K mg) : FnOk P w K mg base CX0 4 T.a__law_rows_drawn T.d__law_rows_drawn ["pack", "length", "most"] (SpD K (gRowsD)) := by
  have G__law_dealt := ok__law_dealt (P := P) (w := w) (base := base) T
  have b__law_dealt := T.b__law_dealt
  have G__law_number_drawn := ok__law_number_drawn (P := P) (w := w) (base := base) T
  have b__law_number_drawn := T.b__law_number_drawn
  refine T.F__law_rows_drawn.ok sc__law_rows_drawn (spd_len (k := 3) fun ss S r S' hg => ?_) (fun cdv A outer s H vs Q E hr h => ⟨_, (pss_cons (ps_set (i := 3) sc__law_rows_drawn.nd rfl (by first | exact Or.inl rfl | exact Or.inr rfl) pe_dnewT) (pss_cons (ps_for PassesOwn.never rfl (pi_range1 (by rfl) T.n_range (pa_cons (pe_op op_add pe_int (pe_call G__law_dealt (hr.mono (by decide)) rfl T.m__law_dealt T.k__law_dealt b__law_dealt .nil pass0 (pa_cons (pv 0) (pa_cons (pv 2) pa_nil)))) pa_nil)) (pg_name (i := 4) sc__law_rows_drawn.nd rfl (by first | exact Or.inl rfl | exact Or.inr rfl)) (pss_one (ps_asg pe_bl (pg_sub (pv 3) (pe_callTy (call_tupK K rfl) (by rfl) T.n_tuple (by decide +kernel) (pa_cons (pe_lc (own := [("at", 5)]) rfl sc__law_rows_drawn.nd (pi_range1 (by rfl) T.n_range (pa_cons (pv 1) pa_nil)) (blkOk_by (own := [("at", 5)]) (N := ["pack", "length", "most", "found", "turn", "at"]) (sc := (defScope s__law_rows_drawn)) (by decide +kernel)) (fun _ _ _ _ _ => (pg_name (i := 5) sc__law_rows_drawn.nd rfl (by first | exact Or.inl rfl | exact Or.inr rfl))) (fun _ _ _ _ _ => pts_nil) (fun _ _ _ _ _ => (pe_call G__law_number_drawn (hr.mono (by decide)) rfl T.m__law_number_drawn T.k__law_number_drawn b__law_number_drawn .nil pass0 (pa_cons (pv 0) pa_nil)))) pa_nil)) (set_dict (Nat.lt_of_le_of_lt (Nat.add_le_add_left (by decide) _) hr.units)))))) (pss_one (ps_ret (pe_callTy (call_tupK K rfl) (by rfl) T.n_tuple (by decide +kernel) (pa_cons (pe_callB (RwS.cr_sortedDT rfl) (by rfl) T.n_sorted (by decide +kernel) (pa_cons (pv 3) pa_nil)) pa_nil)))))), sp_body h fun ss S r S' hg => ?_⟩)
  · obtain ⟨k, v, len, most, rfl, _⟩ := hg; rfl
  · obtain ⟨k, v, len, most, rfl, hk, n1, n8, m1, m40, rfl, rfl⟩ := hg
    have hkl : k < S.length := (List.getElem?_eq_some_iff.mp hk).1
    obtain ⟨hm, hm1, hm2⟩ := m_ok v m1
    refine sp_setD ?_
    refine sp_seq (P' := { nx := fun env' S2 => S2 = S.set k (vatD (rowsF v len most).2) ++ [.dic (keysF (rowsG v len most).1)] ∧ ∃ o1 o2, env' = [some (.c k), some (.d (.int len)), some (.d (.int most)), some (.c S.length), o1, o2] })
      (sp_forA (S1 := S.set k (vatD (drawF v most).2) ++ [.dic []]) (xs := List.range (1 + (drawF v most).1).toNat) (g := fun i => Dat.int (0 + (i : Nat))) (it_rangeN (m := (1 + (drawF v most).1).toNat) (ea_cons ((ev_op ev_int (ev_call (S2 := S.set k (vatD (drawF v most).2) ++ [.dic []]) (ea_cons (ev_var rfl) (ea_cons (ev_var rfl) ea_nil)) ⟨k, v, most, rfl, by rw [List.getElem?_append_left hkl]; exact hk, by omega, by omega, rfl, by rw [List.set_append_left _ _ hkl]⟩) o_add).to (by rw [← hm])) ea_nil) (by omega)) (fun i env' S2 => S2 = S.set k (vatD (foldF (fun v _ => rowN v len) ((List.range (1 + (drawF v most).1).toNat).take i) (drawF v most).2).2) ++ [.dic (keysF ((rowsG v len most).1.take i))] ∧ ∃ o1 o2, env' = [some (.c k), some (.d (.int len)), some (.d (.int most)), some (.c S.length), o1, o2]) ⟨rfl, none, none, rfl⟩ (fun _ _ _ _ _ _ _ _ _ => trivial) ?_ ?_) ?_
    · rintro i a env' S2 ha ⟨rfl, o1, o2, rfl⟩
      refine ⟨[4], fun env => env.set 4 (some (.d (.int (0 + (a : Nat))))), tg_name, ?_⟩
      have hb2 := foldF_get (fun v _ => rowN v len) _ (drawF v most).2 i a ha
      have hs2 := foldF_step (fun v _ => rowN v len) _ (drawF v most).2 i a ha
      rw [hs2]
      change (rowsG v len most).1[i]? = _ at hb2
      obtain ⟨hi, e⟩ := List.getElem?_eq_some_iff.mp hb2
      have hi2 := rowsG_len v len most
      rw [List.take_succ_eq_append_getElem hi, e, keysF_add]
      have hkl2 : (keysF ((rowsG v len most).1.take i)).length ≤ 40 := by
        have h3 : (keysF ((rowsG v len most).1.take i)).length ≤ 0 + ((rowsG v len most).1.take i).length := (keys_ok _ [] (by simp)).2.2
        rw [List.length_take] at h3
        omega
      generalize (foldF (fun v _ => rowN v len) ((List.range (1 + (drawF v most).1).toNat).take i) (drawF v most).2).2 = vi
      have hki : (S.set k (vatD vi) ++ [.dic (keysF ((rowsG v len most).1.take i))])[k]? = some (vatD vi) := gk hkl
      refine sp_stD1 (S3 := S.set k (vatD (rowN vi len).2) ++ [.dic (keysF ((rowsG v len most).1.take i))]) ev_bl (ev_var rfl) ((en_rowN hki (ev_var rfl) (by omega) rfl (by decide)).toS (sk hkl)) gn (Nat.lt_of_le_of_lt hkl2 (by rw [sizeLine_eq]; decide)) ⟨by rw [sn], _, _, rfl⟩
    · rintro env' S2 ⟨rfl, o1, o2, rfl⟩
      refine ⟨?_, o1, o2, rfl⟩
      rw [List.take_of_length_le (Nat.le_refl _), List.take_of_length_le (by rw [rowsG_len, List.length_range]; exact Nat.le_refl _)]
      rfl
    · rintro env' S2 ⟨rfl, o1, o2, rfl⟩
      have hkey := keysG_rw v len most
      have hkl2 : (keysF (rowsG v len most).1).length ≤ 40 := by
        have h3 : (keysF (rowsG v len most).1).length ≤ 0 + (rowsG v len most).1.length := (keys_ok _ [] (by simp)).2.2
        rw [rowsG_len] at h3
        omega
      refine sp_ret (d := layD (rowsF v len most).1) (ev_cb (ea_cons (EvN.ev (en_sortD (dn := len) (rows := (rowsF v len most).1) (ev_var rfl) gn n1 (fun r hr => (hkey r hr).1) (by omega) (sortF_uniq fun r hr => (hkey r hr).1))) ea_nil) (cd_tup .lst)) ⟨rfl, ?_⟩
      rw [List.take_append_of_le_length (by simp), List.take_of_length_le (by simp)]
end
end N85

set_option Elab.async false
set_option linter.all false
set_option maxRecDepth 100000
set_option maxHeartbeats 4000000
namespace N85
open PySem PySem.Spec PyProof.Rows L2 RW

theorem WL.snoc : ∀ {L : Lays} {w : Nat} {l : List (List Int)}, WL w L → (1 ≤ l.length ∧ l.length ≤ 64 ∧ ∀ u ∈ l, Rw u (w + L.flatten.length)) → WL w (L ++ [l])
  | [], w, l, _, h => by simpa [WL] using h
  | m :: L, w, l, h, h2 => by
    refine ⟨h.1, WL.snoc h.2 ?_⟩
    rw [Nat.add_assoc, ← List.length_append, ← List.flatten_cons]
    exact h2
def layF (v : Vt) (seen : Nat) : List (List Int) × Vt := foldF (fun v _ => rowN v seen) (List.range (1 + (drawF v 3).1).toNat) (drawF v 3).2
def LF (n : Nat) (v : Vt) : Nat → Lays × Vt
  | 0 => ([], v)
  | d + 1 => ((LF n v d).1 ++ [(layF (LF n v d).2 (n + (LF n v d).1.flatten.length)).1], (layF (LF n v d).2 (n + (LF n v d).1.flatten.length)).2)
theorem layF_len (v : Vt) (seen : Nat) : (layF v seen).1.length = (1 + (drawF v 3).1).toNat := by unfold layF; rw [foldF_len, List.length_range]
theorem many_ok (v : Vt) : (1 + (drawF v 3).1 = ((1 + (drawF v 3).1).toNat : Int)) ∧ 1 ≤ (1 + (drawF v 3).1).toNat ∧ (1 + (drawF v 3).1).toNat ≤ 3 := by
  have h1 := draw_nn v (t := 3) (by omega)
  have h2 := draw_lt v (t := 3) (by omega)
  omega
theorem layF_rw (v : Vt) (seen : Nat) : ∀ u ∈ (layF v seen).1, Rw u seen := foldF_mem (p := fun r => Rw r seen) _ _ fun v a _ => rowN_rw v seen
theorem LF_ok (n : Nat) (v : Vt) : ∀ d, (LF n v d).1.length = d ∧ (LF n v d).1.flatten.length ≤ 3 * d ∧ WL n (LF n v d).1
  | 0 => ⟨rfl, Nat.le_refl _, trivial⟩
  | d + 1 => by
    obtain ⟨h1, h2, h3⟩ := LF_ok n v d
    have hm := many_ok (LF n v d).2
    have hl := layF_len (LF n v d).2 (n + (LF n v d).1.flatten.length)
    refine ⟨by rw [LF, List.length_append, h1]; rfl, ?_, h3.snoc ⟨by omega, by omega, layF_rw _ _⟩⟩
    rw [LF, List.flatten_append, List.length_append]
    simp only [List.flatten_cons, List.flatten_nil, List.append_nil]
    omega
def pkF (v : Vt) : Int × Vt := pickF v [2, 8]
def inF (v : Vt) : Nat := (1 + (drawF (pkF v).2 (pkF v).1).1).toNat
def v2F (v : Vt) : Vt := (drawF (pkF v).2 (pkF v).1).2
def dF (v : Vt) : Nat := (drawF (v2F v) 5).1.toNat
def v3F (v : Vt) : Vt := (drawF (v2F v) 5).2
def lays (v : Vt) : Lays := (LF (inF v) (v3F v) (dF v)).1
def v4F (v : Vt) : Vt := (LF (inF v) (v3F v) (dF v)).2
def lastF (v : Vt) : List Int := (rowN (v4F v) (inF v + (lays v).flatten.length)).1
def v5F (v : Vt) : Vt := (rowN (v4F v) (inF v + (lays v).flatten.length)).2
theorem pk_ok (v : Vt) : 0 < (pkF v).1 ∧ (pkF v).1 ≤ 8 := by
  have h0 := pick_in v (ns := [2, 8]) (by simp)
  have hb : ∀ x ∈ ([2, 8] : List Int), 0 < x ∧ x ≤ 8 := by decide
  exact hb _ h0
theorem in_ok (v : Vt) : (1 + (drawF (pkF v).2 (pkF v).1).1 = (inF v : Int)) ∧ 1 ≤ inF v ∧ inF v ≤ 8 := by
  have := pk_ok v
  have h1 := draw_nn (pkF v).2 (t := (pkF v).1) (by omega)
  have h2 := draw_lt (pkF v).2 (t := (pkF v).1) (by omega)
  unfold inF
  omega
theorem d_ok (v : Vt) : ((drawF (v2F v) 5).1 = (dF v : Int)) ∧ dF v ≤ 4 := by
  have h1 := draw_nn (v2F v) (t := 5) (by omega)
  have h2 := draw_lt (v2F v) (t := 5) (by omega)
  unfold dF
  omega
theorem parts_ok (v : Vt) : NOk (inF v) (lays v) (lastF v) := by
  obtain ⟨h1, h2, h3⟩ := LF_ok (inF v) (v3F v) (dF v)
  obtain ⟨_, i1, i8⟩ := in_ok v
  have hd := (d_ok v).2
  exact ⟨⟨i1, i8, by show (LF _ _ _).1.length ≤ 4; omega, h3, by show (LF _ _ _).1.flatten.length ≤ 128; omega, rowN_rw _ _⟩, by show (LF _ _ _).1.flatten.length ≤ 20; omega⟩
def gPartsD (ss : List Sl) (S : List Dat) (r : Dat) (S' : List Dat) : Prop := ∃ (k : Nat) (v : Vt), ss = [.c k] ∧ S[k]? = some (vatD v) ∧ r = .tup [.int (inF v), laysD (lays v), rowD (lastF v)] ∧ S' = S.set k (vatD (v5F v))
def gJoined (ss : List Sl) (S : List Dat) (r : Dat) (S' : List Dat) : Prop := ∃ ls : List Str, ss = [.d (strsD ls)] ∧ TOK ls ∧ r = .str (textS ls) ∧ S' = S
def gNetL (ss : List Sl) (S : List Dat) (r : Dat) (S' : List Dat) : Prop := ∃ (n : Nat) (L : Lays) (last : List Int), ss = [.d (.int n), .d (laysD L), .d (rowD last)] ∧ NOk n L last ∧ r = strsD (netLs n L last) ∧ S' = S
/-- the rows of a layer -/
theorem en_layF {K : PySem.W.Frag} {env : Env1} {S : List Dat} {k m seen : Nat} {v : Vt} (hk : S[k]? = some (vatD v)) (hm : m ≤ 1000) (hn : seen ≤ 1000) (h0 : env[0]? = some (some (.c k))) (h3 : env[3]? = some (some (.d (.int seen)))) (h5 : env[5]? = some (some (.d (.int m)))) :
    EvN K (tLc (iRng1 (tCons (tVar 5) tNil)) (gName 7) tYes (tCB (rTupD K) (tCons (tLc (iRng1 (tCons (tVar 3) tNil)) (gName 6) tYes (tCall (SpD K gNum) [] E0 (tCons (tVar 0) tNil)) [6]) tNil)) [7]) env S ((foldF (fun v _ => rowN v seen) (List.range m) v).1.map rowD) (S.set k (vatD (foldF (fun v _ => rowN v seen) (List.range m) v).2)) := by
  have hz : (List.range m).length ≤ sizeLine := size_1000 (by rw [List.length_range]; exact hm)
  have hN := en_fold (K := K) (te := tCB (rTupD K) (tCons (tLc (iRng1 (tCons (tVar 3) tNil)) (gName 6) tYes (tCall (SpD K gNum) [] E0 (tCons (tVar 0) tNil)) [6]) tNil)) (env := env) (S := S) (xs := List.range m) (g := fun i => Dat.int (0 + (i : Nat))) (es := (foldF (fun v _ => rowN v seen) (List.range m) v).1) rowD (fun i => S.set k (vatD (foldF (fun v _ => rowN v seen) ((List.range m).take i) v).2)) (wi := iRng1 (tCons (tVar 5) tNil)) (tg := gName 7) (vs := [7]) (G := G0) (is := [7]) ?_ hz (by rw [foldF_len, List.length_range]) (fun _ _ _ => trivial) (fun i => by simp) (by simp) (fun x env => env.set 7 (some (.d (.int (0 + (x : Nat)))))) (fun q a b ha hb => ⟨tg_name, ?_⟩)
  · rw [List.take_of_length_le (Nat.le_refl _)] at hN
    exact hN
  · show IterD K _ _ S G0 _ (S.set k (vatD v))
    rw [set_id hk]
    exact it_rangeN (ea_cons (ev_var h5) ea_nil) hm
  · have hb2 := foldF_get (fun v _ => rowN v seen) (List.range m) v q a ha
    have hs2 := foldF_step (fun v _ => rowN v seen) (List.range m) v q a ha
    rw [hs2]
    have e : b = (rowN (foldF (fun v _ => rowN v seen) ((List.range m).take q) v).2 seen).1 := Option.some.inj (hb.symm.trans hb2)
    subst e
    generalize (foldF (fun v _ => rowN v seen) ((List.range m).take q) v).2 = vi
    refine ev_cb (ea_cons (EvN.ev ((en_rowN (set_get hk) (ev_var ?_) hn ?_ (by decide)).toS (by rw [List.set_set]))) ea_nil) (cd_tup .lst)
    · simp [wipeE, h3]
    · simp [wipeE, h0]
section
variable {P : Program} {w : World} {K : PySem.W.Frag} {mg : Str → Option Value} {base : Heap}

theorem ok__law_parts_drawn (T : Txt K mg) : FnOk P w K mg base CX0 4 T.a__law_parts_drawn T.d__law_parts_drawn ["pack"] (SpD K (gPartsD)) := by
  have G__law_dealt := ok__law_dealt (P := P) (w := w) (base := base) T
  have b__law_dealt := T.b__law_dealt
  have G__law_one_of := ok__law_one_of (P := P) (w := w) (base := base) T
  have b__law_one_of := T.b__law_one_of
  have G__law_number_drawn := ok__law_number_drawn (P := P) (w := w) (base := base) T
  have b__law_number_drawn := T.b__law_number_drawn
  refine T.F__law_parts_drawn.ok sc__law_parts_drawn (spd_len (k := 1) fun ss S r S' hg => ?_) (fun cdv A outer s H vs Q E hr h => ⟨_, (pss_cons (ps_par (i := 1) (j := 2) rfl sc__law_parts_drawn.nd rfl rfl (by decide) rfl rfl (pa_cons (pe_op op_add pe_int (pe_call G__law_dealt (hr.mono (by decide)) rfl T.m__law_dealt T.k__law_dealt b__law_dealt .nil pass0 (pa_cons (pv 0) (pa_cons (pe_call G__law_one_of (hr.mono (by decide)) rfl T.m__law_one_of T.k__law_one_of b__law_one_of .nil pass0 (pa_cons (pv 0) (pa_cons (pe_lst (pa_cons pe_int (pa_cons pe_int pa_nil))) pa_nil))) pa_nil)))) (pa_cons (pe_lst pa_nil) pa_nil)) (by rfl)) (pss_cons (ps_set (i := 3) sc__law_parts_drawn.nd rfl (by first | exact Or.inl rfl | exact Or.inr rfl) (pv 1)) (pss_cons (ps_for PassesOwn.never rfl (pi_range1 (by rfl) T.n_range (pa_cons (pe_call G__law_dealt (hr.mono (by decide)) rfl T.m__law_dealt T.k__law_dealt b__law_dealt .nil pass0 (pa_cons (pv 0) (pa_cons pe_int pa_nil))) pa_nil)) (pg_name (i := 4) sc__law_parts_drawn.nd rfl (by first | exact Or.inl rfl | exact Or.inr rfl)) (pss_cons (ps_set (i := 5) sc__law_parts_drawn.nd rfl (by first | exact Or.inl rfl | exact Or.inr rfl) (pe_op op_add pe_int (pe_call G__law_dealt (hr.mono (by decide)) rfl T.m__law_dealt T.k__law_dealt b__law_dealt .nil pass0 (pa_cons (pv 0) (pa_cons pe_int pa_nil))))) (pss_cons (ps_expr (pe_bm PySem.F.plainAttrs_list PySem.F.slot_list_append PySem.F.type_list_append mt_append (pv 2) (pa_cons (pe_callTy (call_tupK K rfl) (by rfl) T.n_tuple (by decide +kernel) (pa_cons (pe_lc (own := [("unit", 7)]) rfl sc__law_parts_drawn.nd (pi_range1 (by rfl) T.n_range (pa_cons (pv 5) pa_nil)) (blkOk_by (own := [("unit", 7)]) (N := ["pack", "inputs", "layers", "seen", "turn", "many", "at", "unit"]) (sc := (defScope s__law_parts_drawn)) (by decide +kernel)) (fun _ _ _ _ _ => (pg_name (i := 7) sc__law_parts_drawn.nd rfl (by first | exact Or.inl rfl | exact Or.inr rfl))) (fun _ _ _ _ _ => pts_nil) (fun _ _ _ _ _ => (pe_callTy (call_tupK K rfl) (by rfl) T.n_tuple (by decide +kernel) (pa_cons (pe_lc (own := [("at", 6)]) rfl sc__law_parts_drawn.nd (pi_range1 (by rfl) T.n_range (pa_cons (pv 3) pa_nil)) (blkOk_by (own := [("at", 6)]) (N := ["pack", "inputs", "layers", "seen", "turn", "many", "at", "unit"]) (sc := scC__law_parts_drawn_unit) (by decide +kernel)) (fun _ _ _ _ _ => (pg_name (i := 6) sc__law_parts_drawn.nd rfl (by first | exact Or.inl rfl | exact Or.inr rfl))) (fun _ _ _ _ _ => pts_nil) (fun _ _ _ _ _ => (pe_call G__law_number_drawn (hr.mono (by decide)) rfl T.m__law_number_drawn T.k__law_number_drawn b__law_number_drawn .nil pass0 (pa_cons (pv 0) pa_nil)))) pa_nil)))) pa_nil)) pa_nil))) (pss_one (ps_set (i := 3) sc__law_parts_drawn.nd rfl (by first | exact Or.inl rfl | exact Or.inr rfl) (pe_op op_add (pv 3) (pv 5))))))) (pss_one (ps_ret (pe_tup (pa_cons (pv 1) (pa_cons (pe_callTy (call_tupK K rfl) (by rfl) T.n_tuple (by decide +kernel) (pa_cons (pv 2) pa_nil)) (pa_cons (pe_callTy (call_tupK K rfl) (by rfl) T.n_tuple (by decide +kernel) (pa_cons (pe_lc (own := [("at", 6)]) rfl sc__law_parts_drawn.nd (pi_range1 (by rfl) T.n_range (pa_cons (pv 3) pa_nil)) (blkOk_by (own := [("at", 6)]) (N := ["pack", "inputs", "layers", "seen", "turn", "many", "at", "unit"]) (sc := (defScope s__law_parts_drawn)) (by decide +kernel)) (fun _ _ _ _ _ => (pg_name (i := 6) sc__law_parts_drawn.nd rfl (by first | exact Or.inl rfl | exact Or.inr rfl))) (fun _ _ _ _ _ => pts_nil) (fun _ _ _ _ _ => (pe_call G__law_number_drawn (hr.mono (by decide)) rfl T.m__law_number_drawn T.k__law_number_drawn b__law_number_drawn .nil pass0 (pa_cons (pv 0) pa_nil)))) pa_nil)) pa_nil))))))))), sp_body h fun ss S r S' hg => ?_⟩)
  · obtain ⟨k, v, rfl, _⟩ := hg; rfl
  · obtain ⟨k, v, rfl, hk, rfl, rfl⟩ := hg
    have hkl : k < S.length := (List.getElem?_eq_some_iff.mp hk).1
    obtain ⟨hin, i1, i8⟩ := in_ok v
    obtain ⟨hpk, hpk8⟩ := pk_ok v
    obtain ⟨hd, hd4⟩ := d_ok v
    refine sp_parVC (S1 := S.set k (vatD (v2F v))) (S2 := S.set k (vatD (v2F v))) (y := .d (.int (inF v))) ((ev_op ev_int (ev_call (ea_cons (ev_var rfl) (ea_cons (ev_call (S2 := S.set k (vatD (pkF v).2)) (ea_cons (ev_var rfl) (ea_cons (EvN.ev (en_lst (ds := [2, 8].map Dat.int) (ea_cons ev_int (ea_cons ev_int ea_nil)) (by show 2 ≤ sizeLine; decide))) ea_nil)) ⟨k, v, [2, 8], rfl, hk, by simp, by simp, rfl, rfl⟩) ea_nil)) ⟨k, (pkF v).2, (pkF v).1, rfl, set_get hk, hpk, by omega, rfl, by rw [List.set_set]; rfl⟩) o_add).to (by rw [← hin])) (en_lst (ds := []) ea_nil (szl (by decide))) ?_
    rw [List.length_set]
    refine sp_set (ev_var rfl) ?_
    refine sp_seq (P' := { nx := fun env' S2 => S2 = S.set k (vatD (v4F v)) ++ [.lst ((lays v).map layD)] ∧ ∃ o1 o2, env' = [some (.c k), some (.d (.int (inF v))), some (.c S.length), some (.d (.int (inF v + (lays v).flatten.length : Nat))), o1, o2, none, none] })
      (sp_forA (S1 := S.set k (vatD (v3F v)) ++ [.lst []]) (xs := List.range (dF v)) (g := fun i => Dat.int (0 + (i : Nat))) (it_rangeN (m := dF v) (ea_cons ((ev_call (S2 := S.set k (vatD (v3F v)) ++ [.lst []]) (ea_cons (ev_var rfl) (ea_cons ev_int ea_nil)) ⟨k, v2F v, 5, rfl, gk hkl, by omega, by omega, rfl, by rw [sk hkl]; rfl⟩).to (by rw [← hd])) ea_nil) (by omega)) (fun i env' S2 => S2 = S.set k (vatD (LF (inF v) (v3F v) i).2) ++ [.lst ((LF (inF v) (v3F v) i).1.map layD)] ∧ ∃ o1 o2, env' = [some (.c k), some (.d (.int (inF v))), some (.c S.length), some (.d (.int (inF v + (LF (inF v) (v3F v) i).1.flatten.length : Nat))), o1, o2, none, none]) ⟨rfl, none, none, rfl⟩ (fun _ _ _ _ _ _ _ _ _ => trivial) ?_ ?_) ?_
    · rintro i a env' S2 ha ⟨rfl, o1, o2, rfl⟩
      refine ⟨[4], fun env => env.set 4 (some (.d (.int (0 + (a : Nat))))), tg_name, ?_⟩
      have hi : i < dF v := by have := (List.getElem?_eq_some_iff.mp ha).1; rwa [List.length_range] at this
      obtain ⟨f1, f2, f3⟩ := LF_ok (inF v) (v3F v) i
      have hl := layF_len (LF (inF v) (v3F v) i).2 (inF v + (LF (inF v) (v3F v) i).1.flatten.length)
      rw [LF]
      generalize hvi : (LF (inF v) (v3F v) i).2 = vi at hl ⊢
      generalize (LF (inF v) (v3F v) i).1 = Li at f1 f2 hl ⊢
      obtain ⟨m1, m2, m3⟩ := many_ok vi
      refine sp_set (x := .d (.int ((1 + (drawF vi 3).1).toNat : Nat))) (S1 := S.set k (vatD (drawF vi 3).2) ++ [.lst (Li.map layD)]) ((ev_op ev_int (ev_call (ea_cons (ev_var rfl) (ea_cons ev_int ea_nil)) ⟨k, vi, 3, rfl, gk hkl, by omega, by omega, rfl, by rw [sk hkl]⟩) o_add).to (by rw [← m1])) ?_
      refine sp_drop (S1 := S.set k (vatD (layF vi (inF v + Li.flatten.length)).2) ++ [.lst ((Li ++ [(layF vi (inF v + Li.flatten.length)).1]).map layD)]) ((ev_append (ev_var rfl) (ev_cb (ea_cons (EvN.ev ((en_layF (gk hkl) (by omega) (by omega) rfl rfl rfl).toS (sk hkl))) ea_nil) (cd_tup .lst)) ⟨_, gn⟩ gn (Nat.lt_of_lt_of_le (m := 200) (by rw [List.length_map]; omega) (szl (by decide)))).toS ?_) ?_
      · rw [sn, List.map_append]; rfl
      · refine sp_set1 (ev_op (ev_var rfl) (ev_var rfl) o_add) ⟨rfl, some (.d (.int (0 + (a : Nat)))), some (.d (.int ((1 + (drawF vi 3).1).toNat : Nat))), ?_⟩
        have e : ((inF v + (Li ++ [(layF vi (inF v + Li.flatten.length)).1]).flatten.length : Nat) : Int) = ((inF v + Li.flatten.length : Nat) : Int) + ((1 + (drawF vi 3).1).toNat : Nat) := by
          rw [List.flatten_append, List.length_append]
          simp only [List.flatten_cons, List.flatten_nil, List.append_nil]
          rw [hl]
          omega
        rw [show inF v + (Li ++ [(layF vi (inF v + Li.flatten.length)).1]).flatten.length = inF v + (Li ++ [(layF vi (inF v + Li.flatten.length)).1]).flatten.length from rfl, e]
        rfl
    · rintro env' S2 ⟨rfl, o1, o2, rfl⟩
      rw [List.length_range]
      exact ⟨rfl, _, _, rfl⟩
    · rintro env' S2 ⟨rfl, o1, o2, rfl⟩
      have hfew := (parts_ok v).few
      refine sp_ret (S1 := S.set k (vatD (v5F v)) ++ [.lst ((lays v).map layD)]) (ev_tup (ds := [.int (inF v), laysD (lays v), rowD (lastF v)]) (ea_cons (ev_var rfl) (ea_cons (ev_cb (ea_cons (ev_var rfl) ea_nil) (cd_tup (.cell gn))) (ea_cons (ev_cb (ea_cons (EvN.ev ((en_rowN (m := inF v + (lays v).flatten.length) (gk hkl) (ev_var rfl) (by omega) rfl (by decide)).toS (sk hkl))) ea_nil) (cd_tup .lst)) ea_nil))) (by show 3 ≤ sizeLine; decide)) ⟨rfl, ?_⟩
      rw [List.take_append_of_le_length (by simp), List.take_of_length_le (by simp)]
theorem ok__law_line (T : Txt K mg) : FnOk P w K mg base CX0 1 T.a__law_line T.d__law_line ["row"] (SpD K (gRowL)) := by
  refine T.F__law_line.ok sc__law_line (spd_len (k := 1) fun ss S r S' hg => ?_) (fun cdv A outer s H vs Q E hr h => ⟨_, (pss_one (ps_ret (pe_op op_addS pe_str (pe_joinK K pe_str (pe_lc (own := [("one", 1)]) rfl sc__law_line.nd (pi_seqK K (pv 0)) (blkOk_by (own := [("one", 1)]) (N := ["row", "one"]) (sc := (defScope s__law_line)) (by decide +kernel)) (fun _ _ _ _ _ => (pg_name (i := 1) sc__law_line.nd rfl (by first | exact Or.inl rfl | exact Or.inr rfl))) (fun _ _ _ _ _ => pts_nil) (fun _ _ _ _ _ => (pe_callTy call_strI (by rfl) T.n_str (by decide +kernel) (pa_cons (pv 1) pa_nil)))))))), sp_body h fun ss S r S' hg => ?_⟩)
  · obtain ⟨i, rfl, _⟩ := hg; rfl
  · obtain ⟨u, rfl, hu, hl, rfl, rfl⟩ := hg
    have hj := line_join_len hu
    have hll := line_len hu
    refine sp_ret (d := .str (lineS u)) (ev_op ev_str (ev_join (ys := u.map numS) (x := .d (.lst ((u.map numS).map Dat.str))) ev_str (EvN.ev (EvN.toD (en_mapA (xs := u) (g := Dat.int) (is := [1]) (fun i => Dat.str (numS i)) (it_tup (ev_var rfl)) (szl (by omega)) (fun _ _ => trivial) (by decide) (fun i env => env.set 1 (some (.d (.int i)))) fun i hi => ⟨tg_name, ?_⟩) ?_)) .lst ?_) (o_addS ?_)) ⟨rfl, List.take_length⟩
    · exact ev_cb (ea_cons (ev_var rfl) ea_nil) (cd_strI (fits (hu i hi)))
    · rw [List.map_map]; rfl
    · rw [List.length_map, lnS (k := 1) rfl]
      omega
    · have : (Txt.join (Str.ofString " ") (u.map numS)).length ≤ (u.map numS).length * (61 + (Str.ofString " ").length) := join_len fun p hp => by
        obtain ⟨i, hi, rfl⟩ := List.mem_map.mp hp
        exact numS_len (hu i hi)
      rw [List.length_map, lnS (s := " ") (k := 1) rfl] at this
      rw [lnS (k := 2) rfl]
      exact szl (by omega)
theorem ok__law_joined (T : Txt K mg) : FnOk P w K mg base CX0 1 T.a__law_joined T.d__law_joined ["lines"] (SpD K (gJoined)) := by
  refine T.F__law_joined.ok sc__law_joined (spd_len (k := 1) fun ss S r S' hg => ?_) (fun cdv A outer s H vs Q E hr h => ⟨_, (pss_one (ps_ret (pe_joinK K pe_str (pe_lc (own := [("line", 1)]) rfl sc__law_joined.nd (pi_seqK K (pv 0)) (blkOk_by (own := [("line", 1)]) (N := ["lines", "line"]) (sc := (defScope s__law_joined)) (by decide +kernel)) (fun _ _ _ _ _ => (pg_name (i := 1) sc__law_joined.nd rfl (by first | exact Or.inl rfl | exact Or.inr rfl))) (fun _ _ _ _ _ => pts_nil) (fun _ _ _ _ _ => (pe_op op_addS (pv 1) pe_str)))))), sp_body h fun ss S r S' hg => ?_⟩)
  · obtain ⟨i, rfl, _⟩ := hg; rfl
  · obtain ⟨ls, rfl, hk, rfl, rfl⟩ := hg
    have h2 := hk.n
    refine sp_ret (d := .str (textS ls)) ((ev_join (ys := ls.map fun l => l ++ Str.ofString "\n") (x := .d (.lst ((ls.map fun l => l ++ Str.ofString "\n").map Dat.str))) ev_str (EvN.ev (EvN.toD (en_mapA (xs := ls) (g := Dat.str) (is := [1]) (fun l => Dat.str (l ++ Str.ofString "\n")) (it_lst (ev_var rfl)) (szl (by omega)) (fun _ _ => trivial) (by decide) (fun l env => env.set 1 (some (.d (.str l)))) fun l hl => ⟨tg_name, ?_⟩) ?_)) .lst ?_).to (by rw [joined_eq hk.ne])) ⟨rfl, List.take_length⟩
    · refine ev_op (ev_var rfl) ev_str (o_addS ?_)
      have := hk.len l hl
      rw [lnS (s := "\n") (k := 1) rfl]
      exact szl (by omega)
    · rw [List.map_map]; rfl
    · rw [lnS (s := "") (k := 0) rfl]
      have h3 : ((ls.map fun l => l ++ Str.ofString "\n").map fun x => x.length).sum ≤ (ls.map fun l => l ++ Str.ofString "\n").length * 2001 := lens_le fun p hp => by
        obtain ⟨l, hl, rfl⟩ := List.mem_map.mp hp
        have h4 := hk.len l hl
        rw [TL.len_tl, TL.tl_append, List.length_append, ← TL.len_tl, ← TL.len_tl, lnS (s := "\n") (k := 1) rfl]
        omega
      rw [List.length_map] at h3
      have : ls.length * 2001 ≤ 100 * 2001 := Nat.mul_le_mul_right _ h2
      omega
theorem ok__law_network_lines (T : Txt K mg) : FnOk P w K mg base CX0 2 T.a__law_network_lines T.d__law_network_lines ["inputs", "layers", "last"] (SpD K (gNetL)) := by
  have G__law_line := ok__law_line (P := P) (w := w) (base := base) T
  have b__law_line := T.b__law_line
  refine T.F__law_network_lines.ok sc__law_network_lines (spd_len (k := 3) fun ss S r S' hg => ?_) (fun cdv A outer s H vs Q E hr h => ⟨_, (pss_cons (ps_set (i := 3) sc__law_network_lines.nd rfl (by first | exact Or.inl rfl | exact Or.inr rfl) (pe_lst (pa_cons (pe_op op_addS pe_str (pe_callTy call_strI (by rfl) T.n_str (by decide +kernel) (pa_cons (pv 0) pa_nil))) pa_nil))) (pss_cons (ps_for PassesOwn.never rfl (pi_seqK K (pv 1)) (pg_name (i := 4) sc__law_network_lines.nd rfl (by first | exact Or.inl rfl | exact Or.inr rfl)) (pss_one (ps_set (i := 3) sc__law_network_lines.nd rfl (by first | exact Or.inl rfl | exact Or.inr rfl) (pe_op op_cat (pe_op op_cat (pv 3) (pe_lst (pa_cons pe_str pa_nil))) (pe_lc (own := [("unit", 5)]) rfl sc__law_network_lines.nd (pi_seqK K (pv 4)) (blkOk_by (own := [("unit", 5)]) (N := ["inputs", "layers", "last", "found", "layer", "unit"]) (sc := (defScope s__law_network_lines)) (by decide +kernel)) (fun _ _ _ _ _ => (pg_name (i := 5) sc__law_network_lines.nd rfl (by first | exact Or.inl rfl | exact Or.inr rfl))) (fun _ _ _ _ _ => pts_nil) (fun _ _ _ _ _ => (pe_call G__law_line (hr.mono (by decide)) rfl T.m__law_line T.k__law_line b__law_line .nil pass0 (pa_cons (pv 5) pa_nil)))))))) (pss_one (ps_ret (pe_op op_cat (pv 3) (pe_lst (pa_cons pe_str (pa_cons (pe_call G__law_line (hr.mono (by decide)) rfl T.m__law_line T.k__law_line b__law_line .nil pass0 (pa_cons (pv 2) pa_nil)) (pa_cons pe_str pa_nil))))))))), sp_body h fun ss S r S' hg => ?_⟩)
  · obtain ⟨n, L, last, rfl, _⟩ := hg; rfl
  · obtain ⟨n, L, last, rfl, hk, rfl, rfl⟩ := hg
    have l4 := hk.wf.l4
    have n8 := hk.wf.n8
    have few := hk.few
    obtain ⟨r1, r2, r3⟩ := hk.row
    have hn : Sh (n : Int) := by unfold Sh; omega
    have hd : (Str.ofString "network " ++ numS n).length ≤ 100 := by
      have := numS_len hn
      rw [TL.len_tl, TL.tl_append, List.length_append, ← TL.len_tl, ← TL.len_tl, lnS (k := 8) rfl]
      omega
    have hfl : ∀ i, ([Str.ofString "network " ++ numS n] ++ (L.take i).flatMap fml).length ≤ 30 := fun i => by
      rw [List.length_append, fm_len2, List.length_take]
      have : (L.take i).flatten.length ≤ L.flatten.length := by
        conv => rhs; rw [← List.take_append_drop i L, List.flatten_append, List.length_append]
        omega
      simp only [List.length_cons, List.length_nil]
      omega
    refine sp_set (x := .d (strsD ([Str.ofString "network " ++ numS n] ++ (L.take 0).flatMap fml))) (S1 := S') (EvN.ev (en_lst (ds := [.str (Str.ofString "network " ++ numS n)]) (ea_cons (ev_op ev_str (ev_cb (ea_cons (ev_var rfl) ea_nil) (cd_strI (fits hn))) (o_addS ?_)) ea_nil) (by show 1 ≤ sizeLine; decide))) ?_
    · refine szl ?_
      have := numS_len hn
      rw [lnS (k := 8) rfl]
      show 8 + (numS n).length ≤ _
      omega
    refine sp_seq (P' := { nx := fun env' S2 => S2 = S' ∧ ∃ o1 o2, env' = [some (.d (.int n)), some (.d (laysD L)), some (.d (rowD last)), some (.d (strsD ([Str.ofString "network " ++ numS n] ++ L.flatMap fml))), o1, o2] })
      (sp_forA (xs := L) (g := layD) (it_tup (ev_var rfl)) (fun i env' S2 => S2 = S' ∧ ∃ o1 o2, env' = [some (.d (.int n)), some (.d (laysD L)), some (.d (rowD last)), some (.d (strsD ([Str.ofString "network " ++ numS n] ++ (L.take i).flatMap fml))), o1, o2]) ⟨rfl, none, none, rfl⟩ (fun _ _ _ _ _ _ _ _ _ => trivial) ?_ ?_) ?_
    · rintro i l env' S2 hl ⟨rfl, o1, o2, rfl⟩
      refine ⟨[4], fun env => env.set 4 (some (.d (layD l))), tg_name, ?_⟩
      have hl2 := hfl i
      have hl3 := hfl (i + 1)
      have hmem := List.mem_of_getElem? hl
      have e : strsD ([Str.ofString "network " ++ numS n] ++ (L.take (i + 1)).flatMap fml) = .lst ((([Str.ofString "network " ++ numS n] ++ (L.take i).flatMap fml).map Dat.str ++ [.str (Str.ofString "layer")]) ++ l.map fun u => .str (lineS u)) := by
        have hlt := (List.getElem?_eq_some_iff.mp hl).1
        have e2 : L[i] = l := (List.getElem?_eq_some_iff.mp hl).2
        rw [List.take_succ_eq_append_getElem hlt, e2, List.flatMap_append, List.flatMap_singleton, ← List.append_assoc, strsD, List.map_append, List.append_assoc]
        congr 2
        show Dat.str (Str.ofString "layer") :: (l.map lineS).map Dat.str = Dat.str (Str.ofString "layer") :: l.map fun u => .str (lineS u)
        rw [List.map_map]; rfl
      have hft := flat_len_take hl
      have hff : (L.take (i + 1)).flatten.length ≤ L.flatten.length := by
        conv => rhs; rw [← List.take_append_drop (i + 1) L, List.flatten_append, List.length_append]
        omega
      have hll : l.length ≤ 20 := by omega
      refine sp_set1 (x := .d (strsD ([Str.ofString "network " ++ numS n] ++ (L.take (i + 1)).flatMap fml))) (S1 := S2) ?_ ⟨rfl, _, _, rfl⟩
      rw [e]
      refine EvN.ev (en_cat (EvN.ev (en_cat (ev_var rfl) (EvN.ev (en_lst (ds := [.str (Str.ofString "layer")]) (ea_cons ev_str ea_nil) (by show 1 ≤ sizeLine; decide))) .lst .lst ?_)) (EvN.ev (en_mapA (xs := l) (g := rowD) (is := [5]) (fun u => Dat.str (lineS u)) (it_tup (ev_var rfl)) (szl (by omega)) (fun _ _ => trivial) (by decide) (fun u env => env.set 5 (some (.d (rowD u)))) fun u hu => ⟨tg_name, ?_⟩)) .lst .lst ?_)
      · refine szl ?_
        rw [List.length_map]
        simp only [List.length_cons, List.length_nil]
        omega
      · exact ev_call (ea_cons (ev_var rfl) ea_nil) ⟨u, rfl, (r1 l hmem u hu).1, by have := (r1 l hmem u hu).2; omega, rfl, rfl⟩
      · refine szl ?_
        rw [List.length_append, List.length_map, List.length_map]
        simp only [List.length_cons, List.length_nil]
        omega
    · rintro env' S2 ⟨rfl, o1, o2, rfl⟩
      rw [List.take_length]
      exact ⟨rfl, _, _, rfl⟩
    · rintro env' S2 ⟨rfl, o1, o2, rfl⟩
      have hl2 := hfl L.length
      rw [List.take_length] at hl2
      refine sp_ret (d := strsD (netLs n L last)) ((EvN.ev (en_cat (ev_var rfl) (EvN.ev (en_lst (ds := [.str (Str.ofString "last"), .str (lineS last), .str (Str.ofString "end")]) (ea_cons ev_str (ea_cons (ev_call (ea_cons (ev_var rfl) ea_nil) ⟨last, rfl, r2, by omega, rfl, rfl⟩) (ea_cons ev_str ea_nil))) (by show 3 ≤ sizeLine; decide))) .lst .lst ?_)).to ?_) ⟨rfl, List.take_length⟩
      · refine szl ?_
        rw [List.length_map]
        simp only [List.length_cons, List.length_nil] at hl2 ⊢
        omega
      · have e : strsD (netLs n L last) = .lst ((([Str.ofString "network " ++ numS n] ++ L.flatMap fml) ++ [Str.ofString "last", lineS last, Str.ofString "end"]).map Dat.str) := rfl
        have e2 : ∀ X Y : List Str, (X ++ Y).map Dat.str = X.map Dat.str ++ Y.map Dat.str := fun X Y => List.map_append
        rw [e, e2 _ [Str.ofString "last", lineS last, Str.ofString "end"]]
        rfl
end
end N85

set_option Elab.async false
set_option linter.all false
set_option maxRecDepth 100000
set_option maxHeartbeats 4000000
namespace N85
open PySem PySem.Spec PyProof.Rows L2 RW

def lenF (v : Vt) : Nat := (1 + (drawF v 8).1).toNat
def w1F (v : Vt) : Vt := (drawF v 8).2
def oneF (v : Vt) : List (List Int) := (rowsF (w1F v) (lenF v) 5).1
def w2F (v : Vt) : Vt := (rowsF (w1F v) (lenF v) 5).2
def twoF (v : Vt) : List (List Int) := (rowsF (w2F v) (lenF v) 3).1
def w3F (v : Vt) : Vt := (rowsF (w2F v) (lenF v) 3).2
def endF (v : Vt) : Vt := v5F (w3F v)
theorem len_ok (v : Vt) : (1 + (drawF v 8).1 = (lenF v : Int)) ∧ 1 ≤ lenF v ∧ lenF v ≤ 8 := by
  have h1 := draw_nn v (t := 8) (by omega)
  have h2 := draw_lt v (t := 8) (by omega)
  unfold lenF
  omega
theorem one_ok (v : Vt) : LotOk (lenF v) (oneF v) := rowsF_ok _ (len_ok v).2.1 (len_ok v).2.2 (by decide) (by decide)
theorem two_ok (v : Vt) : LotOk (lenF v) (twoF v) := rowsF_ok _ (len_ok v).2.1 (len_ok v).2.2 (by decide) (by decide)
def gRight (ss : List Sl) (S : List Dat) (r : Dat) (S' : List Dat) : Prop := ∃ (k : Nat) (v : Vt), ss = [.c k] ∧ S[k]? = some (vatD v) ∧ r = .bl true ∧ S' = S.set k (vatD (endF v))
theorem o_neT {K : PySem.W.Frag} {S : List Dat} {d : Dat} {m : Nat} (h : Pl m d) (hm : m ≤ 64) : Op2 K (rNeD K) (.d d) (.d d) S (.bl false) := by
  have := op2_neD (K := K) (S := S) (plS_d h) (plS_d h) hm hm
  rwa [eqD_refl h] at this
theorem o_eqT {K : PySem.W.Frag} {S : List Dat} {d : Dat} {m : Nat} (h : Pl m d) (hm : m ≤ 64) : Op2 K (rEqD K) (.d d) (.d d) S (.bl true) := by
  have := op2_eqD (K := K) (S := S) (plS_d h) (plS_d h) hm hm
  rwa [eqD_refl h] at this
theorem o_neSS {K : PySem.W.Frag} {S : List Dat} {p : Str} : Op2 K rNe (.d (.str p)) (.d (.str p)) S (.bl false) := by
  have := @o_neS K S p p
  rwa [decide_eq_true rfl] at this
theorem o_eqSS {K : PySem.W.Frag} {S : List Dat} {p : Str} : Op2 K rEq (.d (.str p)) (.d (.str p)) S (.bl true) := by
  have := @o_eqS K S p p
  rwa [decide_eq_true rfl] at this
theorem pl_pair {a b : List (List Int)} : Pl 3 (.tup [layD a, layD b]) := .tup fun d hd => by
  simp only [List.mem_cons, List.mem_nil_iff, or_false] at hd
  rcases hd with rfl | rfl
  · exact pl_lay a
  · exact pl_lay b
theorem lot_lines {rows : List (List Int)} : strsD (lotLs rows) = .lst (([.str (Str.ofString "lot")] ++ rows.map fun u => .str (lineS u)) ++ [.str (Str.ofString "end")]) := by
  have e2 : ∀ X Y : List Str, (X ++ Y).map Dat.str = X.map Dat.str ++ Y.map Dat.str := fun X Y => List.map_append
  unfold strsD lotLs
  rw [e2, e2, List.map_map]
  rfl
theorem read_lines {rows more : List (List Int)} : strsD (readLs rows more) = .lst (((([.str (Str.ofString "reading"), .str (Str.ofString "above")] ++ rows.map fun u => .str (lineS u)) ++ [.str (Str.ofString "below")]) ++ more.map fun u => .str (lineS u)) ++ [.str (Str.ofString "end")]) := by
  have e2 : ∀ X Y : List Str, (X ++ Y).map Dat.str = X.map Dat.str ++ Y.map Dat.str := fun X Y => List.map_append
  unfold strsD readLs
  rw [e2, e2, e2, e2, List.map_map, List.map_map, ← List.append_assoc, ← List.append_assoc]
  rfl
section
variable {P : Program} {w : World} {K : PySem.W.Frag} {mg : Str → Option Value} {base : Heap}

theorem ok__law_right (T : Txt K mg) : FnOk P w K mg base CX0 8 T.a__law_right T.d__law_right ["pack"] (SpD K (gRight)) := by
  have G__law_dealt := ok__law_dealt (P := P) (w := w) (base := base) T
  have b__law_dealt := T.b__law_dealt
  have G__law_rows_drawn := ok__law_rows_drawn (P := P) (w := w) (base := base) T
  have b__law_rows_drawn := T.b__law_rows_drawn
  have G__law_line := ok__law_line (P := P) (w := w) (base := base) T
  have b__law_line := T.b__law_line
  have G_lot_text := ok_lot_text (P := P) (w := w) (base := base) T
  have b_lot_text := T.b_lot_text
  have G__law_joined := ok__law_joined (P := P) (w := w) (base := base) T
  have b__law_joined := T.b__law_joined
  have G_read_lot := ok_read_lot (P := P) (w := w) (base := base) T
  have b_read_lot := T.b_read_lot
  have G_reading_text := ok_reading_text (P := P) (w := w) (base := base) T
  have b_reading_text := T.b_reading_text
  have G_read_reading := ok_read_reading (P := P) (w := w) (base := base) T
  have b_read_reading := T.b_read_reading
  have G__law_parts_drawn := ok__law_parts_drawn (P := P) (w := w) (base := base) T
  have b__law_parts_drawn := T.b__law_parts_drawn
  have G_Networku_initu := ok_Networku_initu (P := P) (w := w) (base := base) T
  have b_Networku_initu := T.b_Networku_initu
  have G__law_network_lines := ok__law_network_lines (P := P) (w := w) (base := base) T
  have b__law_network_lines := T.b__law_network_lines
  have G_read_network := ok_read_network (P := P) (w := w) (base := base) T
  have b_read_network := T.b_read_network
  have G_network_text := ok_network_text (P := P) (w := w) (base := base) T
  have b_network_text := T.b_network_text
  have G_Networku_equ := ok_Networku_equ (P := P) (w := w) (base := base) T
  have b_Networku_equ := T.b_Networku_equ
  have M_Network := T.M_Network
  have OW : RwT.OwnC K T.C T.a_Networku_equ := ⟨T.o_eq, T.o_fn, T.o_ne, T.isC.hm, T.o_sub⟩
  refine T.F__law_right.ok sc__law_right (spd_len (k := 1) fun ss S r S' hg => ?_) (fun cdv A outer s H vs Q E hr h => ⟨_, (pss_cons (ps_set (i := 1) sc__law_right.nd rfl (by first | exact Or.inl rfl | exact Or.inr rfl) (pe_op op_add pe_int (pe_call G__law_dealt (hr.mono (by decide)) rfl T.m__law_dealt T.k__law_dealt b__law_dealt .nil pass0 (pa_cons (pv 0) (pa_cons pe_int pa_nil))))) (pss_cons (ps_par (i := 2) (j := 3) rfl sc__law_right.nd rfl rfl (by decide) rfl rfl (pa_cons (pe_call G__law_rows_drawn (hr.mono (by decide)) rfl T.m__law_rows_drawn T.k__law_rows_drawn b__law_rows_drawn .nil pass0 (pa_cons (pv 0) (pa_cons (pv 1) (pa_cons pe_int pa_nil)))) (pa_cons (pe_call G__law_rows_drawn (hr.mono (by decide)) rfl T.m__law_rows_drawn T.k__law_rows_drawn b__law_rows_drawn .nil pass0 (pa_cons (pv 0) (pa_cons (pv 1) (pa_cons pe_int pa_nil)))) pa_nil)) (by rfl)) (pss_cons (ps_set (i := 4) sc__law_right.nd rfl (by first | exact Or.inl rfl | exact Or.inr rfl) (pe_op op_cat (pe_op op_cat (pe_lst (pa_cons pe_str pa_nil)) (pe_lc (own := [("row", 5)]) rfl sc__law_right.nd (pi_seqK K (pv 2)) (blkOk_by (own := [("row", 5)]) (N := ["pack", "length", "one", "other", "lines", "row", "inputs", "layers", "last", "real", "back"]) (sc := (defScope s__law_right)) (by decide +kernel)) (fun _ _ _ _ _ => (pg_name (i := 5) sc__law_right.nd rfl (by first | exact Or.inl rfl | exact Or.inr rfl))) (fun _ _ _ _ _ => pts_nil) (fun _ _ _ _ _ => (pe_call G__law_line (hr.mono (by decide)) rfl T.m__law_line T.k__law_line b__law_line .nil pass0 (pa_cons (pv 5) pa_nil))))) (pe_lst (pa_cons pe_str pa_nil)))) (pss_cons (ps_if (PW.pt (pw_or (pt_cmpR op_ne (pe_call G_lot_text (hr.mono (by decide)) rfl T.m_lot_text T.k_lot_text b_lot_text .nil pass0 (pa_cons (pv 2) pa_nil)) (pe_call G__law_joined (hr.mono (by decide)) rfl T.m__law_joined T.k__law_joined b__law_joined .nil pass0 (pa_cons (pv 4) pa_nil)) (nomark _)) (pw_or1 (pt_cmpR (op_neDK K hr.units) (pe_call G_read_lot (hr.mono (by decide)) rfl T.m_read_lot T.k_read_lot b_read_lot .nil pass0 (pa_cons (pe_call G__law_joined (hr.mono (by decide)) rfl T.m__law_joined T.k__law_joined b__law_joined .nil pass0 (pa_cons (pv 4) pa_nil)) pa_nil)) (pv 2) (nomark _))))) (pss_one (ps_ret pe_bl)) pss_nil) (pss_cons (ps_set (i := 4) sc__law_right.nd rfl (by first | exact Or.inl rfl | exact Or.inr rfl) (pe_op op_cat (pe_op op_cat (pe_op op_cat (pe_op op_cat (pe_lst (pa_cons pe_str (pa_cons pe_str pa_nil))) (pe_lc (own := [("row", 5)]) rfl sc__law_right.nd (pi_seqK K (pv 2)) (blkOk_by (own := [("row", 5)]) (N := ["pack", "length", "one", "other", "lines", "row", "inputs", "layers", "last", "real", "back"]) (sc := (defScope s__law_right)) (by decide +kernel)) (fun _ _ _ _ _ => (pg_name (i := 5) sc__law_right.nd rfl (by first | exact Or.inl rfl | exact Or.inr rfl))) (fun _ _ _ _ _ => pts_nil) (fun _ _ _ _ _ => (pe_call G__law_line (hr.mono (by decide)) rfl T.m__law_line T.k__law_line b__law_line .nil pass0 (pa_cons (pv 5) pa_nil))))) (pe_lst (pa_cons pe_str pa_nil))) (pe_lc (own := [("row", 5)]) rfl sc__law_right.nd (pi_seqK K (pv 3)) (blkOk_by (own := [("row", 5)]) (N := ["pack", "length", "one", "other", "lines", "row", "inputs", "layers", "last", "real", "back"]) (sc := (defScope s__law_right)) (by decide +kernel)) (fun _ _ _ _ _ => (pg_name (i := 5) sc__law_right.nd rfl (by first | exact Or.inl rfl | exact Or.inr rfl))) (fun _ _ _ _ _ => pts_nil) (fun _ _ _ _ _ => (pe_call G__law_line (hr.mono (by decide)) rfl T.m__law_line T.k__law_line b__law_line .nil pass0 (pa_cons (pv 5) pa_nil))))) (pe_lst (pa_cons pe_str pa_nil)))) (pss_cons (ps_if (PW.pt (pw_or (pt_cmpR op_ne (pe_call G_reading_text (hr.mono (by decide)) rfl T.m_reading_text T.k_reading_text b_reading_text .nil pass0 (pa_cons (pe_tup (pa_cons (pv 2) (pa_cons (pv 3) pa_nil))) pa_nil)) (pe_call G__law_joined (hr.mono (by decide)) rfl T.m__law_joined T.k__law_joined b__law_joined .nil pass0 (pa_cons (pv 4) pa_nil)) (nomark _)) (pw_or1 (pt_cmpR (op_neDK K hr.units) (pe_call G_read_reading (hr.mono (by decide)) rfl T.m_read_reading T.k_read_reading b_read_reading .nil pass0 (pa_cons (pe_call G__law_joined (hr.mono (by decide)) rfl T.m__law_joined T.k__law_joined b__law_joined .nil pass0 (pa_cons (pv 4) pa_nil)) pa_nil)) (pe_tup (pa_cons (pv 2) (pa_cons (pv 3) pa_nil))) (nomark _))))) (pss_one (ps_ret pe_bl)) pss_nil) (pss_cons (ps_asg (pe_call G__law_parts_drawn (hr.mono (by decide)) rfl T.m__law_parts_drawn T.k__law_parts_drawn b__law_parts_drawn .nil pass0 (pa_cons (pv 0) pa_nil)) (pg_tup rfl (pgs_cons (pg_name (i := 6) sc__law_right.nd rfl (by first | exact Or.inl rfl | exact Or.inr rfl)) (pgs_cons (pg_name (i := 7) sc__law_right.nd rfl (by first | exact Or.inl rfl | exact Or.inr rfl)) (pgs_cons (pg_name (i := 8) sc__law_right.nd rfl (by first | exact Or.inl rfl | exact Or.inr rfl)) pgs_nil))))) (pss_cons (ps_par (i := 9) (j := 4) rfl sc__law_right.nd rfl rfl (by decide) rfl rfl (pa_cons (pe_make M_Network G_Networku_initu (hr.mono (by decide)) rfl T.m_Network b_Networku_initu .nil pass0 (pa_cons (pv 6) (pa_cons (pv 7) (pa_cons (pv 8) pa_nil)))) (pa_cons (pe_call G__law_network_lines (hr.mono (by decide)) rfl T.m__law_network_lines T.k__law_network_lines b__law_network_lines .nil pass0 (pa_cons (pv 6) (pa_cons (pv 7) (pa_cons (pv 8) pa_nil)))) pa_nil)) (by rfl)) (pss_cons (ps_set (i := 10) sc__law_right.nd rfl (by first | exact Or.inl rfl | exact Or.inr rfl) (pe_call G_read_network (hr.mono (by decide)) rfl T.m_read_network T.k_read_network b_read_network .nil pass0 (pa_cons (pe_call G__law_joined (hr.mono (by decide)) rfl T.m__law_joined T.k__law_joined b__law_joined .nil pass0 (pa_cons (pv 4) pa_nil)) pa_nil))) (pss_one (ps_ret (pe_and (pe_cmpR op_eq (pe_call G_network_text (hr.mono (by decide)) rfl T.m_network_text T.k_network_text b_network_text .nil pass0 (pa_cons (pv 9) pa_nil)) (pe_call G__law_joined (hr.mono (by decide)) rfl T.m__law_joined T.k__law_joined b__law_joined .nil pass0 (pa_cons (pv 4) pa_nil)) (nomark _)) (pe_and (pe_cmpR (RwT.op_ownEq OW (hr.mono (by decide)) G_Networku_equ b_Networku_equ pass0) (pv 10) (pv 9) (nomark _)) (pe_and (pe_cmpR (op_eqDK K hr.units) (pe_fld (pv 10) rfl) (pv 7) (nomark _)) (pe_one (pe_cmpR (op_eqDK K hr.units) (pe_fld (pv 10) rfl) (pv 8) (nomark _))))))))))))))))), sp_body h fun ss S r S' hg => ?_⟩)
  · obtain ⟨k, v, rfl, _⟩ := hg; rfl
  · obtain ⟨k, v, rfl, hk, rfl, rfl⟩ := hg
    obtain ⟨hlen, n1, n8⟩ := len_ok v
    have h1 := one_ok v
    have h2 := two_ok v
    have hp := parts_ok (w3F v)
    have z1 := h1.l64
    have z2 := h2.l64
    have line : ∀ {env : Env1} {S : List Dat} {rows : List (List Int)} {n j : Nat}, LotOk n rows → env[j]? = some (some (.d (layD rows))) → env.length = 11 → EvN K (tLc (iSeq K (tVar j)) (gName 5) tYes (tCall (SpD K gRowL) [] E0 (tCons (tVar 5) tNil)) [5]) env S (rows.map fun u => Dat.str (lineS u)) S := fun {env S rows n j} hr he hl => en_mapA (xs := rows) (g := rowD) (is := [5]) (fun u => Dat.str (lineS u)) (it_tup (ev_var he)) (szl (by have := hr.l64; omega)) (fun _ _ => trivial) (by decide) (fun u env => env.set 5 (some (.d (rowD u)))) fun u hu => ⟨tg_name, ev_call (ea_cons (ev_var (by rw [List.getElem?_set_self (by simp [wipeE, hl])])) ea_nil) ⟨u, rfl, (hr.rw u hu).2, by rw [(hr.rw u hu).1]; have := hr.n8; omega, rfl, rfl⟩⟩
    have str1 : ∀ {env : Env1} {S : List Dat} {s : Str}, Ev K (tLst (tCons (tC (.str s)) tNil)) env S (.d (.lst [.str s])) S := fun {env S s} => EvN.ev (en_lst (ds := [.str s]) (ea_cons ev_str ea_nil) (by show 1 ≤ sizeLine; decide))
    have zl : ∀ {a b : List Dat}, a.length + b.length ≤ 200 → a.length + b.length ≤ sizeLine := fun h => szl (by omega)
    refine sp_set (x := .d (.int (lenF v))) (S1 := S.set k (vatD (w1F v))) ((ev_op ev_int (ev_call (ea_cons (ev_var rfl) (ea_cons ev_int ea_nil)) ⟨k, v, 8, rfl, hk, by omega, by omega, rfl, rfl⟩) o_add).to (by rw [← hlen])) ?_
    refine sp_par (x := .d (layD (oneF v))) (y := .d (layD (twoF v))) (S1 := S.set k (vatD (w3F v))) (ea_cons (ev_call (S2 := S.set k (vatD (w2F v))) (ea_cons (ev_var rfl) (ea_cons (ev_var rfl) (ea_cons ev_int ea_nil))) ⟨k, w1F v, lenF v, 5, rfl, set_get hk, n1, n8, by decide, by decide, rfl, by rw [List.set_set]; rfl⟩) (ea_cons (ev_call (ea_cons (ev_var rfl) (ea_cons (ev_var rfl) (ea_cons ev_int ea_nil))) ⟨k, w2F v, lenF v, 3, rfl, set_get hk, n1, n8, by decide, by decide, rfl, by rw [List.set_set]; rfl⟩) ea_nil)) ?_
    refine sp_set (x := .d (strsD (lotLs (oneF v)))) (S1 := S.set k (vatD (w3F v))) ((EvN.ev (en_cat (EvN.ev (en_cat str1 (EvN.ev (line h1 rfl rfl)) .lst .lst (zl (by rw [List.length_map]; simp only [List.length_cons, List.length_nil]; omega)))) str1 .lst .lst (zl (by rw [List.length_append, List.length_map]; simp only [List.length_cons, List.length_nil]; omega)))).to (by rw [lot_lines])) ?_
    refine sp_ifq (b := false) (et_orP (a := false) (b := false) (et_test (ev_op (ev_call (ea_cons (ev_var rfl) ea_nil) ⟨_, oneF v, rfl, h1, rfl, rfl⟩) (ev_call (ea_cons (ev_var rfl) ea_nil) ⟨_, rfl, h1.tok, rfl, rfl⟩) o_neSS)) fun _ => et_test (ev_op (ev_call (ea_cons (ev_call (ea_cons (ev_var rfl) ea_nil) ⟨_, rfl, h1.tok, rfl, rfl⟩) ea_nil) ⟨_, oneF v, rfl, h1, rfl, rfl⟩) (ev_var rfl) (o_neT (pl_lay _) (by decide)))) (fun h => by cases h) fun _ => sp_nextq ?_
    refine sp_set (x := .d (strsD (readLs (oneF v) (twoF v)))) (S1 := S.set k (vatD (w3F v))) ((EvN.ev (en_cat (EvN.ev (en_cat (EvN.ev (en_cat (EvN.ev (en_cat (EvN.ev (en_lst (ds := [.str (Str.ofString "reading"), .str (Str.ofString "above")]) (ea_cons ev_str (ea_cons ev_str ea_nil)) (by show 2 ≤ sizeLine; decide))) (EvN.ev (line h1 rfl rfl)) .lst .lst (zl (by rw [List.length_map]; simp only [List.length_cons, List.length_nil]; omega)))) str1 .lst .lst (zl (by simp only [List.length_map, List.length_append, List.length_cons, List.length_nil]; omega)))) (EvN.ev (line h2 rfl rfl)) .lst .lst (zl (by simp only [List.length_map, List.length_append, List.length_cons, List.length_nil]; omega)))) str1 .lst .lst (zl (by simp only [List.length_map, List.length_append, List.length_cons, List.length_nil]; omega)))).to (by rw [read_lines])) ?_
    have pair : ∀ {env : Env1} {S : List Dat}, env[2]? = some (some (.d (layD (oneF v)))) → env[3]? = some (some (.d (layD (twoF v)))) → Ev K (tTup (tCons (tVar 2) (tCons (tVar 3) tNil))) env S (.d (.tup [layD (oneF v), layD (twoF v)])) S := fun a b => ev_tup (ds := [layD (oneF v), layD (twoF v)]) (ea_cons (ev_var a) (ea_cons (ev_var b) ea_nil)) (by show 2 ≤ sizeLine; decide)
    refine sp_ifq (b := false) (et_orP (a := false) (b := false) (et_test (ev_op (ev_call (ea_cons (pair rfl rfl) ea_nil) ⟨_, oneF v, twoF v, rfl, h1, h2, rfl, rfl⟩) (ev_call (ea_cons (ev_var rfl) ea_nil) ⟨_, rfl, read_tok h1 h2, rfl, rfl⟩) o_neSS)) fun _ => et_test (ev_op (ev_call (ea_cons (ev_call (ea_cons (ev_var rfl) ea_nil) ⟨_, rfl, read_tok h1 h2, rfl, rfl⟩) ea_nil) ⟨_, oneF v, twoF v, rfl, h1, h2, rfl, rfl⟩) (pair rfl rfl) (o_neT pl_pair (by decide)))) (fun h => by cases h) fun _ => sp_nextq ?_
    refine sp_asg (d := .tup [.int (inF (w3F v)), laysD (lays (w3F v)), rowD (lastF (w3F v))]) (S1 := S.set k (vatD (endF v))) (ev_call (ea_cons (ev_var rfl) ea_nil) ⟨k, w3F v, rfl, set_get hk, rfl, by rw [List.set_set]; rfl⟩) tg_three ?_
    refine sp_par (x := .d (netD T.C (inF (w3F v)) (lays (w3F v)) (lastF (w3F v)))) (y := .d (strsD (netLs (inF (w3F v)) (lays (w3F v)) (lastF (w3F v))))) (S1 := S.set k (vatD (endF v))) (ea_cons (ev_make (S2 := S.set k (vatD (endF v))) (ea_cons (ev_var rfl) (ea_cons (ev_var rfl) (ea_cons (ev_var rfl) ea_nil))) ⟨_, _, _, _, rfl, a1, hp.wf, rfl, a2.symm⟩ rfl) (ea_cons (ev_call (ea_cons (ev_var rfl) (ea_cons (ev_var rfl) (ea_cons (ev_var rfl) ea_nil))) ⟨_, _, _, rfl, hp, rfl, rfl⟩) ea_nil)) ?_
    refine sp_set (x := .d (netD T.C (inF (w3F v)) (lays (w3F v)) (lastF (w3F v)))) (S1 := S.set k (vatD (endF v))) (ev_call (ea_cons (ev_call (ea_cons (ev_var rfl) ea_nil) ⟨_, rfl, hp.tok, rfl, rfl⟩) ea_nil) ⟨_, _, _, rfl, hp, rfl, rfl⟩) ?_
    refine sp_ret (d := .bl true) (ev_andV (a := true) (b := true) (ev_op (ev_call (ea_cons (ev_var rfl) ea_nil) ⟨_, _, _, rfl, hp, rfl, rfl⟩) (ev_call (ea_cons (ev_var rfl) ea_nil) ⟨_, rfl, hp.tok, rfl, rfl⟩) o_eqSS) fun _ => ev_andV (a := true) (b := true) (ev_op (ev_var rfl) (ev_var rfl) (o_own (k := true) (.inl ⟨_, _, _, _, _, _, rfl, by simp, rfl⟩))) fun _ => ev_andV (a := true) (b := true) (ev_op (ev_fld (ev_var rfl) T.cl T.na_layers rfl) (ev_var rfl) (o_eqT (pl_lays _) (by decide))) fun _ => ev_op (ev_fld (ev_var rfl) T.cl T.na_last rfl) (ev_var rfl) (o_eqT (pl_row _) (by decide))) ⟨rfl, List.take_of_length_le (by simp)⟩
end
end N85

set_option Elab.async false
set_option linter.all false
set_option maxRecDepth 100000
set_option maxHeartbeats 4000000
namespace N85
open PySem PySem.Spec PyProof.Rows L2 RW

def rampL : Lays := [[[1, -1]]]
def rampR : List Int := [0, 1, 1]
def sevR : List Int := [7]
def lotA : List (List Int) := [[-3, 0], [2, 7]]
def lotB : List (List Int) := [[0]]
theorem t_ramp : Str.ofString "network 2\nlayer\n  1 -1\nlast\n  0 1 1\nend\n" = textS (netLs 2 rampL rampR) := by decide +kernel
theorem t_sev : Str.ofString "network 1\nlast\n  7\nend\n" = textS (netLs 1 [] sevR) := by decide +kernel
theorem t_lotA : Str.ofString "lot\n  -3 0\n  2 7\nend\n" = textS (lotLs lotA) := by decide +kernel
theorem t_lotB : Str.ofString "lot\n  0\nend\n" = textS (lotLs lotB) := by decide +kernel
theorem rw_of {r : List Int} {n : Nat} (h1 : r.length = n) (h : ∀ x ∈ r, -(10 ^ 60) < x ∧ x < 10 ^ 60) : Rw r n := ⟨h1, h⟩
theorem ok_ramp : NOk 2 rampL rampR := by
  refine ⟨⟨by decide, by decide, by decide, ⟨⟨by decide, by decide, fun u hu => ?_⟩, trivial⟩, by decide, rw_of (by decide) (by decide +kernel)⟩, by decide⟩
  rw [List.mem_singleton.mp hu]
  exact rw_of (by decide) (by decide +kernel)
theorem ok_sev : NOk 1 [] sevR := ⟨⟨by decide, by decide, by decide, trivial, by decide, rw_of (by decide) (by decide +kernel)⟩, by decide⟩
theorem ok_lotA : LotOk 2 lotA := ⟨by decide, by decide, by decide, by decide, fun r hr => by
  unfold lotA at hr
  simp only [List.mem_cons, List.mem_nil_iff, or_false] at hr
  rcases hr with rfl | rfl
  · exact rw_of (by decide) (by decide +kernel)
  · exact rw_of (by decide) (by decide +kernel), by decide⟩
theorem ok_lotB : LotOk 1 lotB := ⟨by decide, by decide, by decide, by decide, fun r hr => by
  rw [List.mem_singleton.mp hr]
  exact rw_of (by decide) (by decide +kernel), by decide⟩
def gLaw (ss : List Sl) (S : List Dat) (r : Dat) (S' : List Dat) : Prop := ∃ (ns : List Int), ss = [.d (.scr ns)] ∧ ns.length ≤ 63 ∧ r = .bl true ∧ S = [] ∧ S' = []
section
variable {P : Program} {w : World} {K : PySem.W.Frag} {mg : Str → Option Value} {base : Heap}

theorem ok_law (T : Txt K mg) : FnOk P w K mg base CX0 9 T.a_law T.d_law ["script"] (SpD K (gLaw)) := by
  have G__law_pack := ok__law_pack (P := P) (w := w) (base := base) T
  have b__law_pack := T.b__law_pack
  have G__law_right := ok__law_right (P := P) (w := w) (base := base) T
  have b__law_right := T.b__law_right
  have G_Networku_equ := ok_Networku_equ (P := P) (w := w) (base := base) T
  have b_Networku_equ := T.b_Networku_equ
  have G_read_network := ok_read_network (P := P) (w := w) (base := base) T
  have b_read_network := T.b_read_network
  have G_Networku_initu := ok_Networku_initu (P := P) (w := w) (base := base) T
  have b_Networku_initu := T.b_Networku_initu
  have G_network_text := ok_network_text (P := P) (w := w) (base := base) T
  have b_network_text := T.b_network_text
  have G_read_lot := ok_read_lot (P := P) (w := w) (base := base) T
  have b_read_lot := T.b_read_lot
  have G_lot_text := ok_lot_text (P := P) (w := w) (base := base) T
  have b_lot_text := T.b_lot_text
  have M_Network := T.M_Network
  have OW : RwT.OwnC K T.C T.a_Networku_equ := ⟨T.o_eq, T.o_fn, T.o_ne, T.isC.hm, T.o_sub⟩
  refine T.F_law.ok sc_law (spd_len (k := 1) fun ss S r S' hg => ?_) (fun cdv A outer s H vs Q E hr h => ⟨_, (pss_cons (ps_for PassesOwn.never rfl (pi_range1 (by rfl) T.n_range (pa_cons (pe_callB (call_max2D rfl) (by rfl) T.n_max (by decide +kernel) (pa_cons pe_int (pa_cons (pe_callB (call_min2D rfl) (by rfl) T.n_min (by decide +kernel) (pa_cons pe_int (pa_cons (pe_callB (call_lenK K) (by rfl) T.n_len (by decide +kernel) (pa_cons (pv 0) pa_nil)) pa_nil))) pa_nil))) pa_nil)) (pg_name (i := 1) sc_law.nd rfl (by first | exact Or.inl rfl | exact Or.inr rfl)) (pss_cons (ps_set (i := 2) sc_law.nd rfl (by first | exact Or.inl rfl | exact Or.inr rfl) (pe_call G__law_pack (hr.mono (by decide)) rfl T.m__law_pack T.k__law_pack b__law_pack .nil pass0 (pa_cons (pv 0) (pa_cons (pv 1) pa_nil)))) (pss_one (ps_for PassesOwn.never rfl (pi_range1 (by rfl) T.n_range (pa_cons pe_int pa_nil)) (pg_name (i := 3) sc_law.nd rfl (by first | exact Or.inl rfl | exact Or.inr rfl)) (pss_one (ps_if (pt_not (pt_truK K (pe_call G__law_right (hr.mono (by decide)) rfl T.m__law_right T.k__law_right b__law_right .nil pass0 (pa_cons (pv 2) pa_nil)))) (pss_one (ps_ret pe_bl)) pss_nil)))))) (pss_cons (ps_set (i := 4) sc_law.nd rfl (by first | exact Or.inl rfl | exact Or.inr rfl) pe_str) (pss_cons (ps_if (PW.pt (pw_or (pt_cmpR (RwT.op_ownNe OW (hr.mono (by decide)) G_Networku_equ b_Networku_equ pass0) (pe_call G_read_network (hr.mono (by decide)) rfl T.m_read_network T.k_read_network b_read_network .nil pass0 (pa_cons (pv 4) pa_nil)) (pe_make M_Network G_Networku_initu (hr.mono (by decide)) rfl T.m_Network b_Networku_initu .nil pass0 (pa_cons pe_int (pa_cons (pe_tup (pa_cons (pe_tup (pa_cons (pe_tup (pa_cons pe_int (pa_cons (pe_un un_neg pe_int) pa_nil))) pa_nil)) pa_nil)) (pa_cons (pe_tup (pa_cons pe_int (pa_cons pe_int (pa_cons pe_int pa_nil)))) pa_nil)))) (nomark _)) (pw_or1 (pt_cmpR op_ne (pe_call G_network_text (hr.mono (by decide)) rfl T.m_network_text T.k_network_text b_network_text .nil pass0 (pa_cons (pe_make M_Network G_Networku_initu (hr.mono (by decide)) rfl T.m_Network b_Networku_initu .nil pass0 (pa_cons pe_int (pa_cons (pe_tup pa_nil) (pa_cons (pe_tup (pa_cons pe_int pa_nil)) pa_nil)))) pa_nil)) pe_str (nomark _))))) (pss_one (ps_ret pe_bl)) pss_nil) (pss_one (ps_ret (pe_and (pe_cmpR (op_eqDK K hr.units) (pe_call G_read_lot (hr.mono (by decide)) rfl T.m_read_lot T.k_read_lot b_read_lot .nil pass0 (pa_cons pe_str pa_nil)) (pe_tup (pa_cons (pe_tup (pa_cons (pe_un un_neg pe_int) (pa_cons pe_int pa_nil))) (pa_cons (pe_tup (pa_cons pe_int (pa_cons pe_int pa_nil))) pa_nil))) (nomark _)) (pe_one (pe_cmpR op_eq (pe_call G_lot_text (hr.mono (by decide)) rfl T.m_lot_text T.k_lot_text b_lot_text .nil pass0 (pa_cons (pe_tup (pa_cons (pe_tup (pa_cons pe_int pa_nil)) pa_nil)) pa_nil)) pe_str (nomark _))))))))), sp_body h fun ss S r S' hg => ?_⟩)
  · obtain ⟨i, rfl, _⟩ := hg; rfl
  · obtain ⟨ns, rfl, hns, rfl, rfl, rfl⟩ := hg
    obtain ⟨c, hc⟩ : ∃ c : Nat, max 1 (min 3 (ns.length : Int)) = (c : Int) := ⟨(max 1 (min 3 (ns.length : Int))).toNat, by omega⟩
    have hc4 : c ≤ 3 := by omega
    refine sp_seq (P' := { nx := fun env' S2 => ∃ o1 o2 o3, env' = [some (.d (.scr ns)), o1, o2, o3, none] })
      (sp_forA (xs := List.range c) (g := fun i => Dat.int (0 + (i : Nat))) (it_rangeN (m := c) (ea_cons ((ev_cb (ea_cons ev_int (ea_cons (ev_cb (ea_cons ev_int (ea_cons (ev_cb (ea_cons (ev_var rfl) ea_nil) cd_lenS) ea_nil)) cd_min2) ea_nil)) cd_max2).to (by rw [hc])) ea_nil) (by omega)) (fun i env' S2 => ∃ o1 o2 o3, env' = [some (.d (.scr ns)), o1, o2, o3, none]) ⟨none, none, none, rfl⟩ (fun _ _ _ _ _ _ _ _ _ => trivial) ?_ ?_) ?_
    · rintro i a env' S2 ha ⟨o1, o2, o3, rfl⟩
      refine ⟨[1], fun env => env.set 1 (some (.d (.int (0 + (a : Nat))))), tg_name, ?_⟩
      rw [Int.zero_add]
      refine sp_setC (S1 := S2) (ds := [.int (vatF ns a).1, .int (vatF ns a).2.1, .int (vatF ns a).2.2]) (en_call (ea_cons (ev_var rfl) (ea_cons (ev_var rfl) ea_nil)) ⟨ns, a, rfl, rfl, rfl⟩) ?_
      refine sp_forA (xs := List.range 3) (g := fun i => Dat.int (0 + (i : Nat))) (it_rangeN (m := 3) (ea_cons ev_int ea_nil) (by omega)) (fun i env' S3 => ∃ v o3, S3 = S2 ++ [vatD v] ∧ env' = [some (.d (.scr ns)), some (.d (.int (a : Nat))), some (.c S2.length), o3, none]) ⟨vatF ns a, o3, rfl, rfl⟩ (fun _ _ _ _ _ _ _ _ _ => trivial) ?_ ?_
      · rintro j b env' S3 hb ⟨v, o4, rfl, rfl⟩
        refine ⟨[3], fun env => env.set 3 (some (.d (.int (0 + (b : Nat))))), tg_name, ?_⟩
        refine sp_if (b := false) (et_not (a := true) (et_bl (ev_call (ea_cons (ev_var rfl) ea_nil) ⟨S2.length, v, rfl, a1, rfl, rfl⟩))) (fun h => by cases h) fun _ => sp_next ⟨endF v, _, a2, rfl⟩
      · rintro env' S3 ⟨v, o4, rfl, rfl⟩
        exact ⟨_, _, _, rfl⟩
    · rintro env' S2 ⟨o1, o2, o3, rfl⟩
      exact ⟨o1, o2, o3, rfl⟩
    · rintro env' S2 ⟨o1, o2, o3, rfl⟩
      refine sp_set (x := .d (.str (textS (netLs 2 rampL rampR)))) (S1 := S2) (ev_str.to (by rw [t_ramp])) ?_
      refine sp_ifq (b := false) (S1 := S2) (et_orP (a := false) (b := false) (et_test (ev_op (ev_call (ea_cons (ev_var rfl) ea_nil) ⟨2, rampL, rampR, rfl, ok_ramp, rfl, rfl⟩) (ev_make (S2 := S2) (ea_cons ev_int (ea_cons (ev_tup (ds := [layD [[1, -1]]]) (ea_cons (ev_tup (ds := [rowD [1, -1]]) (ea_cons (ev_tup (ds := [.int 1, .int (-1)]) (ea_cons ev_int (ea_cons (ev_un ev_int o_neg) ea_nil)) (by show 2 ≤ sizeLine; decide)) ea_nil) (by show 1 ≤ sizeLine; decide)) ea_nil) (by show 1 ≤ sizeLine; decide)) (ea_cons (ev_tup (ds := [.int 0, .int 1, .int 1]) (ea_cons ev_int (ea_cons ev_int (ea_cons ev_int ea_nil))) (by show 3 ≤ sizeLine; decide)) ea_nil))) ⟨_, 2, rampL, rampR, rfl, a1, ok_ramp.wf, rfl, a2.symm⟩ rfl) (o_own (neg := true) (k := true) (.inl ⟨_, _, _, _, _, _, rfl, by simp, rfl⟩)))) fun _ =>
        et_test ((ev_op (ev_call (ea_cons (ev_make (S2 := S2) (ea_cons ev_int (ea_cons (ev_tup (ds := []) ea_nil (Nat.zero_le _)) (ea_cons (ev_tup (ds := [.int 7]) (ea_cons ev_int ea_nil) (by show 1 ≤ sizeLine; decide)) ea_nil))) ⟨_, 1, [], sevR, rfl, a1, ok_sev.wf, rfl, a2.symm⟩ rfl) ea_nil) ⟨1, [], sevR, rfl, ok_sev, rfl, rfl⟩) (ev_str.to (by rw [t_sev])) o_neSS))) (fun h => by cases h) fun _ => sp_nextq ?_
      refine sp_ret (d := .bl true) (S1 := S2) (ev_andV (a := true) (b := true) (ev_op (ev_call (ea_cons (ev_str.to (by rw [t_lotA])) ea_nil) ⟨2, lotA, rfl, ok_lotA, rfl, rfl⟩) (ev_tup (ds := [rowD [-3, 0], rowD [2, 7]]) (ea_cons (ev_tup (ds := [.int (-3), .int 0]) (ea_cons (ev_un ev_int o_neg) (ea_cons ev_int ea_nil)) (by show 2 ≤ sizeLine; decide)) (ea_cons (ev_tup (ds := [.int 2, .int 7]) (ea_cons ev_int (ea_cons ev_int ea_nil)) (by show 2 ≤ sizeLine; decide)) ea_nil)) (by show 2 ≤ sizeLine; decide)) (o_eqT (pl_lay lotA) (by decide))) fun _ => ev_op (ev_call (ea_cons (ev_tup (ds := [rowD [0]]) (ea_cons (ev_tup (ds := [.int 0]) (ea_cons ev_int ea_nil) (by show 1 ≤ sizeLine; decide)) ea_nil) (by show 1 ≤ sizeLine; decide)) ea_nil) ⟨1, lotB, rfl, ok_lotB, rfl, rfl⟩) (ev_str.to (by rw [t_lotB])) o_eqSS) ⟨rfl, rfl⟩
end
end N85

set_option Elab.async false
set_option maxRecDepth 100000
set_option maxHeartbeats 4000000
namespace N85
open PySem PySem.Spec PyProof.Rows L2 RW
theorem all_mk {l : PySem.W.OpenLaw} {w : World} {K : PySem.W.Frag} {h : Heap} {mg : Str → Option Value} {fa C CL : Addr} (X : K.In h) (G : h.Ns mainGlobals mg) (hfa : mg "law" = some (.ref fa))
    {t_BEYOND : Tok}
    {t_BENEATH : Tok}
    {t_MOST_POINTS : Tok}
    {t_MOST_MEMBERS : Tok}
    {t_MOST_INPUTS : Tok}
    {t_MOST_LAYERS : Tok}
    {t_MOST_IN_LAYER : Tok}
    {t_MOST_UNITS : Tok}
    {t_MOST_TEXT : Tok}
    {t_MOST_DIGITS : Tok}
    {t_BLANKS : Tok}
    {t_HEAD : Tok}
    {a_is_whole : Addr} {od_is_whole an_is_whole : Option Addr} {sl_is_whole : Array (Option Value)} {oc_is_whole kV_is_whole dc_is_whole pm_is_whole cd_is_whole ct_is_whole : Value}
    {a_is_short : Addr} {od_is_short an_is_short : Option Addr} {sl_is_short : Array (Option Value)} {oc_is_short kV_is_short dc_is_short pm_is_short cd_is_short ct_is_short : Value}
    {a_are_short : Addr} {od_are_short an_are_short : Option Addr} {sl_are_short : Array (Option Value)} {oc_are_short kV_are_short dc_are_short pm_are_short cd_are_short ct_are_short : Value}
    {a_is_short_row : Addr} {od_is_short_row an_is_short_row : Option Addr} {sl_is_short_row : Array (Option Value)} {oc_is_short_row kV_is_short_row dc_is_short_row pm_is_short_row cd_is_short_row ct_is_short_row : Value}
    {a_are_short_rows : Addr} {od_are_short_rows an_are_short_rows : Option Addr} {sl_are_short_rows : Array (Option Value)} {oc_are_short_rows kV_are_short_rows dc_are_short_rows pm_are_short_rows cd_are_short_rows ct_are_short_rows : Value}
    {a_are_ascending : Addr} {od_are_ascending an_are_ascending : Option Addr} {sl_are_ascending : Array (Option Value)} {oc_are_ascending kV_are_ascending dc_are_ascending pm_are_ascending cd_are_ascending ct_are_ascending : Value}
    {a_is_lot : Addr} {od_is_lot an_is_lot : Option Addr} {sl_is_lot : Array (Option Value)} {oc_is_lot kV_is_lot dc_is_lot pm_is_lot cd_is_lot ct_is_lot : Value}
    {a_need_lot : Addr} {od_need_lot an_need_lot : Option Addr} {sl_need_lot : Array (Option Value)} {oc_need_lot kV_need_lot dc_need_lot pm_need_lot cd_need_lot ct_need_lot : Value}
    {a_Networku_initu : Addr} {od_Networku_initu an_Networku_initu : Option Addr} {sl_Networku_initu : Array (Option Value)} {oc_Networku_initu kV_Networku_initu dc_Networku_initu pm_Networku_initu cd_Networku_initu ct_Networku_initu : Value}
    {a_Networku_equ : Addr} {od_Networku_equ an_Networku_equ : Option Addr} {sl_Networku_equ : Array (Option Value)} {oc_Networku_equ kV_Networku_equ dc_Networku_equ pm_Networku_equ cd_Networku_equ ct_Networku_equ : Value}
    {a_are_parts : Addr} {od_are_parts an_are_parts : Option Addr} {sl_are_parts : Array (Option Value)} {oc_are_parts kV_are_parts dc_are_parts pm_are_parts cd_are_parts ct_are_parts : Value}
    {a_need_network : Addr} {od_need_network an_need_network : Option Addr} {sl_need_network : Array (Option Value)} {oc_need_network kV_need_network dc_need_network pm_need_network cd_need_network ct_need_network : Value}
    {a_is_reading : Addr} {od_is_reading an_is_reading : Option Addr} {sl_is_reading : Array (Option Value)} {oc_is_reading kV_is_reading dc_is_reading pm_is_reading cd_is_reading ct_is_reading : Value}
    {a_need_reading : Addr} {od_need_reading an_need_reading : Option Addr} {sl_need_reading : Array (Option Value)} {oc_need_reading kV_need_reading dc_need_reading pm_need_reading cd_need_reading ct_need_reading : Value}
    {a_row_line : Addr} {od_row_line an_row_line : Option Addr} {sl_row_line : Array (Option Value)} {oc_row_line kV_row_line dc_row_line pm_row_line cd_row_line ct_row_line : Value}
    {a_text_of : Addr} {od_text_of an_text_of : Option Addr} {sl_text_of : Array (Option Value)} {oc_text_of kV_text_of dc_text_of pm_text_of cd_text_of ct_text_of : Value}
    {a_lot_text : Addr} {od_lot_text an_lot_text : Option Addr} {sl_lot_text : Array (Option Value)} {oc_lot_text kV_lot_text dc_lot_text pm_lot_text cd_lot_text ct_lot_text : Value}
    {a_reading_text : Addr} {od_reading_text an_reading_text : Option Addr} {sl_reading_text : Array (Option Value)} {oc_reading_text kV_reading_text dc_reading_text pm_reading_text cd_reading_text ct_reading_text : Value}
    {a_network_text : Addr} {od_network_text an_network_text : Option Addr} {sl_network_text : Array (Option Value)} {oc_network_text kV_network_text dc_network_text pm_network_text cd_network_text ct_network_text : Value}
    {a_Linesu_initu : Addr} {od_Linesu_initu an_Linesu_initu : Option Addr} {sl_Linesu_initu : Array (Option Value)} {oc_Linesu_initu kV_Linesu_initu dc_Linesu_initu pm_Linesu_initu cd_Linesu_initu ct_Linesu_initu : Value}
    {a_Lines_line : Addr} {od_Lines_line an_Lines_line : Option Addr} {sl_Lines_line : Array (Option Value)} {oc_Lines_line kV_Lines_line dc_Lines_line pm_Lines_line cd_Lines_line ct_Lines_line : Value}
    {a_Lines_row : Addr} {od_Lines_row an_Lines_row : Option Addr} {sl_Lines_row : Array (Option Value)} {oc_Lines_row kV_Lines_row dc_Lines_row pm_Lines_row cd_Lines_row ct_Lines_row : Value}
    {a_Lines_go_on : Addr} {od_Lines_go_on an_Lines_go_on : Option Addr} {sl_Lines_go_on : Array (Option Value)} {oc_Lines_go_on kV_Lines_go_on dc_Lines_go_on pm_Lines_go_on cd_Lines_go_on ct_Lines_go_on : Value}
    {a_Lines_word : Addr} {od_Lines_word an_Lines_word : Option Addr} {sl_Lines_word : Array (Option Value)} {oc_Lines_word kV_Lines_word dc_Lines_word pm_Lines_word cd_Lines_word ct_Lines_word : Value}
    {a_Lines_close : Addr} {od_Lines_close an_Lines_close : Option Addr} {sl_Lines_close : Array (Option Value)} {oc_Lines_close kV_Lines_close dc_Lines_close pm_Lines_close cd_Lines_close ct_Lines_close : Value}
    {a_whole_in : Addr} {od_whole_in an_whole_in : Option Addr} {sl_whole_in : Array (Option Value)} {oc_whole_in kV_whole_in dc_whole_in pm_whole_in cd_whole_in ct_whole_in : Value}
    {a_row_in : Addr} {od_row_in an_row_in : Option Addr} {sl_row_in : Array (Option Value)} {oc_row_in kV_row_in dc_row_in pm_row_in cd_row_in ct_row_in : Value}
    {a_need_text : Addr} {od_need_text an_need_text : Option Addr} {sl_need_text : Array (Option Value)} {oc_need_text kV_need_text dc_need_text pm_need_text cd_need_text ct_need_text : Value}
    {a_points_in : Addr} {od_points_in an_points_in : Option Addr} {sl_points_in : Array (Option Value)} {oc_points_in kV_points_in dc_points_in pm_points_in cd_points_in ct_points_in : Value}
    {a_read_lot : Addr} {od_read_lot an_read_lot : Option Addr} {sl_read_lot : Array (Option Value)} {oc_read_lot kV_read_lot dc_read_lot pm_read_lot cd_read_lot ct_read_lot : Value}
    {a_read_reading : Addr} {od_read_reading an_read_reading : Option Addr} {sl_read_reading : Array (Option Value)} {oc_read_reading kV_read_reading dc_read_reading pm_read_reading cd_read_reading ct_read_reading : Value}
    {a_inputs_in : Addr} {od_inputs_in an_inputs_in : Option Addr} {sl_inputs_in : Array (Option Value)} {oc_inputs_in kV_inputs_in dc_inputs_in pm_inputs_in cd_inputs_in ct_inputs_in : Value}
    {a_need_unit : Addr} {od_need_unit an_need_unit : Option Addr} {sl_need_unit : Array (Option Value)} {oc_need_unit kV_need_unit dc_need_unit pm_need_unit cd_need_unit ct_need_unit : Value}
    {a_layer_in : Addr} {od_layer_in an_layer_in : Option Addr} {sl_layer_in : Array (Option Value)} {oc_layer_in kV_layer_in dc_layer_in pm_layer_in cd_layer_in ct_layer_in : Value}
    {a_read_network : Addr} {od_read_network an_read_network : Option Addr} {sl_read_network : Array (Option Value)} {oc_read_network kV_read_network dc_read_network pm_read_network cd_read_network ct_read_network : Value}
    {a__law_pack : Addr} {od__law_pack an__law_pack : Option Addr} {sl__law_pack : Array (Option Value)} {oc__law_pack kV__law_pack dc__law_pack pm__law_pack cd__law_pack ct__law_pack : Value}
    {a__law_dealt : Addr} {od__law_dealt an__law_dealt : Option Addr} {sl__law_dealt : Array (Option Value)} {oc__law_dealt kV__law_dealt dc__law_dealt pm__law_dealt cd__law_dealt ct__law_dealt : Value}
    {a__law_one_of : Addr} {od__law_one_of an__law_one_of : Option Addr} {sl__law_one_of : Array (Option Value)} {oc__law_one_of kV__law_one_of dc__law_one_of pm__law_one_of cd__law_one_of ct__law_one_of : Value}
    {a__law_number_drawn : Addr} {od__law_number_drawn an__law_number_drawn : Option Addr} {sl__law_number_drawn : Array (Option Value)} {oc__law_number_drawn kV__law_number_drawn dc__law_number_drawn pm__law_number_drawn cd__law_number_drawn ct__law_number_drawn : Value}
    {a__law_rows_drawn : Addr} {od__law_rows_drawn an__law_rows_drawn : Option Addr} {sl__law_rows_drawn : Array (Option Value)} {oc__law_rows_drawn kV__law_rows_drawn dc__law_rows_drawn pm__law_rows_drawn cd__law_rows_drawn ct__law_rows_drawn : Value}
    {a__law_parts_drawn : Addr} {od__law_parts_drawn an__law_parts_drawn : Option Addr} {sl__law_parts_drawn : Array (Option Value)} {oc__law_parts_drawn kV__law_parts_drawn dc__law_parts_drawn pm__law_parts_drawn cd__law_parts_drawn ct__law_parts_drawn : Value}
    {a__law_line : Addr} {od__law_line an__law_line : Option Addr} {sl__law_line : Array (Option Value)} {oc__law_line kV__law_line dc__law_line pm__law_line cd__law_line ct__law_line : Value}
    {a__law_joined : Addr} {od__law_joined an__law_joined : Option Addr} {sl__law_joined : Array (Option Value)} {oc__law_joined kV__law_joined dc__law_joined pm__law_joined cd__law_joined ct__law_joined : Value}
    {a__law_network_lines : Addr} {od__law_network_lines an__law_network_lines : Option Addr} {sl__law_network_lines : Array (Option Value)} {oc__law_network_lines kV__law_network_lines dc__law_network_lines pm__law_network_lines cd__law_network_lines ct__law_network_lines : Value}
    {a__law_right : Addr} {od__law_right an__law_right : Option Addr} {sl__law_right : Array (Option Value)} {oc__law_right kV__law_right dc__law_right pm__law_right cd__law_right ct__law_right : Value}
    {a_law : Addr} {od_law an_law : Option Addr} {sl_law : Array (Option Value)} {oc_law kV_law dc_law pm_law cd_law ct_law : Value}
    (hC : PySem.W.nsIn K mainGlobals "Network" = some (some (.ref C)))
    (hCL : PySem.W.nsIn K mainGlobals "Lines" = some (some (.ref CL)))
    (c_BEYOND : PySem.W.nsIn K mainGlobals "BEYOND" = some (some (.int (10 ^ 60) t_BEYOND)))
    (c_BENEATH : PySem.W.nsIn K mainGlobals "BENEATH" = some (some (.int (-(10 ^ 60)) t_BENEATH)))
    (c_MOST_POINTS : PySem.W.nsIn K mainGlobals "MOST_POINTS" = some (some (.int 400 t_MOST_POINTS)))
    (c_MOST_MEMBERS : PySem.W.nsIn K mainGlobals "MOST_MEMBERS" = some (some (.int 8 t_MOST_MEMBERS)))
    (c_MOST_INPUTS : PySem.W.nsIn K mainGlobals "MOST_INPUTS" = some (some (.int 8 t_MOST_INPUTS)))
    (c_MOST_LAYERS : PySem.W.nsIn K mainGlobals "MOST_LAYERS" = some (some (.int 4 t_MOST_LAYERS)))
    (c_MOST_IN_LAYER : PySem.W.nsIn K mainGlobals "MOST_IN_LAYER" = some (some (.int 64 t_MOST_IN_LAYER)))
    (c_MOST_UNITS : PySem.W.nsIn K mainGlobals "MOST_UNITS" = some (some (.int 128 t_MOST_UNITS)))
    (c_MOST_TEXT : PySem.W.nsIn K mainGlobals "MOST_TEXT" = some (some (.int 1200000 t_MOST_TEXT)))
    (c_MOST_DIGITS : PySem.W.nsIn K mainGlobals "MOST_DIGITS" = some (some (.int 60 t_MOST_DIGITS)))
    (c_BLANKS : PySem.W.nsIn K mainGlobals "BLANKS" = some (some (.str (Str.ofString "  ") t_BLANKS)))
    (c_HEAD : PySem.W.nsIn K mainGlobals "HEAD" = some (some (.str (Str.ofString "network ") t_HEAD)))
    (a__is_whole : PySem.W.nsIn K mainGlobals "is_whole" = some (some (.ref a_is_whole)))
    (l__is_whole : K.lookup a_is_whole = some ⟨oc_is_whole, od_is_whole, .func (PySem.W.fnOf "is_whole" "is_whole" (defArgs s_is_whole) (defBody s_is_whole) (defScope s_is_whole) .none kV_is_whole dc_is_whole pm_is_whole an_is_whole cd_is_whole ct_is_whole), sl_is_whole⟩)
    (c__is_whole : PySem.W.codeIn K cd_is_whole "is_whole" = true)
    (k__is_whole : PySem.W.keepIn K (.ref a_is_whole) = true)
    (a__is_short : PySem.W.nsIn K mainGlobals "is_short" = some (some (.ref a_is_short)))
    (l__is_short : K.lookup a_is_short = some ⟨oc_is_short, od_is_short, .func (PySem.W.fnOf "is_short" "is_short" (defArgs s_is_short) (defBody s_is_short) (defScope s_is_short) .none kV_is_short dc_is_short pm_is_short an_is_short cd_is_short ct_is_short), sl_is_short⟩)
    (c__is_short : PySem.W.codeIn K cd_is_short "is_short" = true)
    (k__is_short : PySem.W.keepIn K (.ref a_is_short) = true)
    (a__are_short : PySem.W.nsIn K mainGlobals "are_short" = some (some (.ref a_are_short)))
    (l__are_short : K.lookup a_are_short = some ⟨oc_are_short, od_are_short, .func (PySem.W.fnOf "are_short" "are_short" (defArgs s_are_short) (defBody s_are_short) (defScope s_are_short) .none kV_are_short dc_are_short pm_are_short an_are_short cd_are_short ct_are_short), sl_are_short⟩)
    (c__are_short : PySem.W.codeIn K cd_are_short "are_short" = true)
    (k__are_short : PySem.W.keepIn K (.ref a_are_short) = true)
    (a__is_short_row : PySem.W.nsIn K mainGlobals "is_short_row" = some (some (.ref a_is_short_row)))
    (l__is_short_row : K.lookup a_is_short_row = some ⟨oc_is_short_row, od_is_short_row, .func (PySem.W.fnOf "is_short_row" "is_short_row" (defArgs s_is_short_row) (defBody s_is_short_row) (defScope s_is_short_row) .none kV_is_short_row dc_is_short_row pm_is_short_row an_is_short_row cd_is_short_row ct_is_short_row), sl_is_short_row⟩)
    (c__is_short_row : PySem.W.codeIn K cd_is_short_row "is_short_row" = true)
    (k__is_short_row : PySem.W.keepIn K (.ref a_is_short_row) = true)
    (a__are_short_rows : PySem.W.nsIn K mainGlobals "are_short_rows" = some (some (.ref a_are_short_rows)))
    (l__are_short_rows : K.lookup a_are_short_rows = some ⟨oc_are_short_rows, od_are_short_rows, .func (PySem.W.fnOf "are_short_rows" "are_short_rows" (defArgs s_are_short_rows) (defBody s_are_short_rows) (defScope s_are_short_rows) .none kV_are_short_rows dc_are_short_rows pm_are_short_rows an_are_short_rows cd_are_short_rows ct_are_short_rows), sl_are_short_rows⟩)
    (c__are_short_rows : PySem.W.codeIn K cd_are_short_rows "are_short_rows" = true)
    (k__are_short_rows : PySem.W.keepIn K (.ref a_are_short_rows) = true)
    (a__are_ascending : PySem.W.nsIn K mainGlobals "are_ascending" = some (some (.ref a_are_ascending)))
    (l__are_ascending : K.lookup a_are_ascending = some ⟨oc_are_ascending, od_are_ascending, .func (PySem.W.fnOf "are_ascending" "are_ascending" (defArgs s_are_ascending) (defBody s_are_ascending) (defScope s_are_ascending) .none kV_are_ascending dc_are_ascending pm_are_ascending an_are_ascending cd_are_ascending ct_are_ascending), sl_are_ascending⟩)
    (c__are_ascending : PySem.W.codeIn K cd_are_ascending "are_ascending" = true)
    (k__are_ascending : PySem.W.keepIn K (.ref a_are_ascending) = true)
    (a__is_lot : PySem.W.nsIn K mainGlobals "is_lot" = some (some (.ref a_is_lot)))
    (l__is_lot : K.lookup a_is_lot = some ⟨oc_is_lot, od_is_lot, .func (PySem.W.fnOf "is_lot" "is_lot" (defArgs s_is_lot) (defBody s_is_lot) (defScope s_is_lot) .none kV_is_lot dc_is_lot pm_is_lot an_is_lot cd_is_lot ct_is_lot), sl_is_lot⟩)
    (c__is_lot : PySem.W.codeIn K cd_is_lot "is_lot" = true)
    (k__is_lot : PySem.W.keepIn K (.ref a_is_lot) = true)
    (a__need_lot : PySem.W.nsIn K mainGlobals "need_lot" = some (some (.ref a_need_lot)))
    (l__need_lot : K.lookup a_need_lot = some ⟨oc_need_lot, od_need_lot, .func (PySem.W.fnOf "need_lot" "need_lot" (defArgs s_need_lot) (defBody s_need_lot) (defScope s_need_lot) .none kV_need_lot dc_need_lot pm_need_lot an_need_lot cd_need_lot ct_need_lot), sl_need_lot⟩)
    (c__need_lot : PySem.W.codeIn K cd_need_lot "need_lot" = true)
    (k__need_lot : PySem.W.keepIn K (.ref a_need_lot) = true)
    (a__Networku_initu : PySem.W.findIn K (.ref C) "__init__" = some (some (.ref a_Networku_initu)))
    (i__Networku_initu : PySem.W.isFn K (.ref a_Networku_initu) = true)
    (l__Networku_initu : K.lookup a_Networku_initu = some ⟨oc_Networku_initu, od_Networku_initu, .func (PySem.W.fnOf "__init__" "Network.__init__" (defArgs s_Networku_initu) (defBody s_Networku_initu) (defScope s_Networku_initu) .none kV_Networku_initu dc_Networku_initu pm_Networku_initu an_Networku_initu cd_Networku_initu ct_Networku_initu), sl_Networku_initu⟩)
    (c__Networku_initu : PySem.W.codeIn K cd_Networku_initu "Network.__init__" = true)
    (k__Networku_initu : PySem.W.keepIn K (.ref a_Networku_initu) = true)
    (a__Networku_equ : PySem.W.findIn K (.ref C) "__eq__" = some (some (.ref a_Networku_equ)))
    (i__Networku_equ : PySem.W.isFn K (.ref a_Networku_equ) = true)
    (l__Networku_equ : K.lookup a_Networku_equ = some ⟨oc_Networku_equ, od_Networku_equ, .func (PySem.W.fnOf "__eq__" "Network.__eq__" (defArgs s_Networku_equ) (defBody s_Networku_equ) (defScope s_Networku_equ) .none kV_Networku_equ dc_Networku_equ pm_Networku_equ an_Networku_equ cd_Networku_equ ct_Networku_equ), sl_Networku_equ⟩)
    (c__Networku_equ : PySem.W.codeIn K cd_Networku_equ "Network.__eq__" = true)
    (k__Networku_equ : PySem.W.keepIn K (.ref a_Networku_equ) = true)
    (a__are_parts : PySem.W.nsIn K mainGlobals "are_parts" = some (some (.ref a_are_parts)))
    (l__are_parts : K.lookup a_are_parts = some ⟨oc_are_parts, od_are_parts, .func (PySem.W.fnOf "are_parts" "are_parts" (defArgs s_are_parts) (defBody s_are_parts) (defScope s_are_parts) .none kV_are_parts dc_are_parts pm_are_parts an_are_parts cd_are_parts ct_are_parts), sl_are_parts⟩)
    (c__are_parts : PySem.W.codeIn K cd_are_parts "are_parts" = true)
    (k__are_parts : PySem.W.keepIn K (.ref a_are_parts) = true)
    (a__need_network : PySem.W.nsIn K mainGlobals "need_network" = some (some (.ref a_need_network)))
    (l__need_network : K.lookup a_need_network = some ⟨oc_need_network, od_need_network, .func (PySem.W.fnOf "need_network" "need_network" (defArgs s_need_network) (defBody s_need_network) (defScope s_need_network) .none kV_need_network dc_need_network pm_need_network an_need_network cd_need_network ct_need_network), sl_need_network⟩)
    (c__need_network : PySem.W.codeIn K cd_need_network "need_network" = true)
    (k__need_network : PySem.W.keepIn K (.ref a_need_network) = true)
    (a__is_reading : PySem.W.nsIn K mainGlobals "is_reading" = some (some (.ref a_is_reading)))
    (l__is_reading : K.lookup a_is_reading = some ⟨oc_is_reading, od_is_reading, .func (PySem.W.fnOf "is_reading" "is_reading" (defArgs s_is_reading) (defBody s_is_reading) (defScope s_is_reading) .none kV_is_reading dc_is_reading pm_is_reading an_is_reading cd_is_reading ct_is_reading), sl_is_reading⟩)
    (c__is_reading : PySem.W.codeIn K cd_is_reading "is_reading" = true)
    (k__is_reading : PySem.W.keepIn K (.ref a_is_reading) = true)
    (a__need_reading : PySem.W.nsIn K mainGlobals "need_reading" = some (some (.ref a_need_reading)))
    (l__need_reading : K.lookup a_need_reading = some ⟨oc_need_reading, od_need_reading, .func (PySem.W.fnOf "need_reading" "need_reading" (defArgs s_need_reading) (defBody s_need_reading) (defScope s_need_reading) .none kV_need_reading dc_need_reading pm_need_reading an_need_reading cd_need_reading ct_need_reading), sl_need_reading⟩)
    (c__need_reading : PySem.W.codeIn K cd_need_reading "need_reading" = true)
    (k__need_reading : PySem.W.keepIn K (.ref a_need_reading) = true)
    (a__row_line : PySem.W.nsIn K mainGlobals "row_line" = some (some (.ref a_row_line)))
    (l__row_line : K.lookup a_row_line = some ⟨oc_row_line, od_row_line, .func (PySem.W.fnOf "row_line" "row_line" (defArgs s_row_line) (defBody s_row_line) (defScope s_row_line) .none kV_row_line dc_row_line pm_row_line an_row_line cd_row_line ct_row_line), sl_row_line⟩)
    (c__row_line : PySem.W.codeIn K cd_row_line "row_line" = true)
    (k__row_line : PySem.W.keepIn K (.ref a_row_line) = true)
    (a__text_of : PySem.W.nsIn K mainGlobals "text_of" = some (some (.ref a_text_of)))
    (l__text_of : K.lookup a_text_of = some ⟨oc_text_of, od_text_of, .func (PySem.W.fnOf "text_of" "text_of" (defArgs s_text_of) (defBody s_text_of) (defScope s_text_of) .none kV_text_of dc_text_of pm_text_of an_text_of cd_text_of ct_text_of), sl_text_of⟩)
    (c__text_of : PySem.W.codeIn K cd_text_of "text_of" = true)
    (k__text_of : PySem.W.keepIn K (.ref a_text_of) = true)
    (a__lot_text : PySem.W.nsIn K mainGlobals "lot_text" = some (some (.ref a_lot_text)))
    (l__lot_text : K.lookup a_lot_text = some ⟨oc_lot_text, od_lot_text, .func (PySem.W.fnOf "lot_text" "lot_text" (defArgs s_lot_text) (defBody s_lot_text) (defScope s_lot_text) .none kV_lot_text dc_lot_text pm_lot_text an_lot_text cd_lot_text ct_lot_text), sl_lot_text⟩)
    (c__lot_text : PySem.W.codeIn K cd_lot_text "lot_text" = true)
    (k__lot_text : PySem.W.keepIn K (.ref a_lot_text) = true)
    (a__reading_text : PySem.W.nsIn K mainGlobals "reading_text" = some (some (.ref a_reading_text)))
    (l__reading_text : K.lookup a_reading_text = some ⟨oc_reading_text, od_reading_text, .func (PySem.W.fnOf "reading_text" "reading_text" (defArgs s_reading_text) (defBody s_reading_text) (defScope s_reading_text) .none kV_reading_text dc_reading_text pm_reading_text an_reading_text cd_reading_text ct_reading_text), sl_reading_text⟩)
    (c__reading_text : PySem.W.codeIn K cd_reading_text "reading_text" = true)
    (k__reading_text : PySem.W.keepIn K (.ref a_reading_text) = true)
    (a__network_text : PySem.W.nsIn K mainGlobals "network_text" = some (some (.ref a_network_text)))
    (l__network_text : K.lookup a_network_text = some ⟨oc_network_text, od_network_text, .func (PySem.W.fnOf "network_text" "network_text" (defArgs s_network_text) (defBody s_network_text) (defScope s_network_text) .none kV_network_text dc_network_text pm_network_text an_network_text cd_network_text ct_network_text), sl_network_text⟩)
    (c__network_text : PySem.W.codeIn K cd_network_text "network_text" = true)
    (k__network_text : PySem.W.keepIn K (.ref a_network_text) = true)
    (a__Linesu_initu : PySem.W.findIn K (.ref CL) "__init__" = some (some (.ref a_Linesu_initu)))
    (i__Linesu_initu : PySem.W.isFn K (.ref a_Linesu_initu) = true)
    (l__Linesu_initu : K.lookup a_Linesu_initu = some ⟨oc_Linesu_initu, od_Linesu_initu, .func (PySem.W.fnOf "__init__" "Lines.__init__" (defArgs s_Linesu_initu) (defBody s_Linesu_initu) (defScope s_Linesu_initu) .none kV_Linesu_initu dc_Linesu_initu pm_Linesu_initu an_Linesu_initu cd_Linesu_initu ct_Linesu_initu), sl_Linesu_initu⟩)
    (c__Linesu_initu : PySem.W.codeIn K cd_Linesu_initu "Lines.__init__" = true)
    (k__Linesu_initu : PySem.W.keepIn K (.ref a_Linesu_initu) = true)
    (a__Lines_line : PySem.W.findIn K (.ref CL) "line" = some (some (.ref a_Lines_line)))
    (i__Lines_line : PySem.W.isFn K (.ref a_Lines_line) = true)
    (l__Lines_line : K.lookup a_Lines_line = some ⟨oc_Lines_line, od_Lines_line, .func (PySem.W.fnOf "line" "Lines.line" (defArgs s_Lines_line) (defBody s_Lines_line) (defScope s_Lines_line) .none kV_Lines_line dc_Lines_line pm_Lines_line an_Lines_line cd_Lines_line ct_Lines_line), sl_Lines_line⟩)
    (c__Lines_line : PySem.W.codeIn K cd_Lines_line "Lines.line" = true)
    (k__Lines_line : PySem.W.keepIn K (.ref a_Lines_line) = true)
    (a__Lines_row : PySem.W.findIn K (.ref CL) "row" = some (some (.ref a_Lines_row)))
    (i__Lines_row : PySem.W.isFn K (.ref a_Lines_row) = true)
    (l__Lines_row : K.lookup a_Lines_row = some ⟨oc_Lines_row, od_Lines_row, .func (PySem.W.fnOf "row" "Lines.row" (defArgs s_Lines_row) (defBody s_Lines_row) (defScope s_Lines_row) .none kV_Lines_row dc_Lines_row pm_Lines_row an_Lines_row cd_Lines_row ct_Lines_row), sl_Lines_row⟩)
    (c__Lines_row : PySem.W.codeIn K cd_Lines_row "Lines.row" = true)
    (k__Lines_row : PySem.W.keepIn K (.ref a_Lines_row) = true)
    (a__Lines_go_on : PySem.W.findIn K (.ref CL) "go_on" = some (some (.ref a_Lines_go_on)))
    (i__Lines_go_on : PySem.W.isFn K (.ref a_Lines_go_on) = true)
    (l__Lines_go_on : K.lookup a_Lines_go_on = some ⟨oc_Lines_go_on, od_Lines_go_on, .func (PySem.W.fnOf "go_on" "Lines.go_on" (defArgs s_Lines_go_on) (defBody s_Lines_go_on) (defScope s_Lines_go_on) .none kV_Lines_go_on dc_Lines_go_on pm_Lines_go_on an_Lines_go_on cd_Lines_go_on ct_Lines_go_on), sl_Lines_go_on⟩)
    (c__Lines_go_on : PySem.W.codeIn K cd_Lines_go_on "Lines.go_on" = true)
    (k__Lines_go_on : PySem.W.keepIn K (.ref a_Lines_go_on) = true)
    (a__Lines_word : PySem.W.findIn K (.ref CL) "word" = some (some (.ref a_Lines_word)))
    (i__Lines_word : PySem.W.isFn K (.ref a_Lines_word) = true)
    (l__Lines_word : K.lookup a_Lines_word = some ⟨oc_Lines_word, od_Lines_word, .func (PySem.W.fnOf "word" "Lines.word" (defArgs s_Lines_word) (defBody s_Lines_word) (defScope s_Lines_word) .none kV_Lines_word dc_Lines_word pm_Lines_word an_Lines_word cd_Lines_word ct_Lines_word), sl_Lines_word⟩)
    (c__Lines_word : PySem.W.codeIn K cd_Lines_word "Lines.word" = true)
    (k__Lines_word : PySem.W.keepIn K (.ref a_Lines_word) = true)
    (a__Lines_close : PySem.W.findIn K (.ref CL) "close" = some (some (.ref a_Lines_close)))
    (i__Lines_close : PySem.W.isFn K (.ref a_Lines_close) = true)
    (l__Lines_close : K.lookup a_Lines_close = some ⟨oc_Lines_close, od_Lines_close, .func (PySem.W.fnOf "close" "Lines.close" (defArgs s_Lines_close) (defBody s_Lines_close) (defScope s_Lines_close) .none kV_Lines_close dc_Lines_close pm_Lines_close an_Lines_close cd_Lines_close ct_Lines_close), sl_Lines_close⟩)
    (c__Lines_close : PySem.W.codeIn K cd_Lines_close "Lines.close" = true)
    (k__Lines_close : PySem.W.keepIn K (.ref a_Lines_close) = true)
    (a__whole_in : PySem.W.nsIn K mainGlobals "whole_in" = some (some (.ref a_whole_in)))
    (l__whole_in : K.lookup a_whole_in = some ⟨oc_whole_in, od_whole_in, .func (PySem.W.fnOf "whole_in" "whole_in" (defArgs s_whole_in) (defBody s_whole_in) (defScope s_whole_in) .none kV_whole_in dc_whole_in pm_whole_in an_whole_in cd_whole_in ct_whole_in), sl_whole_in⟩)
    (c__whole_in : PySem.W.codeIn K cd_whole_in "whole_in" = true)
    (k__whole_in : PySem.W.keepIn K (.ref a_whole_in) = true)
    (a__row_in : PySem.W.nsIn K mainGlobals "row_in" = some (some (.ref a_row_in)))
    (l__row_in : K.lookup a_row_in = some ⟨oc_row_in, od_row_in, .func (PySem.W.fnOf "row_in" "row_in" (defArgs s_row_in) (defBody s_row_in) (defScope s_row_in) .none kV_row_in dc_row_in pm_row_in an_row_in cd_row_in ct_row_in), sl_row_in⟩)
    (c__row_in : PySem.W.codeIn K cd_row_in "row_in" = true)
    (k__row_in : PySem.W.keepIn K (.ref a_row_in) = true)
    (a__need_text : PySem.W.nsIn K mainGlobals "need_text" = some (some (.ref a_need_text)))
    (l__need_text : K.lookup a_need_text = some ⟨oc_need_text, od_need_text, .func (PySem.W.fnOf "need_text" "need_text" (defArgs s_need_text) (defBody s_need_text) (defScope s_need_text) .none kV_need_text dc_need_text pm_need_text an_need_text cd_need_text ct_need_text), sl_need_text⟩)
    (c__need_text : PySem.W.codeIn K cd_need_text "need_text" = true)
    (k__need_text : PySem.W.keepIn K (.ref a_need_text) = true)
    (a__points_in : PySem.W.nsIn K mainGlobals "points_in" = some (some (.ref a_points_in)))
    (l__points_in : K.lookup a_points_in = some ⟨oc_points_in, od_points_in, .func (PySem.W.fnOf "points_in" "points_in" (defArgs s_points_in) (defBody s_points_in) (defScope s_points_in) .none kV_points_in dc_points_in pm_points_in an_points_in cd_points_in ct_points_in), sl_points_in⟩)
    (c__points_in : PySem.W.codeIn K cd_points_in "points_in" = true)
    (k__points_in : PySem.W.keepIn K (.ref a_points_in) = true)
    (a__read_lot : PySem.W.nsIn K mainGlobals "read_lot" = some (some (.ref a_read_lot)))
    (l__read_lot : K.lookup a_read_lot = some ⟨oc_read_lot, od_read_lot, .func (PySem.W.fnOf "read_lot" "read_lot" (defArgs s_read_lot) (defBody s_read_lot) (defScope s_read_lot) .none kV_read_lot dc_read_lot pm_read_lot an_read_lot cd_read_lot ct_read_lot), sl_read_lot⟩)
    (c__read_lot : PySem.W.codeIn K cd_read_lot "read_lot" = true)
    (k__read_lot : PySem.W.keepIn K (.ref a_read_lot) = true)
    (a__read_reading : PySem.W.nsIn K mainGlobals "read_reading" = some (some (.ref a_read_reading)))
    (l__read_reading : K.lookup a_read_reading = some ⟨oc_read_reading, od_read_reading, .func (PySem.W.fnOf "read_reading" "read_reading" (defArgs s_read_reading) (defBody s_read_reading) (defScope s_read_reading) .none kV_read_reading dc_read_reading pm_read_reading an_read_reading cd_read_reading ct_read_reading), sl_read_reading⟩)
    (c__read_reading : PySem.W.codeIn K cd_read_reading "read_reading" = true)
    (k__read_reading : PySem.W.keepIn K (.ref a_read_reading) = true)
    (a__inputs_in : PySem.W.nsIn K mainGlobals "inputs_in" = some (some (.ref a_inputs_in)))
    (l__inputs_in : K.lookup a_inputs_in = some ⟨oc_inputs_in, od_inputs_in, .func (PySem.W.fnOf "inputs_in" "inputs_in" (defArgs s_inputs_in) (defBody s_inputs_in) (defScope s_inputs_in) .none kV_inputs_in dc_inputs_in pm_inputs_in an_inputs_in cd_inputs_in ct_inputs_in), sl_inputs_in⟩)
    (c__inputs_in : PySem.W.codeIn K cd_inputs_in "inputs_in" = true)
    (k__inputs_in : PySem.W.keepIn K (.ref a_inputs_in) = true)
    (a__need_unit : PySem.W.nsIn K mainGlobals "need_unit" = some (some (.ref a_need_unit)))
    (l__need_unit : K.lookup a_need_unit = some ⟨oc_need_unit, od_need_unit, .func (PySem.W.fnOf "need_unit" "need_unit" (defArgs s_need_unit) (defBody s_need_unit) (defScope s_need_unit) .none kV_need_unit dc_need_unit pm_need_unit an_need_unit cd_need_unit ct_need_unit), sl_need_unit⟩)
    (c__need_unit : PySem.W.codeIn K cd_need_unit "need_unit" = true)
    (k__need_unit : PySem.W.keepIn K (.ref a_need_unit) = true)
    (a__layer_in : PySem.W.nsIn K mainGlobals "layer_in" = some (some (.ref a_layer_in)))
    (l__layer_in : K.lookup a_layer_in = some ⟨oc_layer_in, od_layer_in, .func (PySem.W.fnOf "layer_in" "layer_in" (defArgs s_layer_in) (defBody s_layer_in) (defScope s_layer_in) .none kV_layer_in dc_layer_in pm_layer_in an_layer_in cd_layer_in ct_layer_in), sl_layer_in⟩)
    (c__layer_in : PySem.W.codeIn K cd_layer_in "layer_in" = true)
    (k__layer_in : PySem.W.keepIn K (.ref a_layer_in) = true)
    (a__read_network : PySem.W.nsIn K mainGlobals "read_network" = some (some (.ref a_read_network)))
    (l__read_network : K.lookup a_read_network = some ⟨oc_read_network, od_read_network, .func (PySem.W.fnOf "read_network" "read_network" (defArgs s_read_network) (defBody s_read_network) (defScope s_read_network) .none kV_read_network dc_read_network pm_read_network an_read_network cd_read_network ct_read_network), sl_read_network⟩)
    (c__read_network : PySem.W.codeIn K cd_read_network "read_network" = true)
    (k__read_network : PySem.W.keepIn K (.ref a_read_network) = true)
    (a___law_pack : PySem.W.nsIn K mainGlobals "_law_pack" = some (some (.ref a__law_pack)))
    (l___law_pack : K.lookup a__law_pack = some ⟨oc__law_pack, od__law_pack, .func (PySem.W.fnOf "_law_pack" "_law_pack" (defArgs s__law_pack) (defBody s__law_pack) (defScope s__law_pack) .none kV__law_pack dc__law_pack pm__law_pack an__law_pack cd__law_pack ct__law_pack), sl__law_pack⟩)
    (c___law_pack : PySem.W.codeIn K cd__law_pack "_law_pack" = true)
    (k___law_pack : PySem.W.keepIn K (.ref a__law_pack) = true)
    (a___law_dealt : PySem.W.nsIn K mainGlobals "_law_dealt" = some (some (.ref a__law_dealt)))
    (l___law_dealt : K.lookup a__law_dealt = some ⟨oc__law_dealt, od__law_dealt, .func (PySem.W.fnOf "_law_dealt" "_law_dealt" (defArgs s__law_dealt) (defBody s__law_dealt) (defScope s__law_dealt) .none kV__law_dealt dc__law_dealt pm__law_dealt an__law_dealt cd__law_dealt ct__law_dealt), sl__law_dealt⟩)
    (c___law_dealt : PySem.W.codeIn K cd__law_dealt "_law_dealt" = true)
    (k___law_dealt : PySem.W.keepIn K (.ref a__law_dealt) = true)
    (a___law_one_of : PySem.W.nsIn K mainGlobals "_law_one_of" = some (some (.ref a__law_one_of)))
    (l___law_one_of : K.lookup a__law_one_of = some ⟨oc__law_one_of, od__law_one_of, .func (PySem.W.fnOf "_law_one_of" "_law_one_of" (defArgs s__law_one_of) (defBody s__law_one_of) (defScope s__law_one_of) .none kV__law_one_of dc__law_one_of pm__law_one_of an__law_one_of cd__law_one_of ct__law_one_of), sl__law_one_of⟩)
    (c___law_one_of : PySem.W.codeIn K cd__law_one_of "_law_one_of" = true)
    (k___law_one_of : PySem.W.keepIn K (.ref a__law_one_of) = true)
    (a___law_number_drawn : PySem.W.nsIn K mainGlobals "_law_number_drawn" = some (some (.ref a__law_number_drawn)))
    (l___law_number_drawn : K.lookup a__law_number_drawn = some ⟨oc__law_number_drawn, od__law_number_drawn, .func (PySem.W.fnOf "_law_number_drawn" "_law_number_drawn" (defArgs s__law_number_drawn) (defBody s__law_number_drawn) (defScope s__law_number_drawn) .none kV__law_number_drawn dc__law_number_drawn pm__law_number_drawn an__law_number_drawn cd__law_number_drawn ct__law_number_drawn), sl__law_number_drawn⟩)
    (c___law_number_drawn : PySem.W.codeIn K cd__law_number_drawn "_law_number_drawn" = true)
    (k___law_number_drawn : PySem.W.keepIn K (.ref a__law_number_drawn) = true)
    (a___law_rows_drawn : PySem.W.nsIn K mainGlobals "_law_rows_drawn" = some (some (.ref a__law_rows_drawn)))
    (l___law_rows_drawn : K.lookup a__law_rows_drawn = some ⟨oc__law_rows_drawn, od__law_rows_drawn, .func (PySem.W.fnOf "_law_rows_drawn" "_law_rows_drawn" (defArgs s__law_rows_drawn) (defBody s__law_rows_drawn) (defScope s__law_rows_drawn) .none kV__law_rows_drawn dc__law_rows_drawn pm__law_rows_drawn an__law_rows_drawn cd__law_rows_drawn ct__law_rows_drawn), sl__law_rows_drawn⟩)
    (c___law_rows_drawn : PySem.W.codeIn K cd__law_rows_drawn "_law_rows_drawn" = true)
    (k___law_rows_drawn : PySem.W.keepIn K (.ref a__law_rows_drawn) = true)
    (a___law_parts_drawn : PySem.W.nsIn K mainGlobals "_law_parts_drawn" = some (some (.ref a__law_parts_drawn)))
    (l___law_parts_drawn : K.lookup a__law_parts_drawn = some ⟨oc__law_parts_drawn, od__law_parts_drawn, .func (PySem.W.fnOf "_law_parts_drawn" "_law_parts_drawn" (defArgs s__law_parts_drawn) (defBody s__law_parts_drawn) (defScope s__law_parts_drawn) .none kV__law_parts_drawn dc__law_parts_drawn pm__law_parts_drawn an__law_parts_drawn cd__law_parts_drawn ct__law_parts_drawn), sl__law_parts_drawn⟩)
    (c___law_parts_drawn : PySem.W.codeIn K cd__law_parts_drawn "_law_parts_drawn" = true)
    (k___law_parts_drawn : PySem.W.keepIn K (.ref a__law_parts_drawn) = true)
    (a___law_line : PySem.W.nsIn K mainGlobals "_law_line" = some (some (.ref a__law_line)))
    (l___law_line : K.lookup a__law_line = some ⟨oc__law_line, od__law_line, .func (PySem.W.fnOf "_law_line" "_law_line" (defArgs s__law_line) (defBody s__law_line) (defScope s__law_line) .none kV__law_line dc__law_line pm__law_line an__law_line cd__law_line ct__law_line), sl__law_line⟩)
    (c___law_line : PySem.W.codeIn K cd__law_line "_law_line" = true)
    (k___law_line : PySem.W.keepIn K (.ref a__law_line) = true)
    (a___law_joined : PySem.W.nsIn K mainGlobals "_law_joined" = some (some (.ref a__law_joined)))
    (l___law_joined : K.lookup a__law_joined = some ⟨oc__law_joined, od__law_joined, .func (PySem.W.fnOf "_law_joined" "_law_joined" (defArgs s__law_joined) (defBody s__law_joined) (defScope s__law_joined) .none kV__law_joined dc__law_joined pm__law_joined an__law_joined cd__law_joined ct__law_joined), sl__law_joined⟩)
    (c___law_joined : PySem.W.codeIn K cd__law_joined "_law_joined" = true)
    (k___law_joined : PySem.W.keepIn K (.ref a__law_joined) = true)
    (a___law_network_lines : PySem.W.nsIn K mainGlobals "_law_network_lines" = some (some (.ref a__law_network_lines)))
    (l___law_network_lines : K.lookup a__law_network_lines = some ⟨oc__law_network_lines, od__law_network_lines, .func (PySem.W.fnOf "_law_network_lines" "_law_network_lines" (defArgs s__law_network_lines) (defBody s__law_network_lines) (defScope s__law_network_lines) .none kV__law_network_lines dc__law_network_lines pm__law_network_lines an__law_network_lines cd__law_network_lines ct__law_network_lines), sl__law_network_lines⟩)
    (c___law_network_lines : PySem.W.codeIn K cd__law_network_lines "_law_network_lines" = true)
    (k___law_network_lines : PySem.W.keepIn K (.ref a__law_network_lines) = true)
    (a___law_right : PySem.W.nsIn K mainGlobals "_law_right" = some (some (.ref a__law_right)))
    (l___law_right : K.lookup a__law_right = some ⟨oc__law_right, od__law_right, .func (PySem.W.fnOf "_law_right" "_law_right" (defArgs s__law_right) (defBody s__law_right) (defScope s__law_right) .none kV__law_right dc__law_right pm__law_right an__law_right cd__law_right ct__law_right), sl__law_right⟩)
    (c___law_right : PySem.W.codeIn K cd__law_right "_law_right" = true)
    (k___law_right : PySem.W.keepIn K (.ref a__law_right) = true)
    (a__law : PySem.W.nsIn K mainGlobals "law" = some (some (.ref a_law)))
    (l__law : K.lookup a_law = some ⟨oc_law, od_law, .func (PySem.W.fnOf "law" "law" (defArgs s_law) (defBody s_law) (defScope s_law) .none kV_law dc_law pm_law an_law cd_law ct_law), sl_law⟩)
    (c__law : PySem.W.codeIn K cd_law "law" = true)
    (k__law : PySem.W.keepIn K (.ref a_law) = true)
    (z_isinstance : PySem.W.nsIn K mainGlobals "isinstance" = some none)
    (z_int : PySem.W.nsIn K mainGlobals "int" = some none)
    (z_bool : PySem.W.nsIn K mainGlobals "bool" = some none)
    (z_tuple : PySem.W.nsIn K mainGlobals "tuple" = some none)
    (z_list : PySem.W.nsIn K mainGlobals "list" = some none)
    (z_len : PySem.W.nsIn K mainGlobals "len" = some none)
    (z_sum : PySem.W.nsIn K mainGlobals "sum" = some none)
    (z_all : PySem.W.nsIn K mainGlobals "all" = some none)
    (z_any : PySem.W.nsIn K mainGlobals "any" = some none)
    (z_zip : PySem.W.nsIn K mainGlobals "zip" = some none)
    (z_max : PySem.W.nsIn K mainGlobals "max" = some none)
    (z_min : PySem.W.nsIn K mainGlobals "min" = some none)
    (z_abs : PySem.W.nsIn K mainGlobals "abs" = some none)
    (z_range : PySem.W.nsIn K mainGlobals "range" = some none)
    (z_enumerate : PySem.W.nsIn K mainGlobals "enumerate" = some none)
    (z_reversed : PySem.W.nsIn K mainGlobals "reversed" = some none)
    (z_sorted : PySem.W.nsIn K mainGlobals "sorted" = some none)
    (z_str : PySem.W.nsIn K mainGlobals "str" = some none)
    (pg : PySem.W.plainGet K C Str.empty = true)
    (hd : PySem.W.hasDictIn K C = true)
    (po : PySem.W.plainOver K C = true)
    (sa : PySem.W.findIn K (.ref C) "__setattr__" = some (some (.builtin "object.__setattr__")))
    (mk : PySem.W.makesIn K C = true)
    (kc : PySem.W.keepIn K (.ref C) = true)
    (n_inputs : PySem.W.findIn K (.ref C) "inputs" = some none)
    (n_layers : PySem.W.findIn K (.ref C) "layers" = some none)
    (n_last : PySem.W.findIn K (.ref C) "last" = some none)
    (n_depth : PySem.W.findIn K (.ref C) "depth" = some none)
    (n_units : PySem.W.findIn K (.ref C) "units" = some none)
    (ica : PySem.W.findIn K (.ref C) "__class__" = some (some (.builtin "object.__class__")))
    (icn : PySem.W.specialIn K (.builtin "object.__class__") "__get__" = some (some (.builtin "getset_descriptor.__get__")))
    (ict : PySem.W.takesIn K (.builtin "object.__class__") = some true)
    (icm : PySem.W.mroIn K C (.type "object") = some true)
    (one : PySem.W.findIn K (.ref C) "__ne__" = some (some (.builtin "object.__ne__")))
    (osub : PySem.W.notFirst K C (.ref C) = true)
    (pgCL : PySem.W.plainGet K CL Str.empty = true)
    (hdCL : PySem.W.hasDictIn K CL = true)
    (poCL : PySem.W.plainOver K CL = true)
    (saCL : PySem.W.findIn K (.ref CL) "__setattr__" = some (some (.builtin "object.__setattr__")))
    (mkCL : PySem.W.makesIn K CL = true)
    (kcCL : PySem.W.keepIn K (.ref CL) = true)
    (nCL_lines : PySem.W.findIn K (.ref CL) "lines" = some none)
    (nCL_at : PySem.W.findIn K (.ref CL) "at" = some none)
    (x__icl : PySem.W.isClsIn K C = true)
    (x__tyC : PySem.W.typeIn K (.ref C) = some (.type "type"))
    (x__ns_non : PySem.W.notFirst K C (.type "NoneType") = true)
    (x__sb_non : PySem.W.subIn K (.type "NoneType") (.ref C) = some false)
    (x__ns_int : PySem.W.notFirst K C (.type "int") = true)
    (x__sb_int : PySem.W.subIn K (.type "int") (.ref C) = some false)
    (x__ns_tup : PySem.W.notFirst K C (.type "tuple") = true)
    (x__sb_tup : PySem.W.subIn K (.type "tuple") (.ref C) = some false) :
    ∃ fd : FuncData, (∀ (s : Shared) (v : Value), BindsTo s fd ⟨[v], []⟩ [("script", v)]) ∧ ∀ base : Heap, K.In base → base.Ns mainGlobals mg → FnOk l.prog w K mg base CX0 9 fa fd ["script"] (SpD K gLaw) := by
  have e := hfa.symm.trans (PySem.W.mg_of X G a__law)
  cases e
  have F_is_whole := fun_mk (st := s_is_whole) l__is_whole c__is_whole k__is_whole
  have b_is_whole := F_is_whole.binds (ps := ["value"]) fun _ _ _ _ _ _ us hl => match us, hl with | [_], _ => rfl
  have F_is_short := fun_mk (st := s_is_short) l__is_short c__is_short k__is_short
  have b_is_short := F_is_short.binds (ps := ["value"]) fun _ _ _ _ _ _ us hl => match us, hl with | [_], _ => rfl
  have F_are_short := fun_mk (st := s_are_short) l__are_short c__are_short k__are_short
  have b_are_short := F_are_short.binds (ps := ["values"]) fun _ _ _ _ _ _ us hl => match us, hl with | [_], _ => rfl
  have F_is_short_row := fun_mk (st := s_is_short_row) l__is_short_row c__is_short_row k__is_short_row
  have b_is_short_row := F_is_short_row.binds (ps := ["value", "least", "most"]) fun _ _ _ _ _ _ us hl => match us, hl with | [_, _, _], _ => rfl
  have F_are_short_rows := fun_mk (st := s_are_short_rows) l__are_short_rows c__are_short_rows k__are_short_rows
  have b_are_short_rows := F_are_short_rows.binds (ps := ["value", "most_rows", "most_length"]) fun _ _ _ _ _ _ us hl => match us, hl with | [_, _, _], _ => rfl
  have F_are_ascending := fun_mk (st := s_are_ascending) l__are_ascending c__are_ascending k__are_ascending
  have b_are_ascending := F_are_ascending.binds (ps := ["values"]) fun _ _ _ _ _ _ us hl => match us, hl with | [_], _ => rfl
  have F_is_lot := fun_mk (st := s_is_lot) l__is_lot c__is_lot k__is_lot
  have b_is_lot := F_is_lot.binds (ps := ["value"]) fun _ _ _ _ _ _ us hl => match us, hl with | [_], _ => rfl
  have F_need_lot := fun_mk (st := s_need_lot) l__need_lot c__need_lot k__need_lot
  have b_need_lot := F_need_lot.binds (ps := ["lot"]) fun _ _ _ _ _ _ us hl => match us, hl with | [_], _ => rfl
  have F_Networku_initu := fun_mk (st := s_Networku_initu) l__Networku_initu c__Networku_initu k__Networku_initu
  have b_Networku_initu := F_Networku_initu.binds (ps := ["self", "inputs", "layers", "last"]) fun _ _ _ _ _ _ us hl => match us, hl with | [_, _, _, _], _ => rfl
  have F_Networku_equ := fun_mk (st := s_Networku_equ) l__Networku_equ c__Networku_equ k__Networku_equ
  have b_Networku_equ := F_Networku_equ.binds (ps := ["self", "value"]) fun _ _ _ _ _ _ us hl => match us, hl with | [_, _], _ => rfl
  have F_are_parts := fun_mk (st := s_are_parts) l__are_parts c__are_parts k__are_parts
  have b_are_parts := F_are_parts.binds (ps := ["inputs", "layers", "last"]) fun _ _ _ _ _ _ us hl => match us, hl with | [_, _, _], _ => rfl
  have F_need_network := fun_mk (st := s_need_network) l__need_network c__need_network k__need_network
  have b_need_network := F_need_network.binds (ps := ["network"]) fun _ _ _ _ _ _ us hl => match us, hl with | [_], _ => rfl
  have F_is_reading := fun_mk (st := s_is_reading) l__is_reading c__is_reading k__is_reading
  have b_is_reading := F_is_reading.binds (ps := ["value"]) fun _ _ _ _ _ _ us hl => match us, hl with | [_], _ => rfl
  have F_need_reading := fun_mk (st := s_need_reading) l__need_reading c__need_reading k__need_reading
  have b_need_reading := F_need_reading.binds (ps := ["reading"]) fun _ _ _ _ _ _ us hl => match us, hl with | [_], _ => rfl
  have F_row_line := fun_mk (st := s_row_line) l__row_line c__row_line k__row_line
  have b_row_line := F_row_line.binds (ps := ["row"]) fun _ _ _ _ _ _ us hl => match us, hl with | [_], _ => rfl
  have F_text_of := fun_mk (st := s_text_of) l__text_of c__text_of k__text_of
  have b_text_of := F_text_of.binds (ps := ["lines"]) fun _ _ _ _ _ _ us hl => match us, hl with | [_], _ => rfl
  have F_lot_text := fun_mk (st := s_lot_text) l__lot_text c__lot_text k__lot_text
  have b_lot_text := F_lot_text.binds (ps := ["lot"]) fun _ _ _ _ _ _ us hl => match us, hl with | [_], _ => rfl
  have F_reading_text := fun_mk (st := s_reading_text) l__reading_text c__reading_text k__reading_text
  have b_reading_text := F_reading_text.binds (ps := ["reading"]) fun _ _ _ _ _ _ us hl => match us, hl with | [_], _ => rfl
  have F_network_text := fun_mk (st := s_network_text) l__network_text c__network_text k__network_text
  have b_network_text := F_network_text.binds (ps := ["network"]) fun _ _ _ _ _ _ us hl => match us, hl with | [_], _ => rfl
  have F_Linesu_initu := fun_mk (st := s_Linesu_initu) l__Linesu_initu c__Linesu_initu k__Linesu_initu
  have b_Linesu_initu := F_Linesu_initu.binds (ps := ["self", "text"]) fun _ _ _ _ _ _ us hl => match us, hl with | [_, _], _ => rfl
  have F_Lines_line := fun_mk (st := s_Lines_line) l__Lines_line c__Lines_line k__Lines_line
  have b_Lines_line := F_Lines_line.binds (ps := ["self"]) fun _ _ _ _ _ _ us hl => match us, hl with | [_], _ => rfl
  have F_Lines_row := fun_mk (st := s_Lines_row) l__Lines_row c__Lines_row k__Lines_row
  have b_Lines_row := F_Lines_row.binds (ps := ["self", "least", "most"]) fun _ _ _ _ _ _ us hl => match us, hl with | [_, _, _], _ => rfl
  have F_Lines_go_on := fun_mk (st := s_Lines_go_on) l__Lines_go_on c__Lines_go_on k__Lines_go_on
  have b_Lines_go_on := F_Lines_go_on.binds (ps := ["self"]) fun _ _ _ _ _ _ us hl => match us, hl with | [_], _ => rfl
  have F_Lines_word := fun_mk (st := s_Lines_word) l__Lines_word c__Lines_word k__Lines_word
  have b_Lines_word := F_Lines_word.binds (ps := ["self", "word"]) fun _ _ _ _ _ _ us hl => match us, hl with | [_, _], _ => rfl
  have F_Lines_close := fun_mk (st := s_Lines_close) l__Lines_close c__Lines_close k__Lines_close
  have b_Lines_close := F_Lines_close.binds (ps := ["self"]) fun _ _ _ _ _ _ us hl => match us, hl with | [_], _ => rfl
  have F_whole_in := fun_mk (st := s_whole_in) l__whole_in c__whole_in k__whole_in
  have b_whole_in := F_whole_in.binds (ps := ["word"]) fun _ _ _ _ _ _ us hl => match us, hl with | [_], _ => rfl
  have F_row_in := fun_mk (st := s_row_in) l__row_in c__row_in k__row_in
  have b_row_in := F_row_in.binds (ps := ["line", "least", "most"]) fun _ _ _ _ _ _ us hl => match us, hl with | [_, _, _], _ => rfl
  have F_need_text := fun_mk (st := s_need_text) l__need_text c__need_text k__need_text
  have b_need_text := F_need_text.binds (ps := ["text"]) fun _ _ _ _ _ _ us hl => match us, hl with | [_], _ => rfl
  have F_points_in := fun_mk (st := s_points_in) l__points_in c__points_in k__points_in
  have b_points_in := F_points_in.binds (ps := ["lines", "length", "word"]) fun _ _ _ _ _ _ us hl => match us, hl with | [_, _, _], _ => rfl
  have F_read_lot := fun_mk (st := s_read_lot) l__read_lot c__read_lot k__read_lot
  have b_read_lot := F_read_lot.binds (ps := ["text"]) fun _ _ _ _ _ _ us hl => match us, hl with | [_], _ => rfl
  have F_read_reading := fun_mk (st := s_read_reading) l__read_reading c__read_reading k__read_reading
  have b_read_reading := F_read_reading.binds (ps := ["text"]) fun _ _ _ _ _ _ us hl => match us, hl with | [_], _ => rfl
  have F_inputs_in := fun_mk (st := s_inputs_in) l__inputs_in c__inputs_in k__inputs_in
  have b_inputs_in := F_inputs_in.binds (ps := ["lines"]) fun _ _ _ _ _ _ us hl => match us, hl with | [_], _ => rfl
  have F_need_unit := fun_mk (st := s_need_unit) l__need_unit c__need_unit k__need_unit
  have b_need_unit := F_need_unit.binds (ps := ["lines", "width"]) fun _ _ _ _ _ _ us hl => match us, hl with | [_, _], _ => rfl
  have F_layer_in := fun_mk (st := s_layer_in) l__layer_in c__layer_in k__layer_in
  have b_layer_in := F_layer_in.binds (ps := ["lines", "width", "most"]) fun _ _ _ _ _ _ us hl => match us, hl with | [_, _, _], _ => rfl
  have F_read_network := fun_mk (st := s_read_network) l__read_network c__read_network k__read_network
  have b_read_network := F_read_network.binds (ps := ["text"]) fun _ _ _ _ _ _ us hl => match us, hl with | [_], _ => rfl
  have F__law_pack := fun_mk (st := s__law_pack) l___law_pack c___law_pack k___law_pack
  have b__law_pack := F__law_pack.binds (ps := ["script", "spot"]) fun _ _ _ _ _ _ us hl => match us, hl with | [_, _], _ => rfl
  have F__law_dealt := fun_mk (st := s__law_dealt) l___law_dealt c___law_dealt k___law_dealt
  have b__law_dealt := F__law_dealt.binds (ps := ["pack", "total"]) fun _ _ _ _ _ _ us hl => match us, hl with | [_, _], _ => rfl
  have F__law_one_of := fun_mk (st := s__law_one_of) l___law_one_of c___law_one_of k___law_one_of
  have b__law_one_of := F__law_one_of.binds (ps := ["pack", "items"]) fun _ _ _ _ _ _ us hl => match us, hl with | [_, _], _ => rfl
  have F__law_number_drawn := fun_mk (st := s__law_number_drawn) l___law_number_drawn c___law_number_drawn k___law_number_drawn
  have b__law_number_drawn := F__law_number_drawn.binds (ps := ["pack"]) fun _ _ _ _ _ _ us hl => match us, hl with | [_], _ => rfl
  have F__law_rows_drawn := fun_mk (st := s__law_rows_drawn) l___law_rows_drawn c___law_rows_drawn k___law_rows_drawn
  have b__law_rows_drawn := F__law_rows_drawn.binds (ps := ["pack", "length", "most"]) fun _ _ _ _ _ _ us hl => match us, hl with | [_, _, _], _ => rfl
  have F__law_parts_drawn := fun_mk (st := s__law_parts_drawn) l___law_parts_drawn c___law_parts_drawn k___law_parts_drawn
  have b__law_parts_drawn := F__law_parts_drawn.binds (ps := ["pack"]) fun _ _ _ _ _ _ us hl => match us, hl with | [_], _ => rfl
  have F__law_line := fun_mk (st := s__law_line) l___law_line c___law_line k___law_line
  have b__law_line := F__law_line.binds (ps := ["row"]) fun _ _ _ _ _ _ us hl => match us, hl with | [_], _ => rfl
  have F__law_joined := fun_mk (st := s__law_joined) l___law_joined c___law_joined k___law_joined
  have b__law_joined := F__law_joined.binds (ps := ["lines"]) fun _ _ _ _ _ _ us hl => match us, hl with | [_], _ => rfl
  have F__law_network_lines := fun_mk (st := s__law_network_lines) l___law_network_lines c___law_network_lines k___law_network_lines
  have b__law_network_lines := F__law_network_lines.binds (ps := ["inputs", "layers", "last"]) fun _ _ _ _ _ _ us hl => match us, hl with | [_, _, _], _ => rfl
  have F__law_right := fun_mk (st := s__law_right) l___law_right c___law_right k___law_right
  have b__law_right := F__law_right.binds (ps := ["pack"]) fun _ _ _ _ _ _ us hl => match us, hl with | [_], _ => rfl
  have F_law := fun_mk (st := s_law) l__law c__law k__law
  have b_law := F_law.binds (ps := ["script"]) fun _ _ _ _ _ _ us hl => match us, hl with | [_], _ => rfl
  let T : Txt K mg := { a_is_whole := a_is_whole, d_is_whole := _, F_is_whole := F_is_whole, b_is_whole := b_is_whole, m_is_whole := PySem.W.mg_of X G a__is_whole, k_is_whole := k__is_whole, a_is_short := a_is_short, d_is_short := _, F_is_short := F_is_short, b_is_short := b_is_short, m_is_short := PySem.W.mg_of X G a__is_short, k_is_short := k__is_short, a_are_short := a_are_short, d_are_short := _, F_are_short := F_are_short, b_are_short := b_are_short, m_are_short := PySem.W.mg_of X G a__are_short, k_are_short := k__are_short, a_is_short_row := a_is_short_row, d_is_short_row := _, F_is_short_row := F_is_short_row, b_is_short_row := b_is_short_row, m_is_short_row := PySem.W.mg_of X G a__is_short_row, k_is_short_row := k__is_short_row, a_are_short_rows := a_are_short_rows, d_are_short_rows := _, F_are_short_rows := F_are_short_rows, b_are_short_rows := b_are_short_rows, m_are_short_rows := PySem.W.mg_of X G a__are_short_rows, k_are_short_rows := k__are_short_rows, a_are_ascending := a_are_ascending, d_are_ascending := _, F_are_ascending := F_are_ascending, b_are_ascending := b_are_ascending, m_are_ascending := PySem.W.mg_of X G a__are_ascending, k_are_ascending := k__are_ascending, a_is_lot := a_is_lot, d_is_lot := _, F_is_lot := F_is_lot, b_is_lot := b_is_lot, m_is_lot := PySem.W.mg_of X G a__is_lot, k_is_lot := k__is_lot, a_need_lot := a_need_lot, d_need_lot := _, F_need_lot := F_need_lot, b_need_lot := b_need_lot, m_need_lot := PySem.W.mg_of X G a__need_lot, k_need_lot := k__need_lot, a_Networku_initu := a_Networku_initu, d_Networku_initu := _, F_Networku_initu := F_Networku_initu, b_Networku_initu := b_Networku_initu, a_Networku_equ := a_Networku_equ, d_Networku_equ := _, F_Networku_equ := F_Networku_equ, b_Networku_equ := b_Networku_equ, a_are_parts := a_are_parts, d_are_parts := _, F_are_parts := F_are_parts, b_are_parts := b_are_parts, m_are_parts := PySem.W.mg_of X G a__are_parts, k_are_parts := k__are_parts, a_need_network := a_need_network, d_need_network := _, F_need_network := F_need_network, b_need_network := b_need_network, m_need_network := PySem.W.mg_of X G a__need_network, k_need_network := k__need_network, a_is_reading := a_is_reading, d_is_reading := _, F_is_reading := F_is_reading, b_is_reading := b_is_reading, m_is_reading := PySem.W.mg_of X G a__is_reading, k_is_reading := k__is_reading, a_need_reading := a_need_reading, d_need_reading := _, F_need_reading := F_need_reading, b_need_reading := b_need_reading, m_need_reading := PySem.W.mg_of X G a__need_reading, k_need_reading := k__need_reading, a_row_line := a_row_line, d_row_line := _, F_row_line := F_row_line, b_row_line := b_row_line, m_row_line := PySem.W.mg_of X G a__row_line, k_row_line := k__row_line, a_text_of := a_text_of, d_text_of := _, F_text_of := F_text_of, b_text_of := b_text_of, m_text_of := PySem.W.mg_of X G a__text_of, k_text_of := k__text_of, a_lot_text := a_lot_text, d_lot_text := _, F_lot_text := F_lot_text, b_lot_text := b_lot_text, m_lot_text := PySem.W.mg_of X G a__lot_text, k_lot_text := k__lot_text, a_reading_text := a_reading_text, d_reading_text := _, F_reading_text := F_reading_text, b_reading_text := b_reading_text, m_reading_text := PySem.W.mg_of X G a__reading_text, k_reading_text := k__reading_text, a_network_text := a_network_text, d_network_text := _, F_network_text := F_network_text, b_network_text := b_network_text, m_network_text := PySem.W.mg_of X G a__network_text, k_network_text := k__network_text, a_Linesu_initu := a_Linesu_initu, d_Linesu_initu := _, F_Linesu_initu := F_Linesu_initu, b_Linesu_initu := b_Linesu_initu, a_Lines_line := a_Lines_line, d_Lines_line := _, F_Lines_line := F_Lines_line, b_Lines_line := b_Lines_line, a_Lines_row := a_Lines_row, d_Lines_row := _, F_Lines_row := F_Lines_row, b_Lines_row := b_Lines_row, a_Lines_go_on := a_Lines_go_on, d_Lines_go_on := _, F_Lines_go_on := F_Lines_go_on, b_Lines_go_on := b_Lines_go_on, a_Lines_word := a_Lines_word, d_Lines_word := _, F_Lines_word := F_Lines_word, b_Lines_word := b_Lines_word, a_Lines_close := a_Lines_close, d_Lines_close := _, F_Lines_close := F_Lines_close, b_Lines_close := b_Lines_close, a_whole_in := a_whole_in, d_whole_in := _, F_whole_in := F_whole_in, b_whole_in := b_whole_in, m_whole_in := PySem.W.mg_of X G a__whole_in, k_whole_in := k__whole_in, a_row_in := a_row_in, d_row_in := _, F_row_in := F_row_in, b_row_in := b_row_in, m_row_in := PySem.W.mg_of X G a__row_in, k_row_in := k__row_in, a_need_text := a_need_text, d_need_text := _, F_need_text := F_need_text, b_need_text := b_need_text, m_need_text := PySem.W.mg_of X G a__need_text, k_need_text := k__need_text, a_points_in := a_points_in, d_points_in := _, F_points_in := F_points_in, b_points_in := b_points_in, m_points_in := PySem.W.mg_of X G a__points_in, k_points_in := k__points_in, a_read_lot := a_read_lot, d_read_lot := _, F_read_lot := F_read_lot, b_read_lot := b_read_lot, m_read_lot := PySem.W.mg_of X G a__read_lot, k_read_lot := k__read_lot, a_read_reading := a_read_reading, d_read_reading := _, F_read_reading := F_read_reading, b_read_reading := b_read_reading, m_read_reading := PySem.W.mg_of X G a__read_reading, k_read_reading := k__read_reading, a_inputs_in := a_inputs_in, d_inputs_in := _, F_inputs_in := F_inputs_in, b_inputs_in := b_inputs_in, m_inputs_in := PySem.W.mg_of X G a__inputs_in, k_inputs_in := k__inputs_in, a_need_unit := a_need_unit, d_need_unit := _, F_need_unit := F_need_unit, b_need_unit := b_need_unit, m_need_unit := PySem.W.mg_of X G a__need_unit, k_need_unit := k__need_unit, a_layer_in := a_layer_in, d_layer_in := _, F_layer_in := F_layer_in, b_layer_in := b_layer_in, m_layer_in := PySem.W.mg_of X G a__layer_in, k_layer_in := k__layer_in, a_read_network := a_read_network, d_read_network := _, F_read_network := F_read_network, b_read_network := b_read_network, m_read_network := PySem.W.mg_of X G a__read_network, k_read_network := k__read_network, a__law_pack := a__law_pack, d__law_pack := _, F__law_pack := F__law_pack, b__law_pack := b__law_pack, m__law_pack := PySem.W.mg_of X G a___law_pack, k__law_pack := k___law_pack, a__law_dealt := a__law_dealt, d__law_dealt := _, F__law_dealt := F__law_dealt, b__law_dealt := b__law_dealt, m__law_dealt := PySem.W.mg_of X G a___law_dealt, k__law_dealt := k___law_dealt, a__law_one_of := a__law_one_of, d__law_one_of := _, F__law_one_of := F__law_one_of, b__law_one_of := b__law_one_of, m__law_one_of := PySem.W.mg_of X G a___law_one_of, k__law_one_of := k___law_one_of, a__law_number_drawn := a__law_number_drawn, d__law_number_drawn := _, F__law_number_drawn := F__law_number_drawn, b__law_number_drawn := b__law_number_drawn, m__law_number_drawn := PySem.W.mg_of X G a___law_number_drawn, k__law_number_drawn := k___law_number_drawn, a__law_rows_drawn := a__law_rows_drawn, d__law_rows_drawn := _, F__law_rows_drawn := F__law_rows_drawn, b__law_rows_drawn := b__law_rows_drawn, m__law_rows_drawn := PySem.W.mg_of X G a___law_rows_drawn, k__law_rows_drawn := k___law_rows_drawn, a__law_parts_drawn := a__law_parts_drawn, d__law_parts_drawn := _, F__law_parts_drawn := F__law_parts_drawn, b__law_parts_drawn := b__law_parts_drawn, m__law_parts_drawn := PySem.W.mg_of X G a___law_parts_drawn, k__law_parts_drawn := k___law_parts_drawn, a__law_line := a__law_line, d__law_line := _, F__law_line := F__law_line, b__law_line := b__law_line, m__law_line := PySem.W.mg_of X G a___law_line, k__law_line := k___law_line, a__law_joined := a__law_joined, d__law_joined := _, F__law_joined := F__law_joined, b__law_joined := b__law_joined, m__law_joined := PySem.W.mg_of X G a___law_joined, k__law_joined := k___law_joined, a__law_network_lines := a__law_network_lines, d__law_network_lines := _, F__law_network_lines := F__law_network_lines, b__law_network_lines := b__law_network_lines, m__law_network_lines := PySem.W.mg_of X G a___law_network_lines, k__law_network_lines := k___law_network_lines, a__law_right := a__law_right, d__law_right := _, F__law_right := F__law_right, b__law_right := b__law_right, m__law_right := PySem.W.mg_of X G a___law_right, k__law_right := k___law_right, a_law := fa, d_law := _, F_law := F_law, b_law := b_law, t_BEYOND := t_BEYOND, m_BEYOND := PySem.W.mg_of X G c_BEYOND, t_BENEATH := t_BENEATH, m_BENEATH := PySem.W.mg_of X G c_BENEATH, t_MOST_POINTS := t_MOST_POINTS, m_MOST_POINTS := PySem.W.mg_of X G c_MOST_POINTS, t_MOST_MEMBERS := t_MOST_MEMBERS, m_MOST_MEMBERS := PySem.W.mg_of X G c_MOST_MEMBERS, t_MOST_INPUTS := t_MOST_INPUTS, m_MOST_INPUTS := PySem.W.mg_of X G c_MOST_INPUTS, t_MOST_LAYERS := t_MOST_LAYERS, m_MOST_LAYERS := PySem.W.mg_of X G c_MOST_LAYERS, t_MOST_IN_LAYER := t_MOST_IN_LAYER, m_MOST_IN_LAYER := PySem.W.mg_of X G c_MOST_IN_LAYER, t_MOST_UNITS := t_MOST_UNITS, m_MOST_UNITS := PySem.W.mg_of X G c_MOST_UNITS, t_MOST_TEXT := t_MOST_TEXT, m_MOST_TEXT := PySem.W.mg_of X G c_MOST_TEXT, t_MOST_DIGITS := t_MOST_DIGITS, m_MOST_DIGITS := PySem.W.mg_of X G c_MOST_DIGITS, t_BLANKS := t_BLANKS, m_BLANKS := PySem.W.mg_of X G c_BLANKS, t_HEAD := t_HEAD, m_HEAD := PySem.W.mg_of X G c_HEAD, n_isinstance := PySem.W.mg_none_of X G z_isinstance, n_int := PySem.W.mg_none_of X G z_int, n_bool := PySem.W.mg_none_of X G z_bool, n_tuple := PySem.W.mg_none_of X G z_tuple, n_list := PySem.W.mg_none_of X G z_list, n_len := PySem.W.mg_none_of X G z_len, n_sum := PySem.W.mg_none_of X G z_sum, n_all := PySem.W.mg_none_of X G z_all, n_any := PySem.W.mg_none_of X G z_any, n_zip := PySem.W.mg_none_of X G z_zip, n_max := PySem.W.mg_none_of X G z_max, n_min := PySem.W.mg_none_of X G z_min, n_abs := PySem.W.mg_none_of X G z_abs, n_range := PySem.W.mg_none_of X G z_range, n_enumerate := PySem.W.mg_none_of X G z_enumerate, n_reversed := PySem.W.mg_none_of X G z_reversed, n_sorted := PySem.W.mg_none_of X G z_sorted, n_str := PySem.W.mg_none_of X G z_str, C := C, cl := ⟨pg, hd, po, sa⟩, na_inputs := n_inputs, na_layers := n_layers, na_last := n_last, na_depth := n_depth, na_units := n_units, m_Network := PySem.W.mg_of X G hC, M_Network := ⟨mk, a__Networku_initu, i__Networku_initu, kc⟩, isC := ⟨⟨pg, hd, po, sa⟩, ica, icn, ict, icm⟩, o_eq := a__Networku_equ, o_fn := i__Networku_equ, o_ne := one, o_sub := osub, kC := by unfold PySem.W.kitOne; simp, CL := CL, cl_Lines := ⟨pgCL, hdCL, poCL, saCL⟩, m_Lines := PySem.W.mg_of X G hCL, M_Lines := ⟨mkCL, a__Linesu_initu, i__Linesu_initu, kcCL⟩, na_Lines_lines := nCL_lines, na_Lines_at := nCL_at, me_Lines_line := ⟨a__Lines_line, i__Lines_line, k__Lines_line⟩, me_Lines_row := ⟨a__Lines_row, i__Lines_row, k__Lines_row⟩, me_Lines_go_on := ⟨a__Lines_go_on, i__Lines_go_on, k__Lines_go_on⟩, me_Lines_word := ⟨a__Lines_word, i__Lines_word, k__Lines_word⟩, me_Lines_close := ⟨a__Lines_close, i__Lines_close, k__Lines_close⟩, icl := x__icl, tyC := x__tyC, ns_non := x__ns_non, sb_non := x__sb_non, kt_non := kt_of x__icl x__tyC x__sb_non, ns_int := x__ns_int, sb_int := x__sb_int, kt_int := kt_of x__icl x__tyC x__sb_int, ns_tup := x__ns_tup, sb_tup := x__sb_tup, kt_tup := kt_of x__icl x__tyC x__sb_tup }
  exact ⟨_, fun s v => .of_eq rfl, fun base _ _ => ok_law T⟩
theorem walk {l : PySem.W.OpenLaw} {q : Program} {loose : List Str} {XP : (Str → Option Value) → Heap → Prop} {YP : World → Heap → Prop} {d : DefRec} {K : Params → PySem.W.Frag} (hn : l.most = some 63) (hdf : d.params.defaults = [])
    (hY : ∀ (w : World) (h : Heap), YP w h → (K w.params).In h)
    (F : ∀ (w : World) (mg : Str → Option Value) (fa : Addr) (h : Heap), (K w.params).In h → h.Ns mainGlobals mg → mg d.name = some (.ref fa) →
      ∃ fd : FuncData, (∀ (s : Shared) (u : Value), BindsTo s fd ⟨[u], []⟩ [("script", u)]) ∧ ∀ base : Heap, (K w.params).In base → base.Ns mainGlobals mg → FnOk l.prog w (K w.params) mg base CX0 9 fa fd ["script"] (SpD (K w.params) gLaw)) :
    PySem.W.WalkO q loose XP YP l.row.toRowW d [] (fun f vs => PySem.call f vs) :=
  L2.walk_of (n := 63) (k := 9) (x := "script") (CX := fun _ => CX0) (sp := fun w => SpD (K w.params) gLaw) hn (by decide) hdf ⟨rfl, by decide, by decide⟩ hY F (fun _ H a ns hl _ hS => ⟨H, [], [], [.d (.scr ns)], .bl true, [], ⟨Evl.Ex.refl _, rfl, fun k a s h => by simp at h, List.nodup_nil⟩, .cons (Rep.scr hS : Rep _ _ _ (.scr ns)) .nil, ⟨ns, rfl, hl, rfl, rfl, rfl⟩, fun v B' H' _ _ r => by cases r; rfl⟩) fun _ _ _ _ _ z => z
end N85
open PySem PySem.W PyProof.Rows
set_option maxRecDepth 100000 in
set_option maxHeartbeats 0 in
theorem PySem.Challenge.cw_rampworks_k85_whole_texts_of_lots_readin_holds : PySem.Challenge.rw_rampworks_k85_whole_texts_of_lots_readin.Holds := by
  w_on; o_law; k_head; (case hw => w_witness2)
  k_fill
  refine N85.walk (l := PySem.Challenge.rw_rampworks_k85_whole_texts_of_lots_readin) rfl rfl (fun w h Y => PySem.W.kIn_of Y) ?F
  case F =>
    intro w mg fa h KX G hmg
    refine' N85.all_mk KX G hmg ?hC ?hCL ?c_BEYOND ?c_BENEATH ?c_MOST_POINTS ?c_MOST_MEMBERS ?c_MOST_INPUTS ?c_MOST_LAYERS ?c_MOST_IN_LAYER ?c_MOST_UNITS ?c_MOST_TEXT ?c_MOST_DIGITS ?c_BLANKS ?c_HEAD ?a__is_whole ?l__is_whole ?c__is_whole ?k__is_whole ?a__is_short ?l__is_short ?c__is_short ?k__is_short ?a__are_short ?l__are_short ?c__are_short ?k__are_short ?a__is_short_row ?l__is_short_row ?c__is_short_row ?k__is_short_row ?a__are_short_rows ?l__are_short_rows ?c__are_short_rows ?k__are_short_rows ?a__are_ascending ?l__are_ascending ?c__are_ascending ?k__are_ascending ?a__is_lot ?l__is_lot ?c__is_lot ?k__is_lot ?a__need_lot ?l__need_lot ?c__need_lot ?k__need_lot ?a__Networku_initu ?i__Networku_initu ?l__Networku_initu ?c__Networku_initu ?k__Networku_initu ?a__Networku_equ ?i__Networku_equ ?l__Networku_equ ?c__Networku_equ ?k__Networku_equ ?a__are_parts ?l__are_parts ?c__are_parts ?k__are_parts ?a__need_network ?l__need_network ?c__need_network ?k__need_network ?a__is_reading ?l__is_reading ?c__is_reading ?k__is_reading ?a__need_reading ?l__need_reading ?c__need_reading ?k__need_reading ?a__row_line ?l__row_line ?c__row_line ?k__row_line ?a__text_of ?l__text_of ?c__text_of ?k__text_of ?a__lot_text ?l__lot_text ?c__lot_text ?k__lot_text ?a__reading_text ?l__reading_text ?c__reading_text ?k__reading_text ?a__network_text ?l__network_text ?c__network_text ?k__network_text ?a__Linesu_initu ?i__Linesu_initu ?l__Linesu_initu ?c__Linesu_initu ?k__Linesu_initu ?a__Lines_line ?i__Lines_line ?l__Lines_line ?c__Lines_line ?k__Lines_line ?a__Lines_row ?i__Lines_row ?l__Lines_row ?c__Lines_row ?k__Lines_row ?a__Lines_go_on ?i__Lines_go_on ?l__Lines_go_on ?c__Lines_go_on ?k__Lines_go_on ?a__Lines_word ?i__Lines_word ?l__Lines_word ?c__Lines_word ?k__Lines_word ?a__Lines_close ?i__Lines_close ?l__Lines_close ?c__Lines_close ?k__Lines_close ?a__whole_in ?l__whole_in ?c__whole_in ?k__whole_in ?a__row_in ?l__row_in ?c__row_in ?k__row_in ?a__need_text ?l__need_text ?c__need_text ?k__need_text ?a__points_in ?l__points_in ?c__points_in ?k__points_in ?a__read_lot ?l__read_lot ?c__read_lot ?k__read_lot ?a__read_reading ?l__read_reading ?c__read_reading ?k__read_reading ?a__inputs_in ?l__inputs_in ?c__inputs_in ?k__inputs_in ?a__need_unit ?l__need_unit ?c__need_unit ?k__need_unit ?a__layer_in ?l__layer_in ?c__layer_in ?k__layer_in ?a__read_network ?l__read_network ?c__read_network ?k__read_network ?a___law_pack ?l___law_pack ?c___law_pack ?k___law_pack ?a___law_dealt ?l___law_dealt ?c___law_dealt ?k___law_dealt ?a___law_one_of ?l___law_one_of ?c___law_one_of ?k___law_one_of ?a___law_number_drawn ?l___law_number_drawn ?c___law_number_drawn ?k___law_number_drawn ?a___law_rows_drawn ?l___law_rows_drawn ?c___law_rows_drawn ?k___law_rows_drawn ?a___law_parts_drawn ?l___law_parts_drawn ?c___law_parts_drawn ?k___law_parts_drawn ?a___law_line ?l___law_line ?c___law_line ?k___law_line ?a___law_joined ?l___law_joined ?c___law_joined ?k___law_joined ?a___law_network_lines ?l___law_network_lines ?c___law_network_lines ?k___law_network_lines ?a___law_right ?l___law_right ?c___law_right ?k___law_right ?a__law ?l__law ?c__law ?k__law ?z_isinstance ?z_int ?z_bool ?z_tuple ?z_list ?z_len ?z_sum ?z_all ?z_any ?z_zip ?z_max ?z_min ?z_abs ?z_range ?z_enumerate ?z_reversed ?z_sorted ?z_str ?pg ?hd ?po ?sa ?mk ?kc ?n_inputs ?n_layers ?n_last ?n_depth ?n_units ?ica ?icn ?ict ?icm ?one ?osub ?pgCL ?hdCL ?poCL ?saCL ?mkCL ?kcCL ?nCL_lines ?nCL_at ?x__icl ?x__tyC ?x__ns_non ?x__sb_non ?x__ns_int ?x__sb_int ?x__ns_tup ?x__sb_tup
    (case hC => k_is)
    (case hCL => k_is)
    (case c_BEYOND => k_is)
    (case c_BENEATH => k_is)
    (case c_MOST_POINTS => k_is)
    (case c_MOST_MEMBERS => k_is)
    (case c_MOST_INPUTS => k_is)
    (case c_MOST_LAYERS => k_is)
    (case c_MOST_IN_LAYER => k_is)
    (case c_MOST_UNITS => k_is)
    (case c_MOST_TEXT => k_is)
    (case c_MOST_DIGITS => k_is)
    (case c_BLANKS => k_is)
    (case c_HEAD => k_is)
    (case a__is_whole => k_is)
    (case l__is_whole => k_is)
    (case c__is_whole => k_is)
    (case k__is_whole => k_is)
    (case a__is_short => k_is)
    (case l__is_short => k_is)
    (case c__is_short => k_is)
    (case k__is_short => k_is)
    (case a__are_short => k_is)
    (case l__are_short => k_is)
    (case c__are_short => k_is)
    (case k__are_short => k_is)
    (case a__is_short_row => k_is)
    (case l__is_short_row => k_is)
    (case c__is_short_row => k_is)
    (case k__is_short_row => k_is)
    (case a__are_short_rows => k_is)
    (case l__are_short_rows => k_is)
    (case c__are_short_rows => k_is)
    (case k__are_short_rows => k_is)
    (case a__are_ascending => k_is)
    (case l__are_ascending => k_is)
    (case c__are_ascending => k_is)
    (case k__are_ascending => k_is)
    (case a__is_lot => k_is)
    (case l__is_lot => k_is)
    (case c__is_lot => k_is)
    (case k__is_lot => k_is)
    (case a__need_lot => k_is)
    (case l__need_lot => k_is)
    (case c__need_lot => k_is)
    (case k__need_lot => k_is)
    (case a__Networku_initu => k_is)
    (case i__Networku_initu => k_is)
    (case l__Networku_initu => k_is)
    (case c__Networku_initu => k_is)
    (case k__Networku_initu => k_is)
    (case a__Networku_equ => k_is)
    (case i__Networku_equ => k_is)
    (case l__Networku_equ => k_is)
    (case c__Networku_equ => k_is)
    (case k__Networku_equ => k_is)
    (case a__are_parts => k_is)
    (case l__are_parts => k_is)
    (case c__are_parts => k_is)
    (case k__are_parts => k_is)
    (case a__need_network => k_is)
    (case l__need_network => k_is)
    (case c__need_network => k_is)
    (case k__need_network => k_is)
    (case a__is_reading => k_is)
    (case l__is_reading => k_is)
    (case c__is_reading => k_is)
    (case k__is_reading => k_is)
    (case a__need_reading => k_is)
    (case l__need_reading => k_is)
    (case c__need_reading => k_is)
    (case k__need_reading => k_is)
    (case a__row_line => k_is)
    (case l__row_line => k_is)
    (case c__row_line => k_is)
    (case k__row_line => k_is)
    (case a__text_of => k_is)
    (case l__text_of => k_is)
    (case c__text_of => k_is)
    (case k__text_of => k_is)
    (case a__lot_text => k_is)
    (case l__lot_text => k_is)
    (case c__lot_text => k_is)
    (case k__lot_text => k_is)
    (case a__reading_text => k_is)
    (case l__reading_text => k_is)
    (case c__reading_text => k_is)
    (case k__reading_text => k_is)
    (case a__network_text => k_is)
    (case l__network_text => k_is)
    (case c__network_text => k_is)
    (case k__network_text => k_is)
    (case a__Linesu_initu => k_is)
    (case i__Linesu_initu => k_is)
    (case l__Linesu_initu => k_is)
    (case c__Linesu_initu => k_is)
    (case k__Linesu_initu => k_is)
    (case a__Lines_line => k_is)
    (case i__Lines_line => k_is)
    (case l__Lines_line => k_is)
    (case c__Lines_line => k_is)
    (case k__Lines_line => k_is)
    (case a__Lines_row => k_is)
    (case i__Lines_row => k_is)
    (case l__Lines_row => k_is)
    (case c__Lines_row => k_is)
    (case k__Lines_row => k_is)
    (case a__Lines_go_on => k_is)
    (case i__Lines_go_on => k_is)
    (case l__Lines_go_on => k_is)
    (case c__Lines_go_on => k_is)
    (case k__Lines_go_on => k_is)
    (case a__Lines_word => k_is)
    (case i__Lines_word => k_is)
    (case l__Lines_word => k_is)
    (case c__Lines_word => k_is)
    (case k__Lines_word => k_is)
    (case a__Lines_close => k_is)
    (case i__Lines_close => k_is)
    (case l__Lines_close => k_is)
    (case c__Lines_close => k_is)
    (case k__Lines_close => k_is)
    (case a__whole_in => k_is)
    (case l__whole_in => k_is)
    (case c__whole_in => k_is)
    (case k__whole_in => k_is)
    (case a__row_in => k_is)
    (case l__row_in => k_is)
    (case c__row_in => k_is)
    (case k__row_in => k_is)
    (case a__need_text => k_is)
    (case l__need_text => k_is)
    (case c__need_text => k_is)
    (case k__need_text => k_is)
    (case a__points_in => k_is)
    (case l__points_in => k_is)
    (case c__points_in => k_is)
    (case k__points_in => k_is)
    (case a__read_lot => k_is)
    (case l__read_lot => k_is)
    (case c__read_lot => k_is)
    (case k__read_lot => k_is)
    (case a__read_reading => k_is)
    (case l__read_reading => k_is)
    (case c__read_reading => k_is)
    (case k__read_reading => k_is)
    (case a__inputs_in => k_is)
    (case l__inputs_in => k_is)
    (case c__inputs_in => k_is)
    (case k__inputs_in => k_is)
    (case a__need_unit => k_is)
    (case l__need_unit => k_is)
    (case c__need_unit => k_is)
    (case k__need_unit => k_is)
    (case a__layer_in => k_is)
    (case l__layer_in => k_is)
    (case c__layer_in => k_is)
    (case k__layer_in => k_is)
    (case a__read_network => k_is)
    (case l__read_network => k_is)
    (case c__read_network => k_is)
    (case k__read_network => k_is)
    (case a___law_pack => k_is)
    (case l___law_pack => k_is)
    (case c___law_pack => k_is)
    (case k___law_pack => k_is)
    (case a___law_dealt => k_is)
    (case l___law_dealt => k_is)
    (case c___law_dealt => k_is)
    (case k___law_dealt => k_is)
    (case a___law_one_of => k_is)
    (case l___law_one_of => k_is)
    (case c___law_one_of => k_is)
    (case k___law_one_of => k_is)
    (case a___law_number_drawn => k_is)
    (case l___law_number_drawn => k_is)
    (case c___law_number_drawn => k_is)
    (case k___law_number_drawn => k_is)
    (case a___law_rows_drawn => k_is)
    (case l___law_rows_drawn => k_is)
    (case c___law_rows_drawn => k_is)
    (case k___law_rows_drawn => k_is)
    (case a___law_parts_drawn => k_is)
    (case l___law_parts_drawn => k_is)
    (case c___law_parts_drawn => k_is)
    (case k___law_parts_drawn => k_is)
    (case a___law_line => k_is)
    (case l___law_line => k_is)
    (case c___law_line => k_is)
    (case k___law_line => k_is)
    (case a___law_joined => k_is)
    (case l___law_joined => k_is)
    (case c___law_joined => k_is)
    (case k___law_joined => k_is)
    (case a___law_network_lines => k_is)
    (case l___law_network_lines => k_is)
    (case c___law_network_lines => k_is)
    (case k___law_network_lines => k_is)
    (case a___law_right => k_is)
    (case l___law_right => k_is)
    (case c___law_right => k_is)
    (case k___law_right => k_is)
    (case a__law => k_is)
    (case l__law => k_is)
    (case c__law => k_is)
    (case k__law => k_is)
    (case z_isinstance => k_is)
    (case z_int => k_is)
    (case z_bool => k_is)
    (case z_tuple => k_is)
    (case z_list => k_is)
    (case z_len => k_is)
    (case z_sum => k_is)
    (case z_all => k_is)
    (case z_any => k_is)
    (case z_zip => k_is)
    (case z_max => k_is)
    (case z_min => k_is)
    (case z_abs => k_is)
    (case z_range => k_is)
    (case z_enumerate => k_is)
    (case z_reversed => k_is)
    (case z_sorted => k_is)
    (case z_str => k_is)
    (case pg => k_is)
    (case hd => k_is)
    (case po => k_is)
    (case sa => k_is)
    (case mk => k_is)
    (case kc => k_is)
    (case n_inputs => k_is)
    (case n_layers => k_is)
    (case n_last => k_is)
    (case n_depth => k_is)
    (case n_units => k_is)
    (case ica => k_is)
    (case icn => k_is)
    (case ict => k_is)
    (case icm => k_is)
    (case one => k_is)
    (case osub => k_is)
    (case pgCL => k_is)
    (case hdCL => k_is)
    (case poCL => k_is)
    (case saCL => k_is)
    (case mkCL => k_is)
    (case kcCL => k_is)
    (case nCL_lines => k_is)
    (case nCL_at => k_is)
    (case x__icl => k_is)
    (case x__tyC => k_is)
    (case x__ns_non => k_is)
    (case x__sb_non => k_is)
    (case x__ns_int => k_is)
    (case x__sb_int => k_is)
    (case x__ns_tup => k_is)
    (case x__sb_tup => k_is)
