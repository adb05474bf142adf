import PyProof.Rows.All
import Wide.All
import OpenK.AllK
import Wide.FinOn
import HandS.ForMost
import HandS.Walk
import HandS.IsInst
import HandS.Wide
import HandS.EndBits
import KE.GoesNew
import KE.GoesMore
import HandS.Defaults
import HandS.MakeKwOnly
import HandS.Codes
import HandS.Gcd
import HandS.Star
import HandS.Deep
import HandS.TupMul
import HandS.TupAny
import HandS.Style
import HandS.TupSets
import HandS.Strs
import KE.GoesEnum
import HandS.RevRange
import HandS.SetFor
import PySem.Challenge.RW_calledseats_k15_whole_tables_transformed
set_option Elab.async false
set_option linter.all false
set_option maxRecDepth 100000
set_option maxHeartbeats 4000000
namespace Cs
open PySem PySem.Spec PyProof.Rows L2

/-! ### a list or a tuple -/
def Sqk (K : PySem.W.Frag) (k : Bool) (H : Hp) (a : Addr) (xs : List V) : Prop := match k with
  | true => SqL K H a xs
  | false => SqT K H a xs
def SeqK (k : Bool) (h : Heap) (a : Addr) (its : Array Value) : Prop := match k with
  | true => h.IsList a its
  | false => h.IsTuple a its
def ItK (k : Bool) (h : Heap) (it a : Addr) (i : Nat) : Prop := match k with
  | true => h.IsListIter it a i
  | false => h.IsTupleIter it a i
def itO (k : Bool) (a : Addr) : Obj := match k with
  | true => { cls := .type "list_iterator", data := .fields #[.ref a, .int 0 0] }
  | false => { cls := .type "tuple_iterator", data := .fields #[.ref a, .int 0 0] }
theorem ItK.at {k : Bool} {h h' : Heap} {it a : Addr} {i : Nat} (x : ItK k h it a i) (q : ∀ o, h.get? it = some o → h'.get? it = some o) : ItK k h' it a i := by
  cases k with
  | true => exact PySem.Heap.IsListIter.at x q
  | false => exact PySem.Heap.IsTupleIter.at x q
theorem ItK.obj {k : Bool} {h : Heap} {it a : Addr} {i : Nat} (x : ItK k h it a i) : ∃ o, h.get? it = some o ∧ ∀ v, o.data ≠ .cell v := by
  cases k with
  | true => obtain ⟨o, e, _, d⟩ := x; exact ⟨o, e, fun v q => by rw [d] at q; cases q⟩
  | false => obtain ⟨o, e, _, d⟩ := x; exact ⟨o, e, fun v q => by rw [d] at q; cases q⟩
theorem ItK.new {k : Bool} {h : Heap} {it a : Addr} (e : h.get? it = some (itO k a)) : ItK k h it a 0 := by
  cases k with
  | true => exact ⟨_, e, rfl, rfl⟩
  | false => exact ⟨_, e, rfl, rfl⟩
theorem drawsK {prog : Program} {w : World} {A : Around} (hh : A.handled = none) (k : Bool) (it l : Addr) (hne : l ≠ it) (items : Array Value) :
    Draws prog w A it [it, l] items.size (fun i v => items[i]? = some v) (fun i h => ItK k h it l i ∧ SeqK k h l items) := by
  cases k with
  | true => exact Draws.list hh it l hne items
  | false => exact Draws.tuple hh it l hne items
theorem begK (k : Bool) (a : Addr) (its : Array Value) : Begins (.ref a) (itO k a) fun h => SeqK k h a its := by
  cases k with
  | true => exact begins_list a its
  | false => exact begins_tuple a its
section
variable {X : Cx} {pins : List (Addr × Obj)} {σ : L2.St} {H : Hp} {s : Shared} {k : Bool} {a : Addr} {xs ys : List V}
theorem invK (I : Inv X pins σ H s) (h : Sqk X.K k H a xs) : ∃ its : List Value, Vals xs its ∧ SeqK k s.heap a its.toArray := by
  cases k with
  | true => obtain ⟨its, rv, p, _⟩ := I.list h; exact ⟨its, rv, p.isList⟩
  | false => obtain ⟨its, rv, p, _⟩ := I.tuple h; exact ⟨its, rv, p⟩
theorem injK (I : Inv X pins σ H s) (h : Sqk X.K k H a xs) (h' : Sqk X.K k H a ys) : xs = ys := by
  cases k with
  | true => exact I.list_inj h h'
  | false => exact I.tuple_inj h h'
theorem SeqK.lt {h : Heap} {its : Array Value} (x : SeqK k h a its) : a < h.objs.size := by
  cases k with
  | true => obtain ⟨o, e, _⟩ := x; exact Heap.lt_size e
  | false => obtain ⟨o, e, _⟩ := x; exact Heap.lt_size e
end
theorem Sqk.same {K : PySem.W.Frag} {k : Bool} {H H' : Hp} {a : Addr} {xs : List V} (e : Same H H') (h : Sqk K k H a xs) : Sqk K k H' a xs := by
  cases k with
  | true => exact e.seq h
  | false =>
    rcases h with (h | ⟨o, h⟩) | h
    · exact .inl (.inl (e _ _ h))
    · exact .inl (.inr ⟨o, e _ _ h⟩)
    · exact .inr h

/-! ### for a, b in zip(x, y), x and y lists or tuples -/
def Iz2 (K : PySem.W.Frag) (k1 k2 : Bool) (a b : Addr) : It :=
  ⟨fun i H => ∃ (xs ys : List V) (x y : V), Sqk K k1 H a xs ∧ Sqk K k2 H b ys ∧ xs[i]? = some x ∧ ys[i]? = some y,
    fun i H v H' => ∃ T x y, v = .ref T ∧ H T = none ∧ H' = upd H T (.tup [x, y]) ∧ (∀ xs, Sqk K k1 H a xs → xs[i]? = some x) ∧ ∀ ys, Sqk K k2 H b ys → ys[i]? = some y,
    fun i H => ∃ xs ys : List V, Sqk K k1 H a xs ∧ Sqk K k2 H b ys ∧ xs.length = ys.length ∧ xs.length = i⟩
def Iz3 (K : PySem.W.Frag) (k1 k2 k3 : Bool) (a b c : Addr) : It :=
  ⟨fun i H => ∃ (xs ys zs : List V) (x y z : V), Sqk K k1 H a xs ∧ Sqk K k2 H b ys ∧ Sqk K k3 H c zs ∧ xs[i]? = some x ∧ ys[i]? = some y ∧ zs[i]? = some z,
    fun i H v H' => ∃ T x y z, v = .ref T ∧ H T = none ∧ H' = upd H T (.tup [x, y, z]) ∧ (∀ xs, Sqk K k1 H a xs → xs[i]? = some x) ∧ (∀ ys, Sqk K k2 H b ys → ys[i]? = some y) ∧ ∀ zs, Sqk K k3 H c zs → zs[i]? = some z,
    fun i H => ∃ xs ys zs : List V, Sqk K k1 H a xs ∧ Sqk K k2 H b ys ∧ Sqk K k3 H c zs ∧ xs.length = ys.length ∧ ys.length = zs.length ∧ xs.length = i⟩

theorem turn_z2 {P : Program} {w : World} {K : PySem.W.Frag} {elts : List Expr} {kk : Nat} {tpos : Pos} {k1 k2 : Bool} {a b z TI TO i1 i2 : Addr} (S : ZipSep2 z TI TO i1 i2 [i1, a] [i2, b]) (n1 : a ≠ i1) (n2 : b ≠ i2) :
    Turn P w K (.Tuple elts kk tpos) (Iz2 K k1 k2 a b) [z, TI, TO, i1, i2] z (fun i h => IsZip h z TI TO .none ∧ IsTupOf2 h TI (.ref i1) (.ref i2) ∧ (∃ x y, IsTupOf2 h TO x y) ∧ ItK k1 h i1 a i ∧ ItK k2 h i2 b i) where
  mem := by simp
  obj := fun i h st c hc => by
    obtain ⟨hz, hTI, ⟨x, y, hTO⟩, h1, h2⟩ := st
    have e' : c = z ∨ c = TI ∨ c = TO ∨ c = i1 ∨ c = i2 := by simpa using hc
    rcases e' with q | q | q | q | q
    · rw [q]; exact ⟨_, hz, fun v q => nomatch q⟩
    · rw [q]; exact ⟨_, hTI, fun v q => nomatch q⟩
    · rw [q]; exact ⟨_, hTO, fun v q => nomatch q⟩
    · rw [q]; exact h1.obj
    · rw [q]; exact h2.obj
  keep := fun i h h' st k => by
    obtain ⟨hz, hTI, ⟨x, y, hTO⟩, h1, h2⟩ := st
    exact ⟨k z (by simp) _ hz, k TI (by simp) _ hTI, ⟨x, y, k TO (by simp) _ hTO⟩, h1.at fun o q => k i1 (by simp) o q, h2.at fun o q => k i2 (by simp) o q⟩
  item := by
    intro X hP hw hK hc i pins s σ H E I hf st hg
    subst hP hw hK
    obtain ⟨xs, ys, x, y, hqx, hqy, hx, hy⟩ := hg
    obtain ⟨its, rv, p⟩ := invK I hqx
    obtain ⟨its2, rv2, p2⟩ := invK I hqy
    obtain ⟨u, hu, ru⟩ := rv.get hx
    obtain ⟨u2, hu2, ru2⟩ := rv2.get hy
    have hh : X.A.handled = none := I.ok.hd hc
    have D1 := drawsK (prog := X.prog) (w := X.w) (A := X.A.in1) hh k1 i1 a n1 its.toArray
    have D2 := drawsK (prog := X.prog) (w := X.w) (A := X.A.in1) hh k2 i2 b n2 its2.toArray
    have l1 : i < its.length := (List.getElem?_eq_some_iff.mp hu).1
    have l2 : i < its2.length := (List.getElem?_eq_some_iff.mp hu2).1
    have W := GoesN.zip2 (elts := elts) (x1 := kk) (pos := tpos) S D1 D2
    refine W.goes i s (fun v s2 => ∃ x H', Inv X pins σ H' s2 ∧ RelV x v ∧ (Iz2 X.K k1 k2 a b).yld i H x H' ∧ (IsZip s2.heap z TI TO .none ∧ IsTupOf2 s2.heap TI (.ref i1) (.ref i2) ∧ (∃ x y, IsTupOf2 s2.heap TO x y) ∧ ItK k1 s2.heap i1 a (i + 1) ∧ ItK k2 s2.heap i2 b (i + 1)) ∧ ∀ b ∈ [z, TI, TO, i1, i2], H' b = none) E (by simp only [List.size_toArray]; omega) ⟨st.1, st.2.1, st.2.2.1, ⟨st.2.2.2.1, p⟩, st.2.2.2.2, p2⟩ fun v h' tk hY st' hk htk => ?_
    obtain ⟨T, v1, v2, rfl, hT, e1, e2, hTu⟩ := hY
    have q1 : v1 = u := by
      have e1' : its[i]? = some v1 := by simpa using e1
      rw [hu] at e1'; exact (Option.some.inj e1').symm
    have q2 : v2 = u2 := by
      have e2' : its2[i]? = some v2 := by simpa using e2
      rw [hu2] at e2'; exact (Option.some.inj e2').symm
    subst q1 q2
    have new : ObjOk X.prog X.w (upd H T (.tup [x, y])) h' T (.tup [x, y]) :=
      ⟨by show 2 ≤ sizeLine; decide, [v1, v2], .cons ru (.cons ru2 .nil), hTu⟩
    have I1 : Inv X pins σ (upd H T (.tup [x, y])) { s with heap := h', toks := tk } :=
      I.turnedNew (t' := tk) (ch := [z, TI, TO, i1, i2]) (fun c o hb q => hk c o (fun hm => hb (by
        simp only [List.mem_cons, List.mem_nil_iff, or_false] at hm ⊢
        rcases hm with q | q | q | q <;> simp [q])) q) hf hT new
    refine ⟨.ref T, _, I1, rfl, ⟨T, x, y, rfl, I.hok.fresh hT, rfl, fun l hl => by rw [injK I hl hqx]; exact hx, fun l hl => by rw [injK I hl hqy]; exact hy⟩, ⟨st'.1, st'.2.1, st'.2.2.1, st'.2.2.2.1.1, st'.2.2.2.2.1⟩, fun c hcm => ?_⟩
    have hlt : c < s.heap.objs.size := by
      obtain ⟨hz, hTI, ⟨x0, y0, hTO⟩, h1, h2⟩ := st
      have e' : c = z ∨ c = TI ∨ c = TO ∨ c = i1 ∨ c = i2 := by simpa using hcm
      rcases e' with q | q | q | q | q
      · rw [q]; exact Heap.lt_size hz
      · rw [q]; exact Heap.lt_size hTI
      · rw [q]; exact Heap.lt_size hTO
      · rw [q]; obtain ⟨_, e1, _⟩ := h1.obj; exact Heap.lt_size e1
      · rw [q]; obtain ⟨_, e2, _⟩ := h2.obj; exact Heap.lt_size e2
    rw [upd_ne (Nat.ne_of_lt (Nat.lt_of_lt_of_le hlt hT))]
    exact (hf c hcm).1
  done := by
    intro X hP hw hK hc i pins s σ H E I hf st hg
    subst hP hw hK
    obtain ⟨xs, ys, hqx, hqy, hl, hi⟩ := hg
    obtain ⟨its, rv, p⟩ := invK I hqx
    obtain ⟨its2, rv2, p2⟩ := invK I hqy
    have hh : X.A.handled = none := I.ok.hd hc
    have D1 := drawsK (prog := X.prog) (w := X.w) (A := X.A.in1) hh k1 i1 a n1 its.toArray
    have D2 := drawsK (prog := X.prog) (w := X.w) (A := X.A.in1) hh k2 i2 b n2 its2.toArray
    have W := GoesN.zip2 (elts := elts) (x1 := kk) (pos := tpos) S D1 D2
    have l1 := rv.length
    have l2 := rv2.length
    have en : min its.toArray.size its2.toArray.size = i := by simp only [List.size_toArray]; omega
    have st2 : (IsZip s.heap z TI TO .none ∧ IsTupOf2 s.heap TI (.ref i1) (.ref i2) ∧ (∃ a1 a2, IsTupOf2 s.heap TO a1 a2) ∧ (ItK k1 s.heap i1 a (min its.toArray.size its2.toArray.size) ∧ SeqK k1 s.heap a its.toArray) ∧ ItK k2 s.heap i2 b (min its.toArray.size its2.toArray.size) ∧ SeqK k2 s.heap b its2.toArray) := by
      rw [en]
      exact ⟨st.1, st.2.1, st.2.2.1, ⟨st.2.2.2.1, p⟩, st.2.2.2.2, p2⟩
    refine W.stops s (fun s1 => Inv X pins σ H s1) E st2 fun h' tk hk htk => ?_
    exact I.turnedL (t' := tk) (ch := [z, TI, TO, i1, i2]) (fun c o hb q => hk c o (fun hm => hb (by
        simp only [List.mem_cons, List.mem_nil_iff, or_false] at hm ⊢
        rcases hm with q | q | q | q <;> simp [q])) q) hf
  self := fun A i s Q E st h => wpAny_pyIter_zip st.1 h

theorem turn_z3 {P : Program} {w : World} {K : PySem.W.Frag} {elts : List Expr} {kk : Nat} {tpos : Pos} {k1 k2 k3 : Bool} {a b c z TI TO i1 i2 i3 : Addr} (S : ZipSep3 z TI TO i1 i2 i3 [i1, a] [i2, b] [i3, c]) (n1 : a ≠ i1) (n2 : b ≠ i2) (n3 : c ≠ i3) :
    Turn P w K (.Tuple elts kk tpos) (Iz3 K k1 k2 k3 a b c) [z, TI, TO, i1, i2, i3] z (fun i h => IsZip h z TI TO .none ∧ IsTupOf3 h TI (.ref i1) (.ref i2) (.ref i3) ∧ (∃ x y v, IsTupOf3 h TO x y v) ∧ ItK k1 h i1 a i ∧ ItK k2 h i2 b i ∧ ItK k3 h i3 c i) where
  mem := by simp
  obj := fun i h st c hc => by
    obtain ⟨hz, hTI, ⟨x, y, v, hTO⟩, h1, h2, h3⟩ := st
    have e' : c = z ∨ c = TI ∨ c = TO ∨ c = i1 ∨ c = i2 ∨ c = i3 := by simpa using hc
    rcases e' with q | q | q | q | q | q
    · rw [q]; exact ⟨_, hz, fun v q => nomatch q⟩
    · rw [q]; exact ⟨_, hTI, fun v q => nomatch q⟩
    · rw [q]; exact ⟨_, hTO, fun v q => nomatch q⟩
    · rw [q]; exact h1.obj
    · rw [q]; exact h2.obj
    · rw [q]; exact h3.obj
  keep := fun i h h' st k => by
    obtain ⟨hz, hTI, ⟨x, y, v, hTO⟩, h1, h2, h3⟩ := st
    exact ⟨k z (by simp) _ hz, k TI (by simp) _ hTI, ⟨x, y, v, k TO (by simp) _ hTO⟩, h1.at fun o q => k i1 (by simp) o q, h2.at fun o q => k i2 (by simp) o q, h3.at fun o q => k i3 (by simp) o q⟩
  item := by
    intro X hP hw hK hc i pins s σ H E I hf st hg
    subst hP hw hK
    obtain ⟨xs, ys, zs, x, y, v, hqx, hqy, hqz, hx, hy, hz⟩ := hg
    obtain ⟨its, rv, p⟩ := invK I hqx
    obtain ⟨its2, rv2, p2⟩ := invK I hqy
    obtain ⟨its3, rv3, p3⟩ := invK I hqz
    obtain ⟨u, hu, ru⟩ := rv.get hx
    obtain ⟨u2, hu2, ru2⟩ := rv2.get hy
    obtain ⟨u3, hu3, ru3⟩ := rv3.get hz
    have hh : X.A.handled = none := I.ok.hd hc
    have D1 := drawsK (prog := X.prog) (w := X.w) (A := X.A.in1) hh k1 i1 a n1 its.toArray
    have D2 := drawsK (prog := X.prog) (w := X.w) (A := X.A.in1) hh k2 i2 b n2 its2.toArray
    have D3 := drawsK (prog := X.prog) (w := X.w) (A := X.A.in1) hh k3 i3 c n3 its3.toArray
    have l1 : i < its.length := (List.getElem?_eq_some_iff.mp hu).1
    have l2 : i < its2.length := (List.getElem?_eq_some_iff.mp hu2).1
    have l3 : i < its3.length := (List.getElem?_eq_some_iff.mp hu3).1
    have W := GoesN.zip3 (elts := elts) (x1 := kk) (pos := tpos) S D1 D2 D3
    refine W.goes i s (fun v s2 => ∃ x H', Inv X pins σ H' s2 ∧ RelV x v ∧ (Iz3 X.K k1 k2 k3 a b c).yld i H x H' ∧ (IsZip s2.heap z TI TO .none ∧ IsTupOf3 s2.heap TI (.ref i1) (.ref i2) (.ref i3) ∧ (∃ x y v, IsTupOf3 s2.heap TO x y v) ∧ ItK k1 s2.heap i1 a (i + 1) ∧ ItK k2 s2.heap i2 b (i + 1) ∧ ItK k3 s2.heap i3 c (i + 1)) ∧ ∀ b ∈ [z, TI, TO, i1, i2, i3], H' b = none) E (by simp only [List.size_toArray]; omega) ⟨st.1, st.2.1, st.2.2.1, ⟨st.2.2.2.1, p⟩, ⟨st.2.2.2.2.1, p2⟩, st.2.2.2.2.2, p3⟩ fun v h' tk hY st' hk htk => ?_
    obtain ⟨T, v1, v2, v3, rfl, hT, e1, e2, e3, hTu⟩ := hY
    have q1 : v1 = u := by
      have e1' : its[i]? = some v1 := by simpa using e1
      rw [hu] at e1'; exact (Option.some.inj e1').symm
    have q2 : v2 = u2 := by
      have e2' : its2[i]? = some v2 := by simpa using e2
      rw [hu2] at e2'; exact (Option.some.inj e2').symm
    have q3 : v3 = u3 := by
      have e3' : its3[i]? = some v3 := by simpa using e3
      rw [hu3] at e3'; exact (Option.some.inj e3').symm
    subst q1 q2 q3
    have new : ObjOk X.prog X.w (upd H T (.tup [x, y, v])) h' T (.tup [x, y, v]) :=
      ⟨by show 3 ≤ sizeLine; decide, [v1, v2, v3], .cons ru (.cons ru2 (.cons ru3 .nil)), hTu⟩
    have I1 : Inv X pins σ (upd H T (.tup [x, y, v])) { s with heap := h', toks := tk } :=
      I.turnedNew (t' := tk) (ch := [z, TI, TO, i1, i2, i3]) (fun c o hb q => hk c o (fun hm => hb (by
        simp only [List.mem_cons, List.mem_nil_iff, or_false] at hm ⊢
        rcases hm with q | q | q | q | q <;> simp [q])) q) hf hT new
    refine ⟨.ref T, _, I1, rfl, ⟨T, x, y, v, rfl, I.hok.fresh hT, rfl, fun l hl => by rw [injK I hl hqx]; exact hx, fun l hl => by rw [injK I hl hqy]; exact hy, fun l hl => by rw [injK I hl hqz]; exact hz⟩, ⟨st'.1, st'.2.1, st'.2.2.1, st'.2.2.2.1.1, st'.2.2.2.2.1.1, st'.2.2.2.2.2.1⟩, fun c hcm => ?_⟩
    have hlt : c < s.heap.objs.size := by
      obtain ⟨hz, hTI, ⟨x0, y0, v0, hTO⟩, h1, h2, h3⟩ := st
      have e' : c = z ∨ c = TI ∨ c = TO ∨ c = i1 ∨ c = i2 ∨ c = i3 := by simpa using hcm
      rcases e' with q | q | q | q | q | q
      · rw [q]; exact Heap.lt_size hz
      · rw [q]; exact Heap.lt_size hTI
      · rw [q]; exact Heap.lt_size hTO
      · rw [q]; obtain ⟨_, e1, _⟩ := h1.obj; exact Heap.lt_size e1
      · rw [q]; obtain ⟨_, e2, _⟩ := h2.obj; exact Heap.lt_size e2
      · rw [q]; obtain ⟨_, e2, _⟩ := h3.obj; exact Heap.lt_size e2
    rw [upd_ne (Nat.ne_of_lt (Nat.lt_of_lt_of_le hlt hT))]
    exact (hf c hcm).1
  done := by
    intro X hP hw hK hc i pins s σ H E I hf st hg
    subst hP hw hK
    obtain ⟨xs, ys, zs, hqx, hqy, hqz, hl, hl2, hi⟩ := hg
    obtain ⟨its, rv, p⟩ := invK I hqx
    obtain ⟨its2, rv2, p2⟩ := invK I hqy
    obtain ⟨its3, rv3, p3⟩ := invK I hqz
    have hh : X.A.handled = none := I.ok.hd hc
    have D1 := drawsK (prog := X.prog) (w := X.w) (A := X.A.in1) hh k1 i1 a n1 its.toArray
    have D2 := drawsK (prog := X.prog) (w := X.w) (A := X.A.in1) hh k2 i2 b n2 its2.toArray
    have D3 := drawsK (prog := X.prog) (w := X.w) (A := X.A.in1) hh k3 i3 c n3 its3.toArray
    have W := GoesN.zip3 (elts := elts) (x1 := kk) (pos := tpos) S D1 D2 D3
    have l1 := rv.length
    have l2 := rv2.length
    have l3 := rv3.length
    have en : min (min its.toArray.size its2.toArray.size) its3.toArray.size = i := by simp only [List.size_toArray]; omega
    have st2 : (fun i h => IsZip h z TI TO .none ∧ IsTupOf3 h TI (.ref i1) (.ref i2) (.ref i3) ∧ (∃ a1 a2 a3, IsTupOf3 h TO a1 a2 a3) ∧ (ItK k1 h i1 a i ∧ SeqK k1 h a its.toArray) ∧ (ItK k2 h i2 b i ∧ SeqK k2 h b its2.toArray) ∧ ItK k3 h i3 c i ∧ SeqK k3 h c its3.toArray) (min (min its.toArray.size its2.toArray.size) its3.toArray.size) s.heap := by
      rw [en]
      exact ⟨st.1, st.2.1, st.2.2.1, ⟨st.2.2.2.1, p⟩, ⟨st.2.2.2.2.1, p2⟩, st.2.2.2.2.2, p3⟩
    refine W.stops s (fun s1 => Inv X pins σ H s1) E st2 fun h' tk hk htk => ?_
    exact I.turnedL (t' := tk) (ch := [z, TI, TO, i1, i2, i3]) (fun c o hb q => hk c o (fun hm => hb (by
        simp only [List.mem_cons, List.mem_nil_iff, or_false] at hm ⊢
        rcases hm with q | q | q | q | q <;> simp [q])) q) hf
  self := fun A i s Q E st h => wpAny_pyIter_zip st.1 h

/-! ### the walks -/
def iSeq (K : PySem.W.Frag) (tl : TE) : TI := fun σ H R => tl σ H fun x H1 => ∃ (k : Bool) (a : Addr) (xs : List V), x = .ref a ∧ Sqk K k H1 a xs ∧ R (match k with | true => Itl K a | false => Itt K a) H1
theorem pi_seq {X : Cx} {tg l : Expr} {tl : TE} (hl : PE X l tl) : PI X tg l (iSeq X.K tl) := by
  refine ⟨fun pins s σ H R I h => ?_⟩
  refine thn (hl.run pins s σ H _ I h) fun v s1 ⟨x, H1, I1, r1, q1⟩ => ?_
  obtain ⟨k, a, xs, e, hq, q⟩ := q1
  subst e
  cases r1
  cases k with
  | true =>
    obtain ⟨its, rv, p, hz⟩ := I1.list hq
    refine wpAny_pyIter_list p.isList ?_
    refine ⟨s1.heap.objs.size, [s1.heap.objs.size], _, _, H1, rfl, I1.kept (t' := s1.toks) fun b o e => Heap.get?_push_of_some _ e, turn_list a _, ⟨_, Heap.get?_push_size _ rfl, rfl, rfl⟩, fun b hb => ?_, q⟩
    have e : b = s1.heap.objs.size := by simpa using hb
    subst e
    exact I1.fpOk (Nat.le_refl _) (I1.hok.fresh (Nat.le_refl _))
  | false =>
    obtain ⟨its, rv, p, hz⟩ := I1.tuple hq
    refine wpAny_pyIter_tuple (show s1.heap.IsTuple a its.toArray from p) ?_
    refine ⟨s1.heap.objs.size, [s1.heap.objs.size], _, _, H1, rfl, I1.kept (t' := s1.toks) fun b o e => Heap.get?_push_of_some _ e, turn_tuple a _, ⟨_, Heap.get?_push_size _ rfl, rfl, rfl⟩, fun b hb => ?_, q⟩
    have e : b = s1.heap.objs.size := by simpa using hb
    subst e
    exact I1.fpOk (Nat.le_refl _) (I1.hok.fresh (Nat.le_refl _))
theorem walk_seq {K : PySem.W.Frag} {k : Bool} {a : Addr} {xs : List V} : Walk (match k with | true => Itl K a | false => Itt K a) xs.length (fun H => Sqk K k H a xs) (YAt xs) := by
  cases k with
  | true => exact walk_list
  | false => exact walk_tup
def iZ2 (K : PySem.W.Frag) (ta : TA) : TI := fun σ H R => ta σ H fun vs H1 => ∃ (k1 k2 : Bool) (a b : Addr) (xs ys : List V), vs = [.ref a, .ref b] ∧ Sqk K k1 H1 a xs ∧ Sqk K k2 H1 b ys ∧ R (Iz2 K k1 k2 a b) H1
def iZ3 (K : PySem.W.Frag) (ta : TA) : TI := fun σ H R => ta σ H fun vs H1 => ∃ (k1 k2 k3 : Bool) (a b c : Addr) (xs ys zs : List V), vs = [.ref a, .ref b, .ref c] ∧ Sqk K k1 H1 a xs ∧ Sqk K k2 H1 b ys ∧ Sqk K k3 H1 c zs ∧ R (Iz3 K k1 k2 k3 a b c) H1
theorem pi_z2 {X : Cx} {e e2 : Expr} {ta : TA} {p pos tpos : Pos} {elts : List Expr} {kk : Nat} (hg : Gl X "zip") (hm : X.mg "zip" = none) (ha : PA X [e, e2] ta)
    (hs : starEach [e, e2] X.env = (false, eval e X.env) :: starEach [e2] X.env := by rfl) (hpl : (backTo pos (starEach [e2] X.env)).any (·.1) = false := by rfl) :
    PI X (.Tuple elts kk tpos) (.Call (.Name "zip" p) [e, e2] [] pos) (iZ2 X.K ta) := by
  refine ⟨fun pins s σ H R I h => ?_⟩
  refine Call_ (ld_blt I hg hm PyProof.Rows.boot_zip (PyProof.Rows.callWith_type1 (thn (ha.run pos pins s σ H _ I h) fun us s1 ⟨vs, H1, I1, r1, q1⟩ => ?_) hs hpl))
  obtain ⟨k1, k2, a, b, xs, ys, ex, hqx, hqy, q⟩ := q1
  subst ex
  cases r1 with
  | cons r rr =>
    cases rr with
    | cons r' rr =>
      cases rr
      cases r
      cases r'
      obtain ⟨its, rv, p1⟩ := invK I1 hqx
      obtain ⟨its2, rv2, p2⟩ := invK I1 hqy
      have la : a < s1.heap.objs.size := p1.lt
      have lb : b < s1.heap.objs.size := p2.lt
      refine zip_begins2 (begK k1 a its.toArray) (begK k2 b its2.toArray) p1 p2 fun h' hz hTI hTO h1 h2 hsz hk => wpAny_pyIter_zip hz ?_
      have I2 : Inv X pins σ H1 { s1 with heap := h' } := I1.kept (t' := s1.toks) hk
      refine ⟨s1.heap.objs.size + 4, [s1.heap.objs.size + 4, s1.heap.objs.size + 2, s1.heap.objs.size + 3, s1.heap.objs.size, s1.heap.objs.size + 1], _, _, H1, rfl, I2, turn_z2 (zip_sep2 (fun b hb => by simp at hb; rw [hb]; exact la) (fun b hb => by simp at hb; rw [hb]; exact lb)) (Nat.ne_of_lt la) (Nat.ne_of_lt (Nat.lt_succ_of_lt lb)), ⟨hz, hTI, ⟨_, _, hTO⟩, ItK.new h1, ItK.new h2⟩, fun c hcm => ?_, q⟩
      have e' : c = s1.heap.objs.size + 4 ∨ c = s1.heap.objs.size + 2 ∨ c = s1.heap.objs.size + 3 ∨ c = s1.heap.objs.size ∨ c = s1.heap.objs.size + 1 := by simpa using hcm
      have hle : s1.heap.objs.size ≤ c := by
        rcases e' with z | z | z | z | z
        · rw [z]; exact Nat.le_add_right _ _
        · rw [z]; exact Nat.le_add_right _ _
        · rw [z]; exact Nat.le_add_right _ _
        · rw [z]; exact Nat.le_refl _
        · rw [z]; exact Nat.le_add_right _ _
      exact I1.fpOk hle (I1.hok.fresh hle)
theorem pi_z3 {X : Cx} {e e2 e3 : Expr} {ta : TA} {p pos tpos : Pos} {elts : List Expr} {kk : Nat} (hg : Gl X "zip") (hm : X.mg "zip" = none) (ha : PA X [e, e2, e3] ta)
    (hs : starEach [e, e2, e3] X.env = (false, eval e X.env) :: starEach [e2, e3] X.env := by rfl) (hpl : (backTo pos (starEach [e2, e3] X.env)).any (·.1) = false := by rfl) :
    PI X (.Tuple elts kk tpos) (.Call (.Name "zip" p) [e, e2, e3] [] pos) (iZ3 X.K ta) := by
  refine ⟨fun pins s σ H R I h => ?_⟩
  refine Call_ (ld_blt I hg hm PyProof.Rows.boot_zip (PyProof.Rows.callWith_type1 (thn (ha.run pos pins s σ H _ I h) fun us s1 ⟨vs, H1, I1, r1, q1⟩ => ?_) hs hpl))
  obtain ⟨k1, k2, k3, a, b, c, xs, ys, zs, ex, hqx, hqy, hqz, q⟩ := q1
  subst ex
  cases r1 with
  | cons r rr =>
    cases rr with
    | cons r' rr =>
      cases rr with
      | cons r'' rr =>
        cases rr
        cases r
        cases r'
        cases r''
        obtain ⟨its, rv, p1⟩ := invK I1 hqx
        obtain ⟨its2, rv2, p2⟩ := invK I1 hqy
        obtain ⟨its3, rv3, p3⟩ := invK I1 hqz
        have la : a < s1.heap.objs.size := p1.lt
        have lb : b < s1.heap.objs.size := p2.lt
        have lc : c < s1.heap.objs.size := p3.lt
        refine zip_begins3 (begK k1 a its.toArray) (begK k2 b its2.toArray) (begK k3 c its3.toArray) p1 p2 p3 fun h' hz hTI hTO h1 h2 h3 hsz hk => wpAny_pyIter_zip hz ?_
        have I2 : Inv X pins σ H1 { s1 with heap := h' } := I1.kept (t' := s1.toks) hk
        refine ⟨s1.heap.objs.size + 5, [s1.heap.objs.size + 5, s1.heap.objs.size + 3, s1.heap.objs.size + 4, s1.heap.objs.size, s1.heap.objs.size + 1, s1.heap.objs.size + 2], _, _, H1, rfl, I2, turn_z3 (zip_sep3 (fun b hb => by simp at hb; rw [hb]; exact la) (fun b hb => by simp at hb; rw [hb]; exact lb) (fun b hb => by simp at hb; rw [hb]; exact lc)) (Nat.ne_of_lt la) (Nat.ne_of_lt (Nat.lt_succ_of_lt lb)) (Nat.ne_of_lt (Nat.lt_succ_of_lt (Nat.lt_succ_of_lt lc))), ⟨hz, hTI, ⟨_, _, _, hTO⟩, ItK.new h1, ItK.new h2, ItK.new h3⟩, fun c hcm => ?_, q⟩
        have e' : c = s1.heap.objs.size + 5 ∨ c = s1.heap.objs.size + 3 ∨ c = s1.heap.objs.size + 4 ∨ c = s1.heap.objs.size ∨ c = s1.heap.objs.size + 1 ∨ c = s1.heap.objs.size + 2 := by simpa using hcm
        have hle : s1.heap.objs.size ≤ c := by
          rcases e' with z | z | z | z | z | z
          · rw [z]; exact Nat.le_add_right _ _
          · rw [z]; exact Nat.le_add_right _ _
          · rw [z]; exact Nat.le_add_right _ _
          · rw [z]; exact Nat.le_refl _
          · rw [z]; exact Nat.le_add_right _ _
          · rw [z]; exact Nat.le_add_right _ _
        exact I1.fpOk hle (I1.hok.fresh hle)
/-- a new triple -/
def YTrip (xs ys zs : Nat → Option V) : Nat → Hp → V → Hp → Prop := fun i H v H' => ∃ T x y z, v = .ref T ∧ H T = none ∧ H' = upd H T (.tup [x, y, z]) ∧ xs i = some x ∧ ys i = some y ∧ zs i = some z
section
variable {K : PySem.W.Frag} {k1 k2 k3 : Bool} {a b c : Addr} {xs ys zs : List V}
theorem walk_z2 (hl : xs.length = ys.length) : Walk (Iz2 K k1 k2 a b) xs.length (fun H => Sqk K k1 H a xs ∧ Sqk K k2 H b ys) (YPair (fun i => xs[i]?) (fun i => ys[i]?)) := by
  refine ⟨fun i _ hi q => ?_, fun _ q => ⟨xs, ys, q.1, q.2, hl, rfl⟩, fun i H v H' _ q y => ?_⟩
  · have h2 : i < ys.length := by omega
    exact ⟨xs, ys, xs[i], ys[i], q.1, q.2, by simp [hi], by simp [h2]⟩
  · obtain ⟨T, x, z, h1, h2, h3, h4, h5⟩ := y
    exact ⟨T, x, z, h1, h2, h3, h4 xs q.1, h5 ys q.2⟩
theorem walk_z3 (hl : xs.length = ys.length) (hl2 : ys.length = zs.length) : Walk (Iz3 K k1 k2 k3 a b c) xs.length (fun H => Sqk K k1 H a xs ∧ Sqk K k2 H b ys ∧ Sqk K k3 H c zs) (YTrip (fun i => xs[i]?) (fun i => ys[i]?) (fun i => zs[i]?)) := by
  refine ⟨fun i _ hi q => ?_, fun _ q => ⟨xs, ys, zs, q.1, q.2.1, q.2.2, hl, hl2, rfl⟩, fun i H v H' _ q y => ?_⟩
  · have h2 : i < ys.length := by omega
    have h3 : i < zs.length := by omega
    exact ⟨xs, ys, zs, xs[i], ys[i], zs[i], q.1, q.2.1, q.2.2, by simp [hi], by simp [h2], by simp [h3]⟩
  · obtain ⟨T, x, z, v, h1, h2, h3, h4, h5, h6⟩ := y
    exact ⟨T, x, z, v, h1, h2, h3, h4 xs q.1, h5 ys q.2.1, h6 zs q.2.2⟩
end
end Cs

namespace Cs
open PySem PySem.Spec PyProof.Rows L2

/-! ### keywords -/
section
variable {X : Cx} {CX : CXT} {k n : Nat} {f C : Addr} {fd : FuncData} {ps ks : List Str} {sp : Sp} {E : XK} {x m : Str} {p pos apos : Pos} {e o : Expr} {es : List Expr} {kws : List Keyword} {ta : TE} {t tk : TA} {g : List Value → List Value → List Value} {gV : List V → List V → List V}
def tMethK (C : Addr) (m : Str) (n j : Nat) (sp : Sp) (gV : List V → List V → List V) (E : XK) (ta : TE) (t tk : TA) : TE := fun σ H Q => ta σ H fun x H1 => ∃ a dx fs, x = .ref a ∧ H1 a = some (.ins C dx fs) ∧ fs.lookup m = none ∧
  t σ H1 fun vs H2 => tk σ H2 fun zs H3 => vs.length = n ∧ zs.length = j ∧ sp (gV (x :: vs) zs) H3 Q E
theorem pe_methK0 {pl : Sem Bool} (he : PE X o ta) (c : Cls X.K C) (hm : Meth X.K C m f) (F : FnOk X.prog X.w X.K X.mg X.base CX k f fd ps sp) (hr : Room k X.A) (hb : KBn X.K fd ps 1 ks g gV) (hx : Passes CX X E) (hkw : PK X kws tk)
    (hall : (backToKw pos (keywordEach kws X.env)).all (·.1.isSome) = true := by rfl) (hks : (backToKw pos (keywordEach kws X.env)).filterMap (·.1) = ks := by rfl)
    (hpl : ((backTo pos (starEach [] X.env)).any (·.1) || (backToKw pos (keywordEach kws X.env)).any (·.1.isNone)) = false := by rfl)
    (ht : eval (.Call (.Attribute o m apos) [] kws pos) X.env = (do
      let ov ← eval o X.env
      standAt apos.atName
      let (f, first) ← holding [ov] (getMethod ov m pl)
      callWith pos f first (backTo pos (starEach [] X.env)) (backToKw pos (keywordEach kws X.env))) := by rfl) :
    PE X (.Call (.Attribute o m apos) [] kws pos) (tMethK C m 0 ks.length sp gV E ta tNil tk) := by
  refine ⟨fun pins s σ H Q I h => ?_⟩
  refine PySem.W.methodCall_KW (pl := pl) (thn (he.run pins s σ H _ I h) fun u s1 ⟨x, H1, I1, rx, a, dx, fs, ex, ea, l, q⟩ => ?_) ht
  subst ex
  obtain rfl : u = Value.ref a := rx
  refine getmeth_ok I1 ea c hm l ?_
  refine PySem.W.callWith_KW0 (h₀ := X.base) (first := [.ref a]) I1.ok.mod.kin hm.kp hall ?_ hpl
  refine thn (hkw.run pos pins s1 σ H1 _ I1 q) fun ws s2 ⟨zs, H2, I2, rz, l1, l2, q2⟩ => ⟨I2.kIn, ?_⟩
  rw [hks]
  exact run_fnN (us := [.ref a]) (vs := [.ref a]) F hr hb hx I2 (.cons rfl .nil) rz rfl l2 q2
end

/-! ### list + list, the left one of any standing -/
theorem op_catS {X : Cx} : OpR X (binaryOp .Add) (fun x y H Q => ∃ l b xs zs, x = .ref l ∧ y = .ref b ∧ SqL X.K H l xs ∧ SqL X.K H b zs ∧ xs.length + zs.length ≤ sizeLine ∧ ∀ p, H p = none → Q (.ref p) (upd H p (.lst (xs ++ zs)))) := by
  intro pins s σ H x y v u Q I rx ry h
  obtain ⟨l, b, xs, zs, rfl, rfl, hH, hB, hz, q⟩ := h
  cases rx
  cases ry
  obtain ⟨its, r, p1, z⟩ := I.list hH
  obtain ⟨its2, r2, p2, z2⟩ := I.list hB
  have e1 := r.length
  have e2 := r2.length
  obtain ⟨⟨cls, dd, data, sl⟩, n, ho, hc, hs, hd⟩ := p1
  obtain ⟨⟨cls2, dd2, data2, sl2⟩, n2, ho2, hc2, hs2, hd2⟩ := p2
  simp only at hc hd hc2 hd2 hs hs2
  subst hc hd hc2 hd2 hs hs2
  have ea : its.toArray ++ its2.toArray = (its ++ its2).toArray := by simp
  refine concat_meets ⟨_, ho, rfl⟩ ⟨_, ho2, rfl⟩ noFill_list_add seq_list_add PySem.F.slot_list_add PySem.F.entry_list_add (PySem.F.args_list_add_2 _ _) (list_addW l b its.toArray its2.toArray n n2 none none sl sl2 (by simp only [List.size_toArray]; omega)) ⟨ho, ho2, ?_⟩
  rw [ea]
  exact ⟨.ref _, _, I.lnew (t' := s.toks) (r.append r2) (by rw [List.length_append]; omega), rfl, q _ I.fresh⟩

/-! ### heaps -/
theorem upd_old {H : Hp} {p q : Addr} {o : HO} (hp : H p = none) (hq : H q ≠ none) : upd H p o q = H q := upd_ne (fun e => hq (by rw [e]; exact hp))
/-- all that was tracked is as it was, but what stands at a -/
def Sx (a : Addr) (H H' : Hp) : Prop := ∀ b o, b ≠ a → H b = some o → H' b = some o
theorem Sx.refl {a : Addr} {H : Hp} : Sx a H H := fun _ _ _ h => h
theorem Sx.trans {a : Addr} {H H1 H2 : Hp} (x : Sx a H H1) (y : Sx a H1 H2) : Sx a H H2 := fun b o n h => y b o n (x b o n h)
theorem Sx.of {a : Addr} {H H' : Hp} (x : Same H H') : Sx a H H' := fun b o _ h => x b o h
theorem Sx.new {a p : Addr} {H : Hp} {o : HO} (hp : H p = none) : Sx a H (upd H p o) := fun b u _ h => by rw [upd_old hp (by rw [h]; simp)]; exact h
theorem Sx.put {a : Addr} {H : Hp} {o : HO} : Sx a H (upd H a o) := fun b u n h => by rw [upd_ne n]; exact h
theorem Same.new {p : Addr} {H : Hp} {o : HO} (hp : H p = none) : Same H (upd H p o) := fun b u h => by rw [upd_old hp (by rw [h]; simp)]; exact h
theorem Sx.same {a : Addr} {H H' : Hp} (x : Sx a H H') (h : H a = none) : Same H H' := fun b o e => x b o (fun z => by rw [z, h] at e; cases e) e
theorem ne_some {H : Hp} {p q : Addr} {o : HO} (hq : H q = some o) (hp : H p = none) : q ≠ p := fun e => by rw [e, hp] at hq; cases hq
theorem ne_two {H : Hp} {p q : Addr} {o u : HO} (hq : H q = some o) (hp : H p = some u) (d : o ≠ u) : q ≠ p := fun e => by rw [e, hp] at hq; exact d (Option.some.inj hq).symm

/-! ### comprehensions -/
section
variable {J : It} {n : Nat} {G : Hp → Prop} {Y : Nat → Hp → V → Hp → Prop}
/-- a comprehension without a test: Ia by the turn, what is made so far, and the heap; it does not look at the new list -/
theorem lc_gen (w : Walk J n G Y) {g : TG} {te : TE} {vs : List Nat} {σ : L2.St} {H1 : Hp} {D : Addr} {Qd : Hp → Prop} (Ia : Nat → List V → Hp → Prop) (hn : n ≤ sizeLine)
    (h0 : Ia 0 [] (upd H1 D (.lst []))) (hG : ∀ i acc H, i ≤ n → Ia i acc H → H D = some (.lst acc) → G H) (hst : ∀ i acc H l, Ia i acc H → H D ≠ none → Ia i acc (upd H D (.lst l)))
    (hs : ∀ i acc x H H' (Qy : VK), i < n → acc.length = i → Ia i acc H → H D = some (.lst acc) → Y i H x H' → (∀ y H4, H4 D = some (.lst acc) → Ia (i + 1) (acc ++ [y]) H4 → Qy y H4) → g x (wipe σ vs) H' fun σ2 H2 => wipe σ2 vs = wipe σ vs ∧ te σ2 H2 Qy)
    (hd : ∀ acc H, acc.length = n → Ia n acc H → H D = some (.lst acc) → Qd H) :
    ∃ W : Nat → Nat → Hp → Prop, (∃ m, W 0 m (upd H1 D (.lst []))) ∧ ∀ i m H, W i m H →
      (J.stop i H ∧ Qd H) ∨ (J.go i H ∧ ∃ Nx : Hp → Prop, (∀ H', Nx H' → ∃ m', m' < m ∧ W (i + 1) m' H') ∧ ∀ x H', J.yld i H x H' → g x (wipe σ vs) H' fun σ2 H2 => wipe σ2 vs = wipe σ vs ∧ tYes σ2 H2 fun b H3 =>
        if b = true then te σ2 H3 fun y H4 => ∃ acc, H4 D = some (.lst acc) ∧ acc.length < sizeLine ∧ Nx (upd H4 D (.lst (acc ++ [y]))) else Nx H3) := by
  refine lc_it w (fun i H => ∃ acc : List V, acc.length = i ∧ Ia i acc H ∧ H D = some (.lst acc)) ⟨[], rfl, h0, upd_same⟩ (fun i H hi ⟨acc, _, h, e⟩ => hG i acc H hi h e) (fun i x H H' hi ⟨acc, hl, h, e⟩ hy => ?_) (fun H ⟨acc, hl, h, e⟩ => hd acc H hl h e)
  refine hs i acc x H H' _ hi hl h e hy fun y H4 q1 q2 => ⟨acc, q1, by omega, acc ++ [y], by rw [List.length_append]; simp [hl], ?_, upd_same⟩
  exact hst _ _ _ _ q2 (by rw [q1]; simp)
/-- a comprehension that maps, and leaves all that was tracked as it was -/
theorem lc_map (w : Walk J n G Y) {g : TG} {te : TE} {vs : List Nat} {σ : L2.St} {H1 : Hp} {D : Addr} {Qd : Hp → Prop} (res : List V) (hl : res.length = n) (hn : n ≤ sizeLine) (hD : H1 D = none)
    (hG : ∀ H, Same H1 H → G H)
    (hs : ∀ i x H H' y (Qy : VK), i < n → Same H1 H → H D ≠ none → Y i H x H' → res[i]? = some y → (∀ H4, Same H' H4 → Qy y H4) → g x (wipe σ vs) H' fun σ2 H2 => wipe σ2 vs = wipe σ vs ∧ te σ2 H2 Qy)
    (hY : ∀ i x H H', Y i H x H' → Same H H')
    (hd : ∀ H, Same H1 H → H D = some (.lst res) → Qd H) :
    ∃ W : Nat → Nat → Hp → Prop, (∃ m, W 0 m (upd H1 D (.lst []))) ∧ ∀ i m H, W i m H →
      (J.stop i H ∧ Qd H) ∨ (J.go i H ∧ ∃ Nx : Hp → Prop, (∀ H', Nx H' → ∃ m', m' < m ∧ W (i + 1) m' H') ∧ ∀ x H', J.yld i H x H' → g x (wipe σ vs) H' fun σ2 H2 => wipe σ2 vs = wipe σ vs ∧ tYes σ2 H2 fun b H3 =>
        if b = true then te σ2 H3 fun y H4 => ∃ acc, H4 D = some (.lst acc) ∧ acc.length < sizeLine ∧ Nx (upd H4 D (.lst (acc ++ [y]))) else Nx H3) := by
  refine lc_gen w (fun i acc H => Same H1 H ∧ acc = res.take i) hn ⟨Same.new hD, by simp⟩ (fun i acc H _ h _ => hG H h.1) (fun i acc H l h _ => ⟨fun b o e => ?_, h.2⟩) (fun i acc x H H' Qy hi ha h e hy hq => ?_) (fun acc H ha h e => ?_)
  · rw [upd_ne (ne_some e hD)]
    exact h.1 b o e
  · have hi2 : i < res.length := by omega
    have hr : res[i]? = some res[i] := List.getElem?_eq_getElem hi2
    refine hs i x H H' res[i] Qy hi h.1 (by rw [e]; simp) hy hr fun H4 s4 => hq _ _ (s4 _ _ (hY _ _ _ _ hy _ _ e)) ⟨h.1.trans ((hY _ _ _ _ hy).trans s4), ?_⟩
    rw [h.2, List.take_add_one, hr]
    rfl
  · rw [h.2, ← hl, List.take_length] at e
    exact hd H h.1 e
end
theorem YAt.same {xs : List V} {i : Nat} {x : V} {H H' : Hp} (h : YAt xs i H x H') : Same H H' := by rw [h.1]; exact Same.refl _
theorem YPair.same {f g : Nat → Option V} {i : Nat} {x : V} {H H' : Hp} (h : YPair f g i H x H') : Same H H' := by
  obtain ⟨T, x, y, _, hT, rfl, _⟩ := h
  exact Same.new hT
theorem YTrip.same {f g k : Nat → Option V} {i : Nat} {x : V} {H H' : Hp} (h : YTrip f g k i H x H') : Same H H' := by
  obtain ⟨T, x, y, z, _, hT, rfl, _⟩ := h
  exact Same.new hT

/-! ### isinstance -/
/-- isinstance(x, c) is b -/
def IsI (K : PySem.W.Frag) (H : Hp) (x c : V) (b : Bool) : Prop := ∃ t u : Value, ClsV c u ∧ TyX K H x t ∧ PySem.W.kitOne K t u = some b
def rIsI (K : PySem.W.Frag) : List V → Hp → VK → Prop := fun vs H Q => ∃ x c b, vs = [x, c] ∧ IsI K H x c b ∧ Q (.bl b) H
theorem call_isI {X : Cx} : CallR X (.builtin "isinstance") (rIsI X.K) := by
  intro pins s σ H xs us Q I r h
  obtain ⟨x, c, b, rfl, ⟨t, u, h1, h2, h3⟩, q⟩ := h
  exact call_isi pins s σ H _ us Q I r ⟨x, c, t, u, b, rfl, h1, h2, h3, q⟩
/-- a value that is no object: its type's name -/
def tyN : V → Option String
  | .non => some "NoneType"
  | .bl _ => some "bool"
  | .int _ => some "int"
  | .str _ => some "str"
  | _ => none
theorem tyN_of {K : PySem.W.Frag} {H : Hp} {x : V} {t : Value} {n : String} (h : TyX K H x t) (e : tyN x = some n) : t = .type n := by
  cases h with
  | base b => cases b <;> simp [tyN] at e <;> subst e <;> rfl
  | byt b => simp [tyN] at e
  | set e' => simp [tyN] at e
  | kList e' _ => simp [tyN] at e
  | kTuple e' _ => simp [tyN] at e
  | kDict e' _ => simp [tyN] at e
  | fTuple e' => simp [tyN] at e
  | fDict e' => simp [tyN] at e
theorem isI_ty {K : PySem.W.Frag} {H : Hp} {x : V} {n : String} {c : String} {b : Bool} (ty : TyX K H x (.type n)) (h : kitB n c = some b) : IsI K H x (.ty c) b := ⟨_, _, .ty c, ty, kit_ty h⟩
theorem isI_iff {K : PySem.W.Frag} {H : Hp} {x : V} {n c : String} {b : Bool} {p : Bool → Prop} (e : tyN x = some n) (ty : TyX K H x (.type n)) (h : kitB n c = some b) : (∃ k, IsI K H x (.ty c) k ∧ p k) ↔ p b := by
  constructor
  · rintro ⟨k, ⟨t, u, hc, ht, hk⟩, q⟩
    have e1 := tyN_of ht e
    subst e1
    cases hc
    have e2 := hk.symm.trans (kit_ty (K := K) h)
    cases e2
    exact q
  · intro q
    exact ⟨b, isI_ty ty h, q⟩
section
variable {K : PySem.W.Frag} {H : Hp} {p : Bool → Prop}
theorem isI_int_int (n : Int) : (∃ k, IsI K H (.int n) (.ty "int") k ∧ p k) ↔ p true := isI_iff rfl (.base (.int n)) (by decide +kernel)
theorem isI_int_bool (n : Int) : (∃ k, IsI K H (.int n) (.ty "bool") k ∧ p k) ↔ p false := isI_iff rfl (.base (.int n)) (by decide +kernel)
theorem isI_bl_int (n : Bool) : (∃ k, IsI K H (.bl n) (.ty "int") k ∧ p k) ↔ p true := isI_iff rfl (.base (.bl n)) (by decide +kernel)
theorem isI_bl_bool (n : Bool) : (∃ k, IsI K H (.bl n) (.ty "bool") k ∧ p k) ↔ p true := isI_iff rfl (.base (.bl n)) (by decide +kernel)
theorem isI_str_str (n : Str) : (∃ k, IsI K H (.str n) (.ty "str") k ∧ p k) ↔ p true := isI_iff rfl (.base (.str n)) (by decide +kernel)
end
theorem isI_tup {K : PySem.W.Frag} {H : Hp} {a : Addr} {xs : List V} (h : H a = some (.tup xs)) : IsI K H (.ref a) (.ty "tuple") true := isI_ty (.base (.tup h)) (by decide +kernel)
theorem isI_lst {K : PySem.W.Frag} {H : Hp} {a : Addr} {xs : List V} (h : H a = some (.lst xs)) : IsI K H (.ref a) (.ty "list") true := isI_ty (.base (.lst h)) (by decide +kernel)
theorem isI_tup_list {K : PySem.W.Frag} {H : Hp} {a : Addr} {xs : List V} (h : H a = some (.tup xs)) : IsI K H (.ref a) (.ty "list") false := isI_ty (.base (.tup h)) (by decide +kernel)
theorem isI_lst_tup {K : PySem.W.Frag} {H : Hp} {a : Addr} {xs : List V} (h : H a = some (.lst xs)) : IsI K H (.ref a) (.ty "tuple") false := isI_ty (.base (.lst h)) (by decide +kernel)
/-- isinstance(x, (c1, c2)) is b -/
def IsA (K : PySem.W.Frag) (H : Hp) (x : V) (cs : List V) (b : Bool) : Prop := ∃ (t : Value) (us : List Value), Paired ClsV cs us ∧ TyX K H x t ∧ PySem.W.kitAny K t us = some b
def rIsA (K : PySem.W.Frag) : List V → Hp → VK → Prop := fun vs H Q => ∃ (x : V) (tp : Addr) (cs : List V) (b : Bool), vs = [x, .ref tp] ∧ H tp = some (.tup cs) ∧ IsA K H x cs b ∧ Q (.bl b) H
theorem call_isA {X : Cx} : CallR X (.builtin "isinstance") (rIsA X.K) := by
  intro pins s σ H xs us Q I r h
  obtain ⟨x, tp, cs, b, rfl, hT, ⟨t, ws, h1, h2, h3⟩, q⟩ := h
  exact call_isiT pins s σ H _ us Q I r ⟨x, tp, cs, t, ws, b, rfl, hT, h1, h2, h3, q⟩
theorem isA_two {K : PySem.W.Frag} {H : Hp} {x : V} {n c1 c2 : String} {b1 b2 b : Bool} (ty : TyX K H x (.type n)) (h1 : kitB n c1 = some b1) (h2 : kitB n c2 = some b2) (e : b = (b1 || b2)) : IsA K H x [.ty c1, .ty c2] b := by
  subst e
  refine ⟨_, [_, _], .cons (.ty c1) (.cons (.ty c2) .nil), ty, kitAny_cons (kit_ty h1) (fun e => ?_) fun e => by rw [e]; rfl⟩
  subst e
  exact kitAny_cons (kit_ty h2) (fun e => by subst e; exact kitAny_nil) fun e => by rw [e]; rfl

/-! ### data -/
theorem dpAll_ints {K : PySem.W.Frag} {H : Hp} : ∀ ns : List Int, DpAll K H (ns.map V.int) (ns.map PyData.int)
  | [] => .nil
  | n :: ns => .cons (.int n) (dpAll_ints ns)
theorem canLay_ints : ∀ ns : List Int, PyData.canLayAll0 (ns.map PyData.int) = true
  | [] => rfl
  | n :: ns => by
    show (PyData.canLay0 (.int n) && PyData.canLayAll0 (ns.map PyData.int)) = true
    rw [canLay_ints ns]
    rfl
theorem depth_ints : ∀ ns : List Int, PyData.depthAll (ns.map PyData.int) = 0
  | [] => rfl
  | n :: ns => by
    show max (PyData.depth (.int n)) (PyData.depthAll (ns.map PyData.int)) = 0
    rw [depth_ints ns]
    rfl
theorem eqvAll_ints : ∀ ns ms : List Int, PyData.eqvAll (ns.map PyData.int) (ms.map PyData.int) = decide (ns = ms)
  | [], [] => rfl
  | [], _ :: _ => rfl
  | _ :: _, [] => rfl
  | n :: ns, m :: ms => by
    show (PyData.eqv (.int n) (.int m) && PyData.eqvAll (ns.map PyData.int) (ms.map PyData.int)) = _
    rw [eqvAll_ints ns ms]
    show ((n == m) && decide (ns = ms)) = decide (n :: ns = m :: ms)
    by_cases h : n = m <;> by_cases h2 : ns = ms <;> simp [h, h2]
def tupI (ns : List Int) : PyData := .tuple (ns.map PyData.int)
theorem dp_tupI {K : PySem.W.Frag} {H : Hp} {a : Addr} {ns : List Int} (h : SqT K H a (ns.map V.int)) : Dp K H (.ref a) (tupI ns) := .tup h (dpAll_ints ns)
theorem eqv_tupI (ns ms : List Int) : PyData.eqv (tupI ns) (tupI ms) = decide (ns = ms) := eqvAll_ints ns ms
theorem shaped_tupI (ns : List Int) : SeqAt.shaped (tupI ns) = true := by
  have h1 : PyData.canLay0 (tupI ns) = true := canLay_ints ns
  have h2 : PyData.depth (tupI ns) ≤ 64 := by
    show PyData.depthAll (ns.map PyData.int) + 1 ≤ 64
    rw [depth_ints ns]
    decide
  unfold SeqAt.shaped
  rw [h1, decide_eq_true h2]
  rfl


/-! ### rules over what is tracked alone -/
section
variable {X : Cx}
theorem ix_lH : IxR X (fun x y H Q => ∃ p i, x = .ref p ∧ y = .int i ∧ ∃ xs, H p = some (.lst xs) ∧ ∃ v, atI xs i = some v ∧ Q v H) := by
  intro value slice pins s σ H x y v u Q I rx ry h hs
  obtain ⟨p, i, rfl, rfl, xs, hp, z, hz, q⟩ := h
  exact ix_list value slice pins s σ H _ _ v u Q I rx ry ⟨p, xs, i, z, rfl, rfl, .inl (.inl hp), hz, q⟩ hs
theorem ix_tH : IxR X (fun x y H Q => ∃ p i, x = .ref p ∧ y = .int i ∧ ∃ xs, H p = some (.tup xs) ∧ ∃ v, atI xs i = some v ∧ Q v H) := by
  intro value slice pins s σ H x y v u Q I rx ry h hs
  obtain ⟨p, i, rfl, rfl, xs, hp, z, hz, q⟩ := h
  exact ix_tup value slice pins s σ H _ _ v u Q I rx ry ⟨p, xs, i, z, rfl, rfl, .inl (.inl hp), hz, q⟩ hs
theorem set_lH : PSet X (fun o i v H Q => ∃ p k, o = .ref p ∧ i = .int k ∧ ∃ xs, H p = some (.lst xs) ∧ ∃ j, ixN xs.length k = some j ∧ Q (upd H p (.lst (xs.set j v)))) := by
  intro pins s σ H o i v ov iv u Q I ro ri rv h
  obtain ⟨p, k, e1, e2, xs, hp, j, hj, q⟩ := h
  exact set_list pins s σ H o i v ov iv u Q I ro ri rv ⟨p, xs, k, j, e1, e2, hp, hj, q⟩
theorem len_H : CallR X (.builtin "len") (fun vs H Q => ∃ p, vs = [.ref p] ∧ ((∃ ys, H p = some (.lst ys) ∧ Q (.int ys.length) H) ∨ ∃ ys, H p = some (.tup ys) ∧ Q (.int ys.length) H)) := by
  intro pins s σ H vs us Q I r h
  obtain ⟨p, e, h⟩ := h
  refine call_len_seq pins s σ H vs us Q I r ?_
  rcases h with ⟨ys, hp, q⟩ | ⟨ys, hp, q⟩
  · exact ⟨p, ys, e, .inl (.inl (.inl hp)), q⟩
  · exact ⟨p, ys, e, .inr (.inl (.inl hp)), q⟩
theorem tuple_H : CallR X (.type "tuple") (fun vs H Q => ∃ p, vs = [.ref p] ∧ ((∃ ys, H p = some (.lst ys) ∧ ∀ l, H l = none → Q (.ref l) (upd H l (.tup ys))) ∨ ∃ ys, H p = some (.tup ys) ∧ Q (.ref p) H)) := by
  intro pins s σ H vs us Q I r h
  obtain ⟨p, e, h⟩ := h
  refine call_tuple_of pins s σ H vs us Q I r ?_
  rcases h with ⟨ys, hp, q⟩ | ⟨ys, hp, q⟩
  · exact ⟨p, ys, e, .inl ⟨.inl (.inl hp), q⟩⟩
  · exact ⟨p, ys, e, .inr ⟨.inl (.inl hp), q⟩⟩
theorem list_H : CallR X (.type "list") (fun vs H Q => ∃ p, vs = [.ref p] ∧ ((∃ ys, H p = some (.lst ys) ∧ ∀ l, H l = none → Q (.ref l) (upd H l (.lst ys))) ∨ ∃ ys, H p = some (.tup ys) ∧ ∀ l, H l = none → Q (.ref l) (upd H l (.lst ys)))) := by
  intro pins s σ H vs us Q I r h
  obtain ⟨p, e, h⟩ := h
  refine call_list_of pins s σ H vs us Q I r ?_
  rcases h with ⟨ys, hp, q⟩ | ⟨ys, hp, q⟩
  · exact ⟨p, ys, e, .inl (.inl (.inl hp)), q⟩
  · exact ⟨p, ys, e, .inr (.inl (.inl hp)), q⟩
theorem all_H (hc : X.calm = true) : CallR X (.builtin "all") (fun vs H Q => ∃ p, vs = [.ref p] ∧ ∃ bs : List Bool, H p = some (.lst (bs.map V.bl)) ∧ Q (.bl (bs.all id)) H) := by
  intro pins s σ H vs us Q I r h
  obtain ⟨p, e, bs, hp, q⟩ := h
  exact cr_all hc pins s σ H vs us Q I r ⟨p, bs, e, .inl (.inl hp), q⟩
/-- a, b = t, t tracked -/
def gTupH (n : Nat) (t : TGs) : TG := fun v σ H Q => ∃ a, v = .ref a ∧ ∃ xs, H a = some (.tup xs) ∧ xs.length = n ∧ t xs σ H Q
theorem pg_tupH {es : List Expr} {k : Nat} {t : TGs} {n : Nat} {pos : Pos} (hc : X.calm = true) (h : PGs X es t)
    (hn : (assignEach es X.env).length = n := by rfl) (hst : (assignEach es X.env).findIdx? (·.1) = none := by rfl) : PG X (.Tuple es k pos) (gTupH n t) := by
  refine ⟨fun pins s σ H v u Q I r hw => ?_⟩
  obtain ⟨a, e1, xs, hq, hl, hw⟩ := hw
  exact (pg_tup hc h hn hst).run pins s σ H v u Q I r ⟨a, xs, e1, .inl (.inl hq), hl, hw⟩
/-- l.append(e) -/
def tAppend (to : TE) (t : TA) : TE := fun σ H Q => to σ H fun x H1 => ∃ p, x = .ref p ∧ ∃ xs, H1 p = some (.lst xs) ∧ t σ H1 fun vs H2 => ∃ y, vs = [y] ∧ ∃ ys, H2 p = some (.lst ys) ∧ ys.length < sizeLine ∧ Q .non (upd H2 p (.lst (ys ++ [y])))
theorem pe_append {o e : Expr} {to : TE} {t : TA} {apos cpos : Pos} (ho : PE X o to) (ha : PA X [e] t)
    (hbase : attributeBase o "append" X.env (eval o X.env) = eval o X.env := by rfl)
    (hfew : ((backTo cpos (starEach [e] X.env)).all (fun x => !x.1) && (backToKw cpos (keywordEach [] X.env)).all (fun x => x.1.isSome)
      && decide (([e] : List Expr).length + ([] : List Keyword).length + (if ([] : List Keyword).isEmpty then 0 else 1) < 30)) = true := by rfl)
    (hline : (apos.endLine == cpos.line) = true := by rfl) (hs : starEach [e] X.env = (false, eval e X.env) :: starEach [] X.env := by rfl) :
    PE X (.Call (.Attribute o "append" apos) [e] [] cpos) (tAppend to t) := by
  refine ⟨fun pins s σ H Q I h => ?_⟩
  refine wpAny_Call_method_late hbase hfew hline rfl (thn (ho.run pins s σ H _ I h) fun v s1 ⟨x, H1, I1, r1, p, ex, xs, hp, q1⟩ => ?_)
  subst ex
  have ty : tyV X.K "list" (.ref p) H1 := .inl ⟨rfl, xs, .inl (.inl hp)⟩
  obtain ⟨h1, h2⟩ := tyV_is I1 r1 ty
  refine ⟨"list", _, PySem.F.plainAttrs_list, PySem.F.slot_list_append, PySem.F.type_list_append, h1, h2, ?_⟩
  have hA := ha.run cpos pins s1 σ H1 _ I1 q1
  rw [hs] at hA ⊢
  refine Calls.callWith_builtin (by rfl) (Calls.evalArgs_plain ?_)
  refine thn hA fun us s2 ⟨vs, H2, I2, r2, y, e2, ys, hp2, hz, q2⟩ => ?_
  exact mt_append pins s2 σ H2 (.ref p) vs v us Q I2 r1 r2 ⟨p, ys, y, rfl, e2, hp2, hz, q2⟩
end
/-! ### loops and comprehensions, closed off -/
def LcR (J : It) (g : TG) (tt : TT) (te : TE) (vs : List Nat) (σ : L2.St) (H1 : Hp) (Q : VK) : Prop := ∀ D, H1 D = none → ∃ W : Nat → Nat → Hp → Prop, (∃ m, W 0 m (upd H1 D (.lst []))) ∧ ∀ i m H, W i m H →
  (J.stop i H ∧ Q (.ref D) H) ∨ (J.go i H ∧ ∃ Nx : Hp → Prop, (∀ H', Nx H' → ∃ m', m' < m ∧ W (i + 1) m' H') ∧ ∀ x H', J.yld i H x H' → g x (wipe σ vs) H' fun σ2 H2 => wipe σ2 vs = wipe σ vs ∧ tt σ2 H2 fun b H3 =>
    if b = true then te σ2 H3 fun y H4 => ∃ acc, H4 D = some (.lst acc) ∧ acc.length < sizeLine ∧ Nx (upd H4 D (.lst (acc ++ [y]))) else Nx H3)
theorem tLc_eq {wi : TI} {g : TG} {tt : TT} {te : TE} {vs : List Nat} {σ : L2.St} {H : Hp} {Q : VK} : tLc wi g tt te vs σ H Q = wi σ H fun J H1 => LcR J g tt te vs σ H1 Q := rfl
def ForR (J : It) (g : TG) (tb : TS) (D : Ends) (σ : L2.St) (H1 : Hp) : Prop := ∃ W : Nat → Nat → L2.St → Hp → Prop, (∃ m, W 0 m σ H1) ∧ ∀ i m σ H, W i m σ H →
  (J.stop i H ∧ D.nx σ H) ∨ (J.go i H ∧ ∃ N : L2.St → Hp → Prop, (∀ σ' H', N σ' H' → ∃ m', m' < m ∧ W (i + 1) m' σ' H') ∧ ∀ x H', J.yld i H x H' → g x σ H' fun σ2 H2 => tb { D with nx := N, ct := N, bk := D.nx } σ2 H2)
theorem tFor_eq {wi : TI} {g : TG} {tb : TS} {D : Ends} {σ : L2.St} {H : Hp} : tFor wi g tb D σ H = wi σ H fun J H1 => ForR J g tb D σ H1 := rfl
/-- what is walked, told by Walk alone -/
def iSeqH (tl : TE) : TI := fun σ H R => tl σ H fun x H1 => ∃ a, x = .ref a ∧ ((∃ xs, H1 a = some (.lst xs) ∧ ∀ J : It, Walk J xs.length (fun H => H a = some (.lst xs)) (YAt xs) → R J H1) ∨ ∃ xs, H1 a = some (.tup xs) ∧ ∀ J : It, Walk J xs.length (fun H => H a = some (.tup xs)) (YAt xs) → R J H1)
def iSeqS (K : PySem.W.Frag) (tl : TE) : TI := fun σ H R => tl σ H fun x H1 => ∃ (k : Bool) (a : Addr) (xs : List V), x = .ref a ∧ Sqk K k H1 a xs ∧ ∀ J : It, Walk J xs.length (fun H => Sqk K k H a xs) (YAt xs) → R J H1
theorem PI.mono {X : Cx} {tg it : Expr} {w w' : TI} (h : PI X tg it w) (m : ∀ σ H R, w' σ H R → w σ H R) : PI X tg it w' := ⟨fun pins s σ H R I q => h.run pins s σ H R I (m σ H R q)⟩
section
variable {X : Cx} {tg l : Expr} {tl : TE}
theorem pi_seqH (hl : PE X l tl) : PI X tg l (iSeqH tl) := by
  have h2 : PE X l fun σ H Q => tl σ H fun x H1 => Q x H1 := hl
  refine ⟨fun pins s σ H R I h => ?_⟩
  refine thn (hl.run pins s σ H _ I h) fun v s1 ⟨x, H1, I1, r1, q1⟩ => ?_
  obtain ⟨a, e, q⟩ := q1
  subst e
  have key : ∀ (k : Bool) (xs : List V), Sqk X.K k H1 a xs → R (match k with | true => Itl X.K a | false => Itt X.K a) H1 → wpAny (model X.prog X.w) X.A (pyIter v) (PIE X pins σ tg R) X.xe s1 := fun k xs hs hR => by
    cases r1
    cases k with
    | true =>
      obtain ⟨its, rv, p, hz⟩ := I1.list hs
      refine wpAny_pyIter_list p.isList ?_
      refine ⟨s1.heap.objs.size, [s1.heap.objs.size], _, _, H1, rfl, I1.kept (t' := s1.toks) fun b o e => Heap.get?_push_of_some _ e, turn_list a _, ⟨_, Heap.get?_push_size _ rfl, rfl, rfl⟩, fun b hb => ?_, hR⟩
      have e : b = s1.heap.objs.size := by simpa using hb
      subst e
      exact I1.fpOk (Nat.le_refl _) (I1.hok.fresh (Nat.le_refl _))
    | false =>
      obtain ⟨its, rv, p, hz⟩ := I1.tuple hs
      refine wpAny_pyIter_tuple (show s1.heap.IsTuple a its.toArray from p) ?_
      refine ⟨s1.heap.objs.size, [s1.heap.objs.size], _, _, H1, rfl, I1.kept (t' := s1.toks) fun b o e => Heap.get?_push_of_some _ e, turn_tuple a _, ⟨_, Heap.get?_push_size _ rfl, rfl, rfl⟩, fun b hb => ?_, hR⟩
      have e : b = s1.heap.objs.size := by simpa using hb
      subst e
      exact I1.fpOk (Nat.le_refl _) (I1.hok.fresh (Nat.le_refl _))
  rcases q with ⟨xs, hp, q⟩ | ⟨xs, hp, q⟩
  · exact key true xs (.inl (.inl hp)) (q _ (walk_list.mono (fun H h => .inl (.inl h)) fun _ _ _ _ _ _ y => y))
  · exact key false xs (.inl (.inl hp)) (q _ (walk_tup.mono (fun H h => .inl (.inl h)) fun _ _ _ _ _ _ y => y))
theorem pi_seqS (hl : PE X l tl) : PI X tg l (iSeqS X.K tl) := by
  refine ⟨fun pins s σ H R I h => ?_⟩
  refine thn (hl.run pins s σ H _ I h) fun v s1 ⟨x, H1, I1, r1, q1⟩ => ?_
  obtain ⟨k, a, xs, e, hs, q⟩ := q1
  subst e
  have hR := q _ walk_seq
  cases r1
  cases k with
  | true =>
    obtain ⟨its, rv, p, hz⟩ := I1.list hs
    refine wpAny_pyIter_list p.isList ?_
    refine ⟨s1.heap.objs.size, [s1.heap.objs.size], _, _, H1, rfl, I1.kept (t' := s1.toks) fun b o e => Heap.get?_push_of_some _ e, turn_list a _, ⟨_, Heap.get?_push_size _ rfl, rfl, rfl⟩, fun b hb => ?_, hR⟩
    have e : b = s1.heap.objs.size := by simpa using hb
    subst e
    exact I1.fpOk (Nat.le_refl _) (I1.hok.fresh (Nat.le_refl _))
  | false =>
    obtain ⟨its, rv, p, hz⟩ := I1.tuple hs
    refine wpAny_pyIter_tuple (show s1.heap.IsTuple a its.toArray from p) ?_
    refine ⟨s1.heap.objs.size, [s1.heap.objs.size], _, _, H1, rfl, I1.kept (t' := s1.toks) fun b o e => Heap.get?_push_of_some _ e, turn_tuple a _, ⟨_, Heap.get?_push_size _ rfl, rfl, rfl⟩, fun b hb => ?_, hR⟩
    have e : b = s1.heap.objs.size := by simpa using hb
    subst e
    exact I1.fpOk (Nat.le_refl _) (I1.hok.fresh (Nat.le_refl _))
end
/-- a list or a tuple, tracked -/
def Sqh (k : Bool) (H : Hp) (a : Addr) (xs : List V) : Prop := match k with
  | true => H a = some (.lst xs)
  | false => H a = some (.tup xs)
theorem Sqh.sqk {K : PySem.W.Frag} {k : Bool} {H : Hp} {a : Addr} {xs : List V} (h : Sqh k H a xs) : Sqk K k H a xs := by
  cases k with
  | true => exact .inl (.inl h)
  | false => exact .inl (.inl h)
theorem Sqh.same {k : Bool} {H H' : Hp} {a : Addr} {xs : List V} (e : Same H H') (h : Sqh k H a xs) : Sqh k H' a xs := by
  cases k with
  | true => exact e _ _ h
  | false => exact e _ _ h
def iZ2H (ta : TA) : TI := fun σ H R => ta σ H fun vs H1 => ∃ a b, vs = [.ref a, .ref b] ∧ ∃ (k1 k2 : Bool) (xs ys : List V), Sqh k1 H1 a xs ∧ Sqh k2 H1 b ys ∧ xs.length = ys.length ∧ ∀ J : It, Walk J xs.length (fun H => Sqh k1 H a xs ∧ Sqh k2 H b ys) (YPair (fun i => xs[i]?) (fun i => ys[i]?)) → R J H1
def iZ3H (ta : TA) : TI := fun σ H R => ta σ H fun vs H1 => ∃ a b c, vs = [.ref a, .ref b, .ref c] ∧ ∃ (k1 k2 k3 : Bool) (xs ys zs : List V), Sqh k1 H1 a xs ∧ Sqh k2 H1 b ys ∧ Sqh k3 H1 c zs ∧ xs.length = ys.length ∧ ys.length = zs.length ∧
  ∀ J : It, Walk J xs.length (fun H => Sqh k1 H a xs ∧ Sqh k2 H b ys ∧ Sqh k3 H c zs) (YTrip (fun i => xs[i]?) (fun i => ys[i]?) (fun i => zs[i]?)) → R J H1
theorem PA.weak {X : Cx} {es : List Expr} {t : TA} (h : PA X es t) {pos : Pos} {pins : List (Addr × Obj)} {s : Shared} {σ : L2.St} {H : Hp} {Q : List V → Hp → Prop} (I : Inv X pins σ H s) (q : t σ H Q) : wpAny (model X.prog X.w) X.A (spliced (backTo pos (starEach es X.env))) (AP X pins σ Q) X.xe s := h.run pos pins s σ H Q I q
/-- an argument list whose reading is asked for less -/
theorem PA.of {X : Cx} {es : List Expr} {t : TA} (h : PA X es t) (f : List V → Hp → (List V → Hp → Prop) → Prop) : PA X es fun σ H Q => t σ H fun vs H1 => Q vs H1 := h
section
variable {X : Cx} {e e2 e3 : Expr} {ta : TA} {p pos tpos : Pos} {elts : List Expr} {kk : Nat}
theorem pi_z2H (hg : Gl X "zip") (hm : X.mg "zip" = none) (ha : PA X [e, e2] ta)
    (hs : starEach [e, e2] X.env = (false, eval e X.env) :: starEach [e2] X.env := by rfl) (hpl : (backTo pos (starEach [e2] X.env)).any (·.1) = false := by rfl) :
    PI X (.Tuple elts kk tpos) (.Call (.Name "zip" p) [e, e2] [] pos) (iZ2H ta) := by
  refine ⟨fun pins s σ H R I h => ?_⟩
  let ta' : TA := fun σ H Q => ta σ H fun vs H1 => (∃ a b, vs = [.ref a, .ref b] ∧ ∃ (k1 k2 : Bool) (xs ys : List V), Sqh k1 H1 a xs ∧ Sqh k2 H1 b ys ∧ xs.length = ys.length ∧ ∀ J : It, Walk J xs.length (fun H => Sqh k1 H a xs ∧ Sqh k2 H b ys) (YPair (fun i => xs[i]?) (fun i => ys[i]?)) → R J H1) ∧ Q vs H1
  have ha' : PA X [e, e2] ta' := ⟨fun pos pins s σ H Q I q => thn (ha.run pos pins s σ H _ I q) fun us s1 ⟨vs, H1, I1, r1, _, q1⟩ => ⟨vs, H1, I1, r1, q1⟩⟩
  refine Call_ (ld_blt I hg hm PyProof.Rows.boot_zip (PyProof.Rows.callWith_type1 (thn (ha.run pos pins s σ H _ I h) fun us s1 ⟨vs, H1, I1, r1, q1⟩ => ?_) hs hpl))
  obtain ⟨a, b, ex, k1, k2, xs, ys, hqx, hqy, hl, q⟩ := q1
  subst ex
  have q := q (Iz2 X.K k1 k2 a b) ((walk_z2 (K := X.K) (k1 := k1) (k2 := k2) (a := a) (b := b) hl).mono (fun H h => ⟨h.1.sqk, h.2.sqk⟩) fun _ _ _ _ _ _ y => y)
  have hqx : Sqk X.K k1 H1 a xs := hqx.sqk
  have hqy : Sqk X.K k2 H1 b ys := hqy.sqk
  cases r1 with
  | cons r rr =>
    cases rr with
    | cons r' rr =>
      cases rr
      cases r
      cases r'
      obtain ⟨its, rv, p1⟩ := invK I1 hqx
      obtain ⟨its2, rv2, p2⟩ := invK I1 hqy
      have la : a < s1.heap.objs.size := p1.lt
      have lb : b < s1.heap.objs.size := p2.lt
      refine zip_begins2 (begK k1 a its.toArray) (begK k2 b its2.toArray) p1 p2 fun h' hz hTI hTO h1 h2 hsz hk => wpAny_pyIter_zip hz ?_
      have I2 : Inv X pins σ H1 { s1 with heap := h' } := I1.kept (t' := s1.toks) hk
      refine ⟨s1.heap.objs.size + 4, [s1.heap.objs.size + 4, s1.heap.objs.size + 2, s1.heap.objs.size + 3, s1.heap.objs.size, s1.heap.objs.size + 1], _, _, H1, rfl, I2, turn_z2 (zip_sep2 (fun b hb => by simp at hb; rw [hb]; exact la) (fun b hb => by simp at hb; rw [hb]; exact lb)) (Nat.ne_of_lt la) (Nat.ne_of_lt (Nat.lt_succ_of_lt lb)), ⟨hz, hTI, ⟨_, _, hTO⟩, ItK.new h1, ItK.new h2⟩, fun c hcm => ?_, q⟩
      have e' : c = s1.heap.objs.size + 4 ∨ c = s1.heap.objs.size + 2 ∨ c = s1.heap.objs.size + 3 ∨ c = s1.heap.objs.size ∨ c = s1.heap.objs.size + 1 := by simpa using hcm
      have hle : s1.heap.objs.size ≤ c := by
        rcases e' with z | z | z | z | z
        · rw [z]; exact Nat.le_add_right _ _
        · rw [z]; exact Nat.le_add_right _ _
        · rw [z]; exact Nat.le_add_right _ _
        · rw [z]; exact Nat.le_refl _
        · rw [z]; exact Nat.le_add_right _ _
      exact I1.fpOk hle (I1.hok.fresh hle)
theorem pi_z3H (hg : Gl X "zip") (hm : X.mg "zip" = none) (ha : PA X [e, e2, e3] ta)
    (hs : starEach [e, e2, e3] X.env = (false, eval e X.env) :: starEach [e2, e3] X.env := by rfl) (hpl : (backTo pos (starEach [e2, e3] X.env)).any (·.1) = false := by rfl) :
    PI X (.Tuple elts kk tpos) (.Call (.Name "zip" p) [e, e2, e3] [] pos) (iZ3H ta) := by
  refine ⟨fun pins s σ H R I h => ?_⟩
  refine Call_ (ld_blt I hg hm PyProof.Rows.boot_zip (PyProof.Rows.callWith_type1 (thn (ha.run pos pins s σ H _ I h) fun us s1 ⟨vs, H1, I1, r1, q1⟩ => ?_) hs hpl))
  obtain ⟨a, b, c, ex, k1, k2, k3, xs, ys, zs, hqx, hqy, hqz, hl, hl2, q⟩ := q1
  subst ex
  have q := q (Iz3 X.K k1 k2 k3 a b c) ((walk_z3 (K := X.K) (k1 := k1) (k2 := k2) (k3 := k3) (a := a) (b := b) (c := c) hl hl2).mono (fun H h => ⟨h.1.sqk, h.2.1.sqk, h.2.2.sqk⟩) fun _ _ _ _ _ _ y => y)
  have hqx : Sqk X.K k1 H1 a xs := hqx.sqk
  have hqy : Sqk X.K k2 H1 b ys := hqy.sqk
  have hqz : Sqk X.K k3 H1 c zs := hqz.sqk
  cases r1 with
  | cons r rr =>
    cases rr with
    | cons r' rr =>
      cases rr with
      | cons r'' rr =>
        cases rr
        cases r
        cases r'
        cases r''
        obtain ⟨its, rv, p1⟩ := invK I1 hqx
        obtain ⟨its2, rv2, p2⟩ := invK I1 hqy
        obtain ⟨its3, rv3, p3⟩ := invK I1 hqz
        have la : a < s1.heap.objs.size := p1.lt
        have lb : b < s1.heap.objs.size := p2.lt
        have lc : c < s1.heap.objs.size := p3.lt
        refine zip_begins3 (begK k1 a its.toArray) (begK k2 b its2.toArray) (begK k3 c its3.toArray) p1 p2 p3 fun h' hz hTI hTO h1 h2 h3 hsz hk => wpAny_pyIter_zip hz ?_
        have I2 : Inv X pins σ H1 { s1 with heap := h' } := I1.kept (t' := s1.toks) hk
        refine ⟨s1.heap.objs.size + 5, [s1.heap.objs.size + 5, s1.heap.objs.size + 3, s1.heap.objs.size + 4, s1.heap.objs.size, s1.heap.objs.size + 1, s1.heap.objs.size + 2], _, _, H1, rfl, I2, turn_z3 (zip_sep3 (fun b hb => by simp at hb; rw [hb]; exact la) (fun b hb => by simp at hb; rw [hb]; exact lb) (fun b hb => by simp at hb; rw [hb]; exact lc)) (Nat.ne_of_lt la) (Nat.ne_of_lt (Nat.lt_succ_of_lt lb)) (Nat.ne_of_lt (Nat.lt_succ_of_lt (Nat.lt_succ_of_lt lc))), ⟨hz, hTI, ⟨_, _, _, hTO⟩, ItK.new h1, ItK.new h2, ItK.new h3⟩, fun c hcm => ?_, q⟩
        have e' : c = s1.heap.objs.size + 5 ∨ c = s1.heap.objs.size + 3 ∨ c = s1.heap.objs.size + 4 ∨ c = s1.heap.objs.size ∨ c = s1.heap.objs.size + 1 ∨ c = s1.heap.objs.size + 2 := by simpa using hcm
        have hle : s1.heap.objs.size ≤ c := by
          rcases e' with z | z | z | z | z | z
          · rw [z]; exact Nat.le_add_right _ _
          · rw [z]; exact Nat.le_add_right _ _
          · rw [z]; exact Nat.le_add_right _ _
          · rw [z]; exact Nat.le_refl _
          · rw [z]; exact Nat.le_add_right _ _
          · rw [z]; exact Nat.le_add_right _ _
        exact I1.fpOk hle (I1.hok.fresh hle)
/-- range(n) -/
def iRng1H (ta : TA) : TI := fun σ H R => ta σ H fun vs H1 => ∃ j : Int, vs = [.int j] ∧ -(2 ^ 62) ≤ j ∧ j < 2 ^ 62 ∧ ∀ J : It, Walk J j.toNat (fun _ => True) (YFn fun i => .int (i : Nat)) → R J H1
theorem pi_range1H {a : Expr} {tg : Expr} (hg : Gl X "range") (hm : X.mg "range" = none) (ha : PA X [a] ta) (hs : starEach [a] X.env = [(false, eval a X.env)] := by rfl) : PI X tg (.Call (.Name "range" p) [a] [] pos) (iRng1H ta) := by
  refine ⟨fun pins s σ H R I h => ?_⟩
  have ha' : PA X [a] fun σ H Q => ta σ H fun vs H1 => (∃ j : Int, vs = [.int j] ∧ -(2 ^ 62) ≤ j ∧ j < 2 ^ 62 ∧ ∀ J : It, Walk J j.toNat (fun _ => True) (YFn fun i => .int (i : Nat)) → R J H1) ∧ ∀ j : Int, vs = [.int j] → -(2 ^ 62) ≤ j → j < 2 ^ 62 → R (Itr 0 j.toNat) H1 → Q vs H1 :=
    ⟨fun pos pins s σ H Q I q => thn (ha.run pos pins s σ H _ I q) fun us s1 ⟨vs, H1, I1, r1, ⟨j, ej, h1, h2, hR⟩, q1⟩ => ⟨vs, H1, I1, r1, q1 j ej h1 h2 (hR _ (walk_range.mono (fun _ _ => trivial) fun _ _ _ _ _ _ y => ⟨y.1, by rw [y.2]; show V.int _ = V.int _; rw [Int.zero_add]⟩))⟩⟩
  refine Call_ (ld_blt I hg hm boot_range (PyProof.Rows.callWith_type1 (thn (ha.run pos pins s σ H _ I h) fun us s1 ⟨vs, H1, I1, r1, q1⟩ => ?_) hs rfl))
  obtain ⟨j, e, q1, q2, q⟩ := q1
  subst e
  have q := q (Itr 0 j.toNat) (walk_range.mono (fun _ _ => trivial) fun _ _ _ _ _ _ y => ⟨y.1, by rw [y.2]; show V.int _ = V.int _; rw [Int.zero_add]⟩)
  cases r1 with
  | cons r rr =>
    cases rr
    obtain ⟨t, rfl⟩ := r
    exact call_range_1 (range_it I1 (by omega) (by omega) q1 q2 (by simpa using q))
end
/-- LcR by its lemmas -/
theorem lcr_map {J : It} {n : Nat} {G : Hp → Prop} {Y : Nat → Hp → V → Hp → Prop} (w : Walk J n G Y) {g : TG} {te : TE} {vs : List Nat} {σ : L2.St} {H1 : Hp} {Q : VK} (res : List V) (hl : res.length = n) (hn : n ≤ sizeLine)
    (hG : ∀ H, Same H1 H → G H) (hY : ∀ i x H H', Y i H x H' → Same H H')
    (hs : ∀ i x H H' y (Qy : VK), i < n → Same H1 H → Y i H x H' → res[i]? = some y → (∀ H4, Same H' H4 → Qy y H4) → g x (wipe σ vs) H' fun σ2 H2 => wipe σ2 vs = wipe σ vs ∧ te σ2 H2 Qy)
    (hd : ∀ D H, H1 D = none → Same H1 H → H D = some (.lst res) → Q (.ref D) H) : LcR J g tYes te vs σ H1 Q := fun D hD =>
  lc_map w res hl hn hD hG (fun i x H H' y Qy hi h1 _ hy hr hq => hs i x H H' y Qy hi h1 hy hr hq) hY fun H h1 h2 => hd D H hD h1 h2
theorem forr {J : It} {n : Nat} {G : Hp → Prop} {Y : Nat → Hp → V → Hp → Prop} (w : Walk J n G Y) {g : TG} {tb : TS} {D : Ends} {σ : L2.St} {H : Hp} (Pv : Nat → L2.St → Hp → Prop) (h0 : Pv 0 σ H) (hG : ∀ i σ H, i ≤ n → Pv i σ H → G H)
    (hs : ∀ i x σ H H', i < n → Pv i σ H → Y i H x H' → g x σ H' fun σ2 H2 => tb { D with nx := Pv (i + 1), ct := Pv (i + 1), bk := D.nx } σ2 H2) (hd : ∀ σ H, Pv n σ H → D.nx σ H) : ForR J g tb D σ H := for_it w Pv h0 hG hs hd
theorem map_bl_iff {bs : List Bool} {p : List Bool → Prop} : (∃ cs : List Bool, bs.map V.bl = cs.map V.bl ∧ p cs) ↔ p bs := by
  constructor
  · rintro ⟨cs, e, h⟩
    have inj : ∀ {a b : List Bool}, a.map V.bl = b.map V.bl → a = b := by
      intro a
      induction a with
      | nil => intro b h; cases b with | nil => rfl | cons _ _ => simp at h
      | cons x a ih => intro b h; cases b with
        | nil => simp at h
        | cons y b => simp only [List.map_cons, List.cons.injEq, V.bl.injEq] at h; rw [h.1, ih h.2]
    rw [inj e]; exact h
  · intro h; exact ⟨bs, rfl, h⟩

theorem sz_le {n : Nat} (h : n ≤ 1000) : (n ≤ sizeLine) = True := eq_true (Nat.le_trans h (by decide))
theorem op_inH {X : Cx} : OpR X (compareOp .In) (fun x y H Q => ∃ p, y = .ref p ∧ ∃ xs, H p = some (.tup xs) ∧ flatV x = true ∧ xs.all flatV = true ∧ Q (.bl (inV x xs)) H) := by
  intro pins s σ H x y v u Q I rx ry h
  obtain ⟨p, e, xs, hp, h1, h2, q⟩ := h
  exact op_in_seq pins s σ H x y v u Q I rx ry ⟨p, xs, e, .inr (.inl (.inl hp)), h1, h2, q⟩
theorem putF_one (f : Str) (v : V) : putF f v [] = [(f, v)] := rfl
theorem lookup_one (f : Str) (v : V) : List.lookup f [(f, v)] = some v := by simp [List.lookup]

/-- * of two ints, one of them below 2 ^ 64, or both together below a million bits -/
def CMulA (i j : Int) : Prop := i.natAbs < 2 ^ 64 ∨ j.natAbs < 2 ^ 64 ∨ CMulW i j
theorem op_mulA {X : Cx} : OpR X (binaryOp .Mult) (rI CMulA fun i j => .int (i * j)) := by
  intro pins s σ H x y v u Q I rx ry h
  obtain ⟨i, j, e1, e2, hc, q⟩ := h
  rcases hc with hc | hc | hc
  · exact op_mul pins s σ H x y v u Q I rx ry ⟨i, j, e1, e2, .inl ⟨by omega, by omega⟩, q⟩
  · exact op_mul pins s σ H x y v u Q I rx ry ⟨i, j, e1, e2, .inr ⟨by omega, by omega⟩, q⟩
  · exact op_mulW pins s σ H x y v u Q I rx ry ⟨i, j, e1, e2, hc, q⟩
theorem atI_0 {x : V} {xs : List V} : atI (x :: xs) 0 = some x := atI_nat (j := 0) rfl
theorem atI_1 {x y : V} {xs : List V} : atI (x :: y :: xs) 1 = some y := atI_nat (j := 1) rfl
theorem atI_2 {x y z : V} {xs : List V} : atI (x :: y :: z :: xs) 2 = some z := atI_nat (j := 2) rfl
theorem ixN_30 : ixN 3 0 = some 0 := rfl
theorem ixN_31 : ixN 3 1 = some 1 := rfl
theorem ixN_32 : ixN 3 2 = some 2 := rfl
theorem atI_in {xs : List V} {i : Int} (h0 : 0 ≤ i) (h1 : i < xs.length) : ∃ v, v ∈ xs ∧ atI xs i = some v := by
  obtain ⟨k, rfl⟩ := Int.eq_ofNat_of_zero_le h0
  have hk : k < xs.length := by omega
  exact ⟨xs[k], List.getElem_mem hk, atI_nat (List.getElem?_eq_getElem hk)⟩
theorem cpow_10 {j : Int} (h0 : 0 ≤ j) (h1 : j ≤ 1000000) : CPow 10 j = True := eq_true ⟨h0, h1, by decide⟩
theorem cdivW_small {i j : Int} (h : 0 < j) (h1 : j < 2 ^ 64) : CDivW i j = True := eq_true (wide_div h (b := 64) (by omega) (by decide) (by decide))
theorem Sx.free {a r : Addr} {H H1 : Hp} (h : Sx a H H1) (n : r ≠ a) (e : H1 r = none) : H r = none := by
  cases q : H r with
  | none => rfl
  | some o => rw [h r o n q] at e; cases e
theorem Sx.putN {a r : Addr} {H H1 : Hp} {o : HO} (h : Sx a H H1) (e : H r = none) : Sx a H (upd H1 r o) := fun b u n q => by
  rw [upd_ne (ne_some q e)]
  exact h b u n q
theorem scal_int (i j : Int) : scal (.int i) (.int j) = true := rfl
theorem scal_str (i j : Str) : scal (.str i) (.str j) = true := rfl
section
variable {K : PySem.W.Frag} {H : Hp} {a b c d e f : Addr} {ns ms ks ls : List Int} {Q : VK}
theorem neD_tup (h1 : H a = some (.tup (ns.map V.int))) (h2 : H b = some (.tup (ms.map V.int))) (q : Q (.bl (!decide (ns = ms))) H) : rNeD K (.ref a) (.ref b) H Q :=
  ⟨_, _, dp_tupI (.inl (.inl h1)), dp_tupI (.inl (.inl h2)), shaped_tupI _, shaped_tupI _, by rw [eqv_tupI]; exact q⟩
theorem eqD_tup (h1 : H a = some (.tup (ns.map V.int))) (h2 : H b = some (.tup (ms.map V.int))) (q : Q (.bl (decide (ns = ms))) H) : rEqD K (.ref a) (.ref b) H Q :=
  ⟨_, _, dp_tupI (.inl (.inl h1)), dp_tupI (.inl (.inl h2)), shaped_tupI _, shaped_tupI _, by rw [eqv_tupI]; exact q⟩
theorem depth_tupI (ns : List Int) : PyData.depth (tupI ns) = 1 := by
  show PyData.depthAll (ns.map PyData.int) + 1 = 1
  rw [depth_ints ns]
theorem shaped_two (ns ms : List Int) : SeqAt.shaped (.tuple [tupI ns, tupI ms]) = true := by
  have h1 : PyData.canLay0 (.tuple [tupI ns, tupI ms]) = true := by
    show (PyData.canLayAll0 (ns.map PyData.int) && (PyData.canLayAll0 (ms.map PyData.int) && true)) = true
    rw [canLay_ints, canLay_ints]
    rfl
  have h2 : PyData.depth (.tuple [tupI ns, tupI ms]) ≤ 64 := by
    show max (PyData.depth (tupI ns)) (max (PyData.depth (tupI ms)) 0) + 1 ≤ 64
    rw [depth_tupI, depth_tupI]
    decide
  unfold SeqAt.shaped
  rw [h1, decide_eq_true h2]
  rfl
theorem eqv_two (ns ms ks ls : List Int) : PyData.eqv (.tuple [tupI ns, tupI ms]) (.tuple [tupI ks, tupI ls]) = (decide (ns = ks) && decide (ms = ls)) := by
  show (PyData.eqv (tupI ns) (tupI ks) && (PyData.eqv (tupI ms) (tupI ls) && true)) = _
  rw [eqv_tupI, eqv_tupI, Bool.and_true]
/-- (t, u) != (v, w), four tuples of ints -/
theorem neD_two (h1 : H a = some (.tup [.ref c, .ref d])) (h2 : H b = some (.tup [.ref e, .ref f])) (hc : H c = some (.tup (ns.map V.int))) (hd : H d = some (.tup (ms.map V.int))) (he : H e = some (.tup (ks.map V.int))) (hf : H f = some (.tup (ls.map V.int)))
    (q : Q (.bl (!(decide (ns = ks) && decide (ms = ls)))) H) : rNeD K (.ref a) (.ref b) H Q :=
  ⟨.tuple [tupI ns, tupI ms], .tuple [tupI ks, tupI ls], .tup (.inl (.inl h1)) (.cons (dp_tupI (.inl (.inl hc))) (.cons (dp_tupI (.inl (.inl hd))) .nil)), .tup (.inl (.inl h2)) (.cons (dp_tupI (.inl (.inl he))) (.cons (dp_tupI (.inl (.inl hf))) .nil)), shaped_two _ _, shaped_two _ _, by rw [eqv_two]; exact q⟩
end
theorem Vals.getD {xs : List V} {us : List Value} (r : Vals xs us) (i : Nat) : RelV (xs.getD i .non) (us.getD i Value.none) := by
  rw [List.getD_eq_getElem?_getD, List.getD_eq_getElem?_getD]
  cases h : xs[i]? with
  | none => rw [L2.Vals.none_of r h]; rfl
  | some x =>
    obtain ⟨u, h2, h3⟩ := L2.Vals.get r h
    rw [h2]
    exact h3
theorem kbn_of {K : PySem.W.Frag} {x qual : Str} {st : Stmt} {f : Addr} {fd : FuncData} (F : Fun K x qual st f fd) (ps : List Str) (n : Nat) (ks : List Str) (g : List Value → List Value → List Value) (gV : List V → List V → List V)
    (h : ∀ (kV doc pm : Value) (an : Option Addr) (cdv ct : Value) (us ws : List Value), us.length = n → ws.length = ks.length → bindArgs (PySem.W.fnOf x qual (defArgs st) (defBody st) (defScope st) .none kV doc pm an cdv ct) ⟨us, ks.zip ws⟩ = pure (ps.zip (g us ws)))
    (rel : ∀ {vs : List V} {us : List Value} {zs : List V} {ws : List Value}, Vals vs us → Vals zs ws → Vals (gV vs zs) (g us ws)) : KBn K fd ps n ks g gV := by
  obtain ⟨oc, od, kV, doc, pm, an, cdv, ct, osl, rfl, lk, hcd⟩ := F.ex
  exact ⟨fun s us ws X l1 l2 => .of_eq (h kV doc pm an cdv ct us ws l1 l2), rel⟩

/-! ### a comprehension with two clauses, closed off -/
/-- the second clause's loop -/
def Lc1R (J1 : It) (g1 : TG) (tt1 : TT) (te : TE) (vs1 : List Nat) (D : Addr) (σ2 : L2.St) (H4 : Hp) (Nx : Hp → Prop) : Prop := ∃ W1 : Nat → Nat → Hp → Prop, (∃ m, W1 0 m H4) ∧ ∀ j k H, W1 j k H →
  (J1.stop j H ∧ Nx H) ∨ (J1.go j H ∧ ∃ Nx1 : Hp → Prop, (∀ H', Nx1 H' → ∃ k', k' < k ∧ W1 (j + 1) k' H') ∧ ∀ x H', J1.yld j H x H' → g1 x (wipe σ2 vs1) H' fun σ3 H5 => wipe σ3 vs1 = wipe σ2 vs1 ∧ tt1 σ3 H5 fun b H6 =>
    if b = true then te σ3 H6 fun y H7 => ∃ acc, H7 D = some (.lst acc) ∧ acc.length < sizeLine ∧ Nx1 (upd H7 D (.lst (acc ++ [y]))) else Nx1 H6)
def Lc2R (J : It) (g : TG) (tt : TT) (wi1 : TI) (g1 : TG) (tt1 : TT) (te : TE) (vs vs1 : List Nat) (σ : L2.St) (H1 : Hp) (Q : VK) : Prop := ∀ D, H1 D = none → ∃ W : Nat → Nat → Hp → Prop, (∃ m, W 0 m (upd H1 D (.lst []))) ∧ ∀ i m H, W i m H →
  (J.stop i H ∧ Q (.ref D) H) ∨ (J.go i H ∧ ∃ Nx : Hp → Prop, (∀ H', Nx H' → ∃ m', m' < m ∧ W (i + 1) m' H') ∧ ∀ x H', J.yld i H x H' → g x (wipe σ vs) H' fun σ2 H2 => wipe σ2 vs = wipe σ vs ∧ tt σ2 H2 fun b H3 =>
    if b = true then wi1 σ2 H3 fun J1 H4 => Lc1R J1 g1 tt1 te vs1 D σ2 H4 Nx else Nx H3)
theorem tLc2_eq {wi : TI} {g : TG} {tt : TT} {wi1 : TI} {g1 : TG} {tt1 : TT} {te : TE} {vs vs1 : List Nat} {σ : L2.St} {H : Hp} {Q : VK} : tLc2 wi g tt wi1 g1 tt1 te vs vs1 σ H Q = wi σ H fun J H1 => Lc2R J g tt wi1 g1 tt1 te vs vs1 σ H1 Q := rfl
/-- the second clause's loop by an invariant of the turn, what is made so far and the heap -/
theorem lc1_gen {J1 : It} {n : Nat} {G : Hp → Prop} {Y : Nat → Hp → V → Hp → Prop} (w : Walk J1 n G Y) {g1 : TG} {te : TE} {vs1 : List Nat} {D : Addr} {σ2 : L2.St} {H4 : Hp} {Nx : Hp → Prop} (Ia : Nat → List V → Hp → Prop)
    (h0 : ∃ acc, Ia 0 acc H4 ∧ H4 D = some (.lst acc)) (hG : ∀ j acc H, j ≤ n → Ia j acc H → H D = some (.lst acc) → G H) (hst : ∀ j acc H l l0, Ia j acc H → H D = some (.lst l0) → Ia j acc (upd H D (.lst l))) (hz : ∀ j acc H, Ia j acc H → acc.length < sizeLine)
    (hs : ∀ j acc x H H' (Qy : VK), j < n → Ia j acc H → H D = some (.lst acc) → Y j H x H' → (∀ y H7, H7 D = some (.lst acc) → Ia (j + 1) (acc ++ [y]) H7 → Qy y H7) → g1 x (wipe σ2 vs1) H' fun σ3 H5 => wipe σ3 vs1 = wipe σ2 vs1 ∧ te σ3 H5 Qy)
    (hd : ∀ acc H, Ia n acc H → H D = some (.lst acc) → Nx H) : Lc1R J1 g1 tYes te vs1 D σ2 H4 Nx := by
  obtain ⟨acc0, i0, e0⟩ := h0
  refine ⟨fun j k H => k = n - j ∧ j ≤ n ∧ ∃ acc : List V, Ia j acc H ∧ H D = some (.lst acc), ⟨n, by simp, Nat.zero_le _, acc0, i0, e0⟩, ?_⟩
  rintro j k H ⟨rfl, hj, acc, hI, e⟩
  have q := hG j acc H hj hI e
  by_cases hlt : j < n
  · refine .inr ⟨w.goes j H hlt q, fun H' => ∃ acc : List V, Ia (j + 1) acc H' ∧ H' D = some (.lst acc), fun H' ⟨acc', h1, h2⟩ => ⟨n - (j + 1), by omega, rfl, hlt, acc', h1, h2⟩, fun x H' y => ?_⟩
    exact hs j acc x H H' _ hlt hI e (w.yields j H x H' hlt q y) fun y H7 e7 h7 => ⟨acc, e7, hz j acc H hI, acc ++ [y], hst _ _ _ _ _ h7 e7, upd_same⟩
  · have en : j = n := by omega
    subst en
    exact .inl ⟨w.stops H q, hd acc H hI e⟩
theorem lc2_gen {J : It} {n : Nat} {G : Hp → Prop} {Y : Nat → Hp → V → Hp → Prop} (w : Walk J n G Y) {g : TG} {wi1 : TI} {g1 : TG} {te : TE} {vs vs1 : List Nat} {σ : L2.St} {H1 : Hp} {Q : VK} (Ia : Addr → Nat → List V → Hp → Prop)
    (h0 : ∀ D, H1 D = none → Ia D 0 [] (upd H1 D (.lst []))) (hG : ∀ D i acc H, H1 D = none → i ≤ n → Ia D i acc H → H D = some (.lst acc) → G H)
    (hs : ∀ D i acc x H H' (Nx : Hp → Prop), H1 D = none → i < n → Ia D i acc H → H D = some (.lst acc) → Y i H x H' → (∀ acc' H7, H7 D = some (.lst acc') → Ia D (i + 1) acc' H7 → Nx H7) → g x (wipe σ vs) H' fun σ2 H2 => wipe σ2 vs = wipe σ vs ∧ wi1 σ2 H2 fun J1 H4 => Lc1R J1 g1 tYes te vs1 D σ2 H4 Nx)
    (hd : ∀ D acc H, H1 D = none → Ia D n acc H → H D = some (.lst acc) → Q (.ref D) H) : Lc2R J g tYes wi1 g1 tYes te vs vs1 σ H1 Q := fun D hD => by
  refine ⟨fun i k H => k = n - i ∧ i ≤ n ∧ ∃ acc : List V, Ia D i acc H ∧ H D = some (.lst acc), ⟨n, by simp, Nat.zero_le _, [], h0 D hD, upd_same⟩, ?_⟩
  rintro i k H ⟨rfl, hi, acc, hI, e⟩
  have q := hG D i acc H hD hi hI e
  by_cases hlt : i < n
  · refine .inr ⟨w.goes i H hlt q, fun H' => ∃ acc : List V, Ia D (i + 1) acc H' ∧ H' D = some (.lst acc), fun H' ⟨acc', h1, h2⟩ => ⟨n - (i + 1), by omega, rfl, hlt, acc', h1, h2⟩, fun x H' y => ?_⟩
    exact hs D i acc x H H' _ hD hlt hI e (w.yields i H x H' hlt q y) fun acc' H7 e7 h7 => ⟨acc', h7, e7⟩
  · have en : i = n := by omega
    subst en
    exact .inl ⟨w.stops H q, hd D acc H hD hI e⟩
/-- a comprehension with a test: Ia by the turn, what is made so far, and the heap -/
theorem lcr_if {J : It} {n : Nat} {G : Hp → Prop} {Y : Nat → Hp → V → Hp → Prop} (w : Walk J n G Y) {g : TG} {tt : TT} {te : TE} {vs : List Nat} {σ : L2.St} {H1 : Hp} {Q : VK} (Ia : Addr → Nat → List V → Hp → Prop) (hn : n < sizeLine)
    (h0 : ∀ D, H1 D = none → Ia D 0 [] (upd H1 D (.lst []))) (hG : ∀ D i acc H, H1 D = none → i ≤ n → Ia D i acc H → H D = some (.lst acc) → G H) (hst : ∀ D i acc H l, H1 D = none → Ia D i acc H → H D ≠ none → Ia D i acc (upd H D (.lst l)))
    (hs : ∀ D i acc x H H' (Qn : Hp → Prop) (Qy : VK), H1 D = none → i < n → Ia D i acc H → H D = some (.lst acc) → Y i H x H' → (∀ H4, H4 D = some (.lst acc) → Ia D (i + 1) acc H4 → Qn H4) → (∀ y H4, H4 D = some (.lst acc) → Ia D (i + 1) (acc ++ [y]) H4 → Qy y H4) →
      g x (wipe σ vs) H' fun σ2 H2 => wipe σ2 vs = wipe σ vs ∧ tt σ2 H2 fun b H3 => if b = true then te σ2 H3 Qy else Qn H3)
    (hd : ∀ D acc H, H1 D = none → acc.length ≤ n → Ia D n acc H → H D = some (.lst acc) → Q (.ref D) H) : LcR J g tt te vs σ H1 Q := fun D hD => by
  refine lc_it w (fun i H => ∃ acc : List V, acc.length ≤ i ∧ Ia D i acc H ∧ H D = some (.lst acc)) ⟨[], Nat.le_refl _, h0 D hD, upd_same⟩ (fun i H hi ⟨acc, _, h, e⟩ => hG D i acc H hD hi h e) (fun i x H H' hi ⟨acc, hl, h, e⟩ hy => ?_) (fun H ⟨acc, hl, h, e⟩ => hd D acc H hD hl h e)
  refine hs D i acc x H H' _ _ hD hi h e hy (fun H4 e4 h4 => ⟨acc, by omega, h4, e4⟩) fun y H4 e4 h4 => ⟨acc, e4, by omega, acc ++ [y], by rw [List.length_append]; simp; omega, ?_, upd_same⟩
  exact hst _ _ _ _ _ hD h4 (by rw [e4]; simp)
/-! ### gcd and lcm of wide ints -/
def rLcm : List V → Hp → VK → Prop := fun vs H Q => ∃ a b : Int, vs = [.int a, .int b] ∧ a.natAbs < 2 ^ 6000 ∧ b.natAbs < 2 ^ 6000 ∧ Q (.int ((Nat.lcm a.natAbs b.natAbs : Nat) : Int)) H
theorem lcm_le_mul (m n : Nat) : m.lcm n ≤ m * n := by
  unfold Nat.lcm
  exact Nat.div_le_self _ _
theorem cr_lcm {X : Cx} : CallR X (.builtin "math.lcm") rLcm := by
  intro pins s σ H vs us Q I r h
  obtain ⟨a, b, rfl, ha, hb, q⟩ := h
  obtain ⟨t, u, rfl⟩ := Vals.int2 r
  have e1 : (Nat.lcm 1 a.natAbs) = a.natAbs := by simp [Nat.lcm]
  have lg : ∀ m : Nat, m < 2 ^ 6000 → m.log2 < 6000 := fun m hm => by
    by_cases h0 : m = 0
    · subst h0; decide
    · exact (Nat.log2_lt h0).mpr hm
  have m1 : max 1 a.natAbs < 2 ^ 6000 := by
    have : (1 : Nat) < 2 ^ 6000 := Nat.one_lt_two_pow (by decide)
    omega
  have m2 : max a.natAbs b.natAbs < 2 ^ 6000 := by omega
  have l1 := lg _ m1
  have l2 := lg _ m2
  have hl : (((Nat.lcm 1 a.natAbs).lcm b.natAbs : Nat) : Int).natAbs.log2 < bitsLine := by
    rw [e1, Int.natAbs_natCast]
    have h1 : a.natAbs.lcm b.natAbs ≤ a.natAbs * b.natAbs := lcm_le_mul _ _
    have h2 : a.natAbs * b.natAbs < 2 ^ 12000 := by
      rw [show (12000 : Nat) = 6000 + 6000 by rfl, Nat.pow_add]
      exact Nat.mul_lt_mul'' ha hb
    have eb : bitsLine = 134217728 := by decide
    rw [eb]
    by_cases h0 : a.natAbs.lcm b.natAbs = 0
    · rw [h0]; decide
    · have h3 : (a.natAbs.lcm b.natAbs).log2 < 12000 := (Nat.log2_lt h0).mpr (Nat.lt_of_le_of_lt h1 h2)
      omega
  refine call_function_meets PySem.W.MGF.kind_lcm PySem.W.MGF.plain_lcm PySem.W.MGF.entry_lcm (PySem.W.MGF.args_lcm _ _) (PySem.W.mg_run_lcm a t b u (by omega) (by omega) hl).meets ?_
  rw [e1]
  exact ⟨.int _, H, I.tok _, ⟨_, rfl⟩, q⟩
/-- *t, .. in a display: t a tracked tuple -/
def tStarH (te : TE) (t : TA) : TA := fun σ H Q => te σ H fun x H1 => ∃ p, x = .ref p ∧ ∃ xs, H1 p = some (.tup xs) ∧ t σ H1 fun ys H2 => Q (xs ++ ys) H2
theorem pa_starH {X : Cx} {e : Expr} {es : List Expr} {te : TE} {t : TA} {p : Pos} (he : PE X e te) (hr : PA X es t) (hs : starEach (.Starred e p :: es) X.env = (true, eval e X.env) :: starEach es X.env := by rfl) : PA X (.Starred e p :: es) (tStarH te t) := by
  refine ⟨fun pos pins s σ H Q I h => ?_⟩
  refine PySem.W.items_star (thn (he.run pins s σ H _ I h) fun v s1 ⟨y, H1, I1, ry, a, ey, xs, hx, q⟩ => ?_) hs
  subst ey
  obtain rfl : v = Value.ref a := ry
  refine StX.star_any I1 (.inl (.inl (.inl hx))) fun us s2 I2 rv => ?_
  exact thn (hr.run pos pins s2 σ H1 _ I2 q) fun ws s3 ⟨vs, H3, I3, r3, q3⟩ => ⟨xs ++ vs, H3, I3, rv.append r3, q3⟩
end Cs

/-! tuple * 1, tests of bools -/
namespace Cs
open PySem PySem.Spec PyProof.Rows L2
theorem tuple_mul_one (l : Addr) (items : Array Value) (n : Nat) (dd : Option Addr) (sl : Array (Option Value)) (u : Tok) :
    Meets (Builtin.«tuple.__mul__» ⟨[.ref l, .int 1 u], []⟩) (fun _ R s => s.heap.get? l = some { cls := .type "tuple", dict := dd, data := .seq items n, slots := sl } ∧ R (.ok (.ret (Value.ref l))) s) :=
  .of_wp fun prog w A R s h => by
    obtain ⟨hp, g, d, tk, os⟩ := s
    obtain ⟨hl, h⟩ := h
    have f1 := AutoSeq1.idx_int
    have c0 : (decide ((1 : Int) < -(2 ^ 63)) || decide ((1 : Int) ≥ 2 ^ 63)) = false := by decide
    have c1 : (items.isEmpty || (1 : Int) == 1) = true := by simp
    wp_walk using wpAny_loadPart' hl
    repeat (first
      | (refine wpAny_ite_false (decide_eq_false (by rw [c0]; exact Bool.false_ne_true)) ?_; wp_walk using wpAny_loadPart' hl)
      | (refine wpAny_ite_true (decide_eq_true (by rw [c1])) ?_; wp_walk using wpAny_loadPart' hl))
    exact ⟨_, rfl, h⟩
/-- a tuple times a count of at least one -/
def rRepA (K : PySem.W.Frag) : R2 := fun x y H Q => ∃ (l : Addr) (k : Nat) (xs : List V), x = .ref l ∧ y = .int k ∧ H l = some (.tup xs) ∧ xs ≠ [] ∧ 1 ≤ k ∧ k ≤ 1000 ∧ xs.length ≤ 1000 ∧ ∀ p H', Same H H' → H' p = some (.tup (List.replicate k xs).flatten) → Q (.ref p) H'
section
variable {X : Cx}
theorem op_repA : OpR X (binaryOp .Mult) (rRepA X.K) := by
  intro pins s σ H x y v u Q I rx ry h
  obtain ⟨l, k, xs, rfl, rfl, hT, hne, h1, h2, hz, q⟩ := h
  by_cases hk : 2 ≤ k
  · refine op_repT pins s σ H _ _ _ _ Q I rx ry ⟨l, k, xs, rfl, rfl, .inl (.inl hT), hne, by omega, by omega, hz, fun p hp => ?_⟩
    have e : ((k : Nat) : Int).toNat = k := by simp
    rw [e]
    exact q p _ (Same.new hp) upd_same
  · obtain rfl : k = 1 := by omega
    cases rx
    obtain ⟨t, rfl⟩ := ry
    obtain ⟨its, r, ⟨⟨cls, dd, data, sl⟩, ho, hc, n, hd⟩, hs⟩ := I.tuple (.inl (.inl hT))
    simp only at hc hd
    subst hc hd
    refine wpAny_binaryOp_repeat_ref (T := "tuple") (U := "int") (by decide) ⟨_, ho, rfl⟩ (fun s' => typeIs_int s' 1 t) noFill_tuple_mul F.fills_int_mul F.slot_int_rmul repeat_tuple F.slot_int_index.lookup
      (call_meets F.slot_int_rmul (typeIs_int s 1 t) F.entry_int_rmul (F.args_int_rmul_2 _ _) (int_rmul_tuple 1 t l its.toArray n dd sl)
        ⟨ho, rfl, ⟨_, ho, rfl⟩, call_meets F.slot_tuple_mul ⟨_, ho, rfl⟩ F.entry_tuple_mul (F.args_tuple_mul_2 _ _) (tuple_mul_one l its.toArray n dd sl t) ⟨ho, ?_⟩⟩)
    refine ⟨.ref l, _, I, rfl, q l H (Same.refl _) ?_⟩
    rw [hT]
    simp
end
/-- tuples of ints at the addresses as -/
def AsT (H : Hp) (as : List Addr) (hss : List (List Int)) : Prop := as.length = hss.length ∧ ∀ (i : Nat) t hs, as[i]? = some t → hss[i]? = some hs → H t = some (.tup (hs.map V.int))
theorem AsT.same {H H' : Hp} {as : List Addr} {hss : List (List Int)} (e : Same H H') (h : AsT H as hss) : AsT H' as hss := ⟨h.1, fun i t hs h1 h2 => e _ _ (h.2 i t hs h1 h2)⟩
theorem AsT.nil {H : Hp} : AsT H [] [] := ⟨rfl, fun i t hs h _ => by simp at h⟩
theorem AsT.snoc {H : Hp} {as : List Addr} {hss : List (List Int)} {t : Addr} {hs : List Int} (h : AsT H as hss) (ht : H t = some (.tup (hs.map V.int))) : AsT H (as ++ [t]) (hss ++ [hs]) := by
  refine ⟨by rw [List.length_append, List.length_append, h.1]; rfl, fun i u gs h1 h2 => ?_⟩
  by_cases hlt : i < as.length
  · rw [List.getElem?_append_left hlt] at h1
    rw [List.getElem?_append_left (by rw [← h.1]; exact hlt)] at h2
    exact h.2 i u gs h1 h2
  · rw [List.getElem?_append_right (by omega)] at h1
    rw [List.getElem?_append_right (by rw [← h.1]; omega), ← h.1] at h2
    cases hk : i - as.length with
    | zero =>
      rw [hk] at h1 h2
      simp only [List.getElem?_cons_zero, Option.some.injEq] at h1 h2
      rw [← h1, ← h2]; exact ht
    | succ m => rw [hk] at h1; simp at h1
/-- a list of tuples of ints, at a -/
def LstT (H : Hp) (a : Addr) (hss : List (List Int)) : Prop := ∃ as : List Addr, H a = some (.lst (as.map V.ref)) ∧ AsT H as hss
theorem LstT.same {H H' : Hp} {a : Addr} {hss : List (List Int)} (e : Same H H') (h : LstT H a hss) : LstT H' a hss := by
  obtain ⟨as, h1, h2⟩ := h
  exact ⟨as, e _ _ h1, h2.same e⟩
theorem scal_bl (b c : Bool) : scal (.bl b) (.bl c) = true := rfl
theorem dpAll_tups {K : PySem.W.Frag} {H : Hp} : ∀ {as : List Addr} {hss : List (List Int)}, AsT H as hss → DpAll K H (as.map V.ref) (hss.map tupI)
  | [], [], _ => .nil
  | [], _ :: _, h => by have := h.1; simp at this
  | _ :: _, [], h => by have := h.1; simp at this
  | a :: as, hs :: hss, h => .cons (dp_tupI (.inl (.inl (h.2 0 a hs rfl rfl)))) (dpAll_tups ⟨by simpa using h.1, fun i t gs h1 h2 => h.2 (i + 1) t gs h1 h2⟩)
theorem canLay_tups : ∀ hss : List (List Int), PyData.canLayAll0 (hss.map tupI) = true
  | [] => rfl
  | hs :: hss => by
    show (PyData.canLay0 (tupI hs) && PyData.canLayAll0 (hss.map tupI)) = true
    rw [canLay_tups hss, show PyData.canLay0 (tupI hs) = true from canLay_ints hs]
    rfl
theorem depth_tups : ∀ hss : List (List Int), PyData.depthAll (hss.map tupI) ≤ 1
  | [] => by decide
  | hs :: hss => by
    show max (PyData.depth (tupI hs)) (PyData.depthAll (hss.map tupI)) ≤ 1
    rw [depth_tupI]
    have := depth_tups hss
    omega
theorem shaped_tups (hss : List (List Int)) : SeqAt.shaped (.list (hss.map tupI)) = true := by
  have h1 : PyData.canLay0 (.list (hss.map tupI)) = true := canLay_tups hss
  have h2 : PyData.depth (.list (hss.map tupI)) ≤ 64 := by
    show PyData.depthAll (hss.map tupI) + 1 ≤ 64
    have := depth_tups hss
    omega
  unfold SeqAt.shaped
  rw [h1, decide_eq_true h2]
  rfl
theorem any_tups (ns : List Int) : ∀ hss : List (List Int), ((hss.map tupI).any fun z => PyData.eqv z (tupI ns)) = decide (ns ∈ hss)
  | [] => by simp
  | hs :: hss => by
    rw [List.map_cons, List.any_cons, any_tups ns hss, eqv_tupI]
    by_cases h : hs = ns
    · subst h; simp
    · have h' : ¬ ns = hs := fun e => h e.symm
      simp [h, h']
section
variable {K : PySem.W.Frag} {H : Hp} {a b : Addr} {ns ms : List Int} {hss : List (List Int)} {Q : VK}
theorem dp_lstT (h : LstT H a hss) : Dp K H (.ref a) (.list (hss.map tupI)) := by
  obtain ⟨as, h1, h2⟩ := h
  exact .lst (.inl (.inl h1)) (dpAll_tups h2)
theorem inD_tups (h1 : H a = some (.tup (ns.map V.int))) (h2 : LstT H b hss) (q : Q (.bl (decide (ns ∈ hss))) H) : rInD K (.ref a) (.ref b) H Q :=
  ⟨_, _, dp_tupI (.inl (.inl h1)), dp_lstT h2, shaped_tupI _, shaped_tups _, by rw [any_tups]; exact q⟩
theorem notInD_tups (h1 : H a = some (.tup (ns.map V.int))) (h2 : LstT H b hss) (q : Q (.bl (!decide (ns ∈ hss))) H) : rNotInD K (.ref a) (.ref b) H Q :=
  ⟨_, _, dp_tupI (.inl (.inl h1)), dp_lstT h2, shaped_tupI _, shaped_tups _, by rw [any_tups]; exact q⟩
theorem shaped_lstI (ns : List Int) : SeqAt.shaped (.list (ns.map PyData.int)) = true := by
  have h1 : PyData.canLay0 (.list (ns.map PyData.int)) = true := canLay_ints ns
  have h2 : PyData.depth (.list (ns.map PyData.int)) ≤ 64 := by
    show PyData.depthAll (ns.map PyData.int) + 1 ≤ 64
    rw [depth_ints ns]
    decide
  unfold SeqAt.shaped
  rw [h1, decide_eq_true h2]
  rfl
theorem eqv_lstI (ns ms : List Int) : PyData.eqv (.list (ns.map PyData.int)) (.list (ms.map PyData.int)) = decide (ns = ms) := eqvAll_ints ns ms
theorem eqD_lst (h1 : H a = some (.lst (ns.map V.int))) (h2 : H b = some (.lst (ms.map V.int))) (q : Q (.bl (decide (ns = ms))) H) : rEqD K (.ref a) (.ref b) H Q :=
  ⟨_, _, .lst (.inl (.inl h1)) (dpAll_ints ns), .lst (.inl (.inl h2)) (dpAll_ints ms), shaped_lstI _, shaped_lstI _, by rw [eqv_lstI]; exact q⟩
theorem neD_lst (h1 : H a = some (.lst (ns.map V.int))) (h2 : H b = some (.lst (ms.map V.int))) (q : Q (.bl (!decide (ns = ms))) H) : rNeD K (.ref a) (.ref b) H Q :=
  ⟨_, _, .lst (.inl (.inl h1)) (dpAll_ints ns), .lst (.inl (.inl h2)) (dpAll_ints ms), shaped_lstI _, shaped_lstI _, by rw [eqv_lstI]; exact q⟩
theorem eqv_tups : ∀ (hss gss : List (List Int)), PyData.eqvAll (hss.map tupI) (gss.map tupI) = decide (hss = gss)
  | [], [] => rfl
  | [], _ :: _ => rfl
  | _ :: _, [] => rfl
  | hs :: hss, gs :: gss => by
    show (PyData.eqv (tupI hs) (tupI gs) && PyData.eqvAll (hss.map tupI) (gss.map tupI)) = _
    rw [eqv_tups hss gss, eqv_tupI]
    by_cases h : hs = gs <;> by_cases h2 : hss = gss <;> simp [h, h2]
theorem neD_tups {gss : List (List Int)} (h1 : LstT H a hss) (h2 : LstT H b gss) (q : Q (.bl (!decide (hss = gss))) H) : rNeD K (.ref a) (.ref b) H Q :=
  ⟨_, _, dp_lstT h1, dp_lstT h2, shaped_tups _, shaped_tups _, by rw [show PyData.eqv (.list (hss.map tupI)) (.list (gss.map tupI)) = decide (hss = gss) from eqv_tups hss gss]; exact q⟩
end
theorem _root_.L2.Room.units1 {k : Nat} {A : Around} (r : Room k A) : A.units + 65 < cLine := by have := r.un; omega
theorem call_isIK {X : Cx} {K : PySem.W.Frag} (h : X.K = K) : CallR X (.builtin "isinstance") (rIsI K) := by subst h; exact call_isI
theorem call_isAK {X : Cx} {K : PySem.W.Frag} (h : X.K = K) : CallR X (.builtin "isinstance") (rIsA K) := by subst h; exact call_isA
end Cs

/-! sets of tuples of ints: set(), x in s, x not in s, s.add(x) -/
namespace Cs
open PySem PySem.Spec PyProof.Rows L2
section
variable {P : Program} {w : World} {A : Around} {E : Value → Shared → Prop} {s : Shared} {a : Addr} {L : List (Addr × List Int)} {es : Array (Int × Value)} {ep : Nat} {t : SetTable}
/-- the c-th probe of a search for a hash -/
abbrev pr (t : SetTable) (h : Int) (c : Nat) : SetTable.Probe := nth t.mask (runAt t.mask (SetTable.bits h % (t.mask + 1)) (SetTable.bits h)) c
theorem nth_clean (m : Nat) : ∀ (n : Nat) (p : SetTable.Probe), p.dummy = none → (nth m p n).dummy = none
  | 0, p, h => h
  | n + 1, p, h => nth_clean m n (adv m p) (by unfold adv; split <;> exact h)
/-- what the table's probe meets from the c-th place on: a row of the same hash, or the empty slot -/
theorem probe_at (R : SetTR P w s.heap a L es ep t) {k : List Int} {K c : Nat} (hKf : K < 10 * SetTable.turns t.mask) (hK : way t.mask (thash P w k) K ∉ t.place.toList) (hKb : ∀ c, c < K → way t.mask (thash P w k) c ∈ t.place.toList) (hc : c ≤ K) :
    (∃ q i p, c + q < K ∧ t.place.toList[i]? = some (way t.mask (thash P w k) (c + q)) ∧ L[i]? = some p ∧
      (∀ (q' i' : Nat) (p' : Addr × List Int), q' < q → L[i']? = some p' → t.place.toList[i']? = some (way t.mask (thash P w k) (c + q')) → p'.2 ≠ k) ∧
      t.probe (fun i => (es[i]?.map (·.1)).getD 0) (thash P w k) (pr t (thash P w k) c) = some (.candidate (way t.mask (thash P w k) (c + q)) i (pr t (thash P w k) (c + q + 1)))) ∨
    ((∀ (q' i' : Nat) (p' : Addr × List Int), c + q' < K → L[i']? = some p' → t.place.toList[i']? = some (way t.mask (thash P w k) (c + q')) → p'.2 ≠ k) ∧
      t.probe (fun i => (es[i]?.map (·.1)).getD 0) (thash P w k) (pr t (thash P w k) c) = some (.empty (way t.mask (thash P w k) K) none)) := by
  have shift : ∀ q, nth t.mask (pr t (thash P w k) c) q = pr t (thash P w k) (c + q) := fun q => (nth_add t.mask c _ q).symm
  have shj : ∀ q, (nth t.mask (pr t (thash P w k) c) q).j = way t.mask (thash P w k) (c + q) := fun q => congrArg SetTable.Probe.j (shift q)
  have hash : ∀ (i : Nat) p, L[i]? = some p → (fun i => (es[i]?.map (·.1)).getD 0) i = thash P w p.2 := fun i p hp => by
    show (es[i]?.map (·.1)).getD 0 = _
    rw [R.entry hp]
    rfl
  have same : ∀ {i : Nat} {p : Addr × List Int}, L[i]? = some p → (fun i => (es[i]?.map (·.1)).getD 0) i ≠ thash P w k → p.2 ≠ k := fun {i p} hp hne e => hne (by rw [hash i p hp, e])
  rcases go_spec t R.tab.ris R.tab.dm (fun i => (es[i]?.map (·.1)).getD 0) (thash P w k) (10 * SetTable.turns t.mask) (K - c) (pr t (thash P w k) c) (nth_clean _ _ _ rfl) (by omega)
    (fun q hq => by rw [shj]; exact hKb _ (by omega)) (by rw [shj, show c + (K - c) = K by omega]; exact hK) with ⟨q, i, hq, hi, _, hno, hp⟩ | ⟨hno, hp⟩
  · left
    rw [shj] at hi
    have hil : i < L.length := by
      have h1 := (List.getElem?_eq_some_iff.mp hi).1
      have h2 := R.tab.sz
      rw [List.length_map] at h2
      rw [Array.length_toList] at h1
      omega
    refine ⟨q, i, L[i], by omega, hi, List.getElem?_eq_getElem hil, fun q' i' p' h1 h2 h3 => same h2 (hno q' i' h1 (by rw [shj]; exact h3)), ?_⟩
    rw [shj, shift] at hp
    exact hp
  · right
    refine ⟨fun q' i' p' h1 h2 h3 => same h2 (hno q' i' (by omega) (by rw [shj]; exact h3)), ?_⟩
    rw [shj, show c + (K - c) = K by omega] at hp
    exact hp
/-- the search that a question asks for -/
theorem look_from (R : SetTR P w s.heap a L es ep t) {x : Addr} {k : List Int} (hx : IsT P w s.heap k x) (hu : A.units < cLine) {K : Nat} (hKf : K < 10 * SetTable.turns t.mask) (hK : way t.mask (thash P w k) K ∉ t.place.toList)
    (hKb : ∀ c, c < K → way t.mask (thash P w k) c ∈ t.place.toList) {Q : SetFound → Shared → Prop} (hin : k ∈ L.map (·.2) → ∀ i, Q (.there (some i)) s) (hout : k ∉ L.map (·.2) → ∀ j, Q (.free j false) s) :
    ∀ (f c : Nat) (st : Option SetTable.Probe), st.getD (t.probeStart (thash P w k)) = pr t (thash P w k) c → c ≤ K → K - c < f →
      (∀ (i : Nat) p, L[i]? = some p → p.2 = k → ∃ c', c ≤ c' ∧ c' < K ∧ t.place.toList[i]? = some (way t.mask (thash P w k) c')) → wpAny (model P w) A (setSearchFrom a (.ref x) (thash P w k) false f st) Q E s := by
  intro f
  induction f with
  | zero => intro c st _ _ h _; exact absurd h (Nat.not_lt_zero _)
  | succ f ih =>
    intro c st hst hc hf hre
    obtain ⟨o, ho, hex, hd⟩ := R.ob
    rw [setSearchFrom_succ]
    refine wpAny_bind (wpAny_setState_of ho hd R.fits ?_)
    dsimp only
    refine wp_if_neg R.gw ?_
    try refine wpAny_bind (wpAny_pure ?_)
    rw [hst]
    rcases probe_at R hKf hK hKb hc with ⟨q, i, p, hq, hi, hp, hno, e⟩ | ⟨hno, e⟩
    · rw [e]
      dsimp only
      have hm : p ∈ L := List.mem_of_getElem? hp
      have live : t.slot (way t.mask (thash P w k) (c + q)) = .live i := slot_live R.tab.ris hi
      have rest : wpAny (model P w) A (searchRest a (.ref x) (thash P w k) false f es t (way t.mask (thash P w k) (c + q)) i (pr t (thash P w k) (c + q + 1))) Q E s := by
        unfold searchRest
        rw [R.entry hp]
        dsimp only
        refine wpAny_bind (wpAny_holding (wpAny_eqBool_tuple hu (R.tup p hm) hx ?_))
        refine wpAny_bind (wpAny_setState_of ho hd R.fits ?_)
        dsimp only
        refine wp_if_neg (by simp) ?_
        try refine wpAny_bind (wpAny_pure ?_)
        rw [sameMem]
        dsimp only
        simp only [if_true, live, R.entry hp]
        refine wpAny_bind (wpAny_isSame_ref_self (wpAny_bind (wpAny_pure ?_)))
        simp only [if_true]
        by_cases hk : p.2 = k
        · refine wp_if_pos (by simp [hk]) ?_
          exact wpAny_pure (hin (List.mem_map.mpr ⟨p, hm, hk⟩) i)
        · refine wp_if_neg (by simp [hk]) ?_
          refine ih (c + q + 1) _ rfl (by omega) (by omega) fun i0 p0 h0 hk0 => ?_
          obtain ⟨c', a1, a2, a3⟩ := hre i0 p0 h0 hk0
          refine ⟨c', ?_, a2, a3⟩
          by_cases h1 : c' < c + q
          · exact absurd hk0 (hno (c' - c) i0 p0 (by omega) h0 (by rw [show c + (c' - c) = c' by omega]; exact a3))
          · by_cases h2 : c' = c + q
            · exfalso
              have l2 := slot_live R.tab.ris a3
              rw [h2, live] at l2
              injection l2 with l2
              rw [← l2, hp] at h0
              exact hk ((congrArg Prod.snd (Option.some.inj h0)).trans hk0)
            · omega
      by_cases hl : t.led = true
      · refine wp_if_neg (by simp [hl]) ?_
        try refine wpAny_bind (wpAny_pure ?_)
        exact rest
      · refine wp_if_pos (by simp [hl]) ?_
        refine wpAny_bind (seen_tup hx (fun y hy => ?_) ?_)
        · obtain ⟨e1, he1, rfl⟩ := List.mem_map.mp hy
          have he2 : e1 ∈ es.toList := by
            have h1 : e1 ∈ es ∧ e1.1 = thash P w k := by simpa using he1
            simpa using h1.1
          rw [R.rows] at he2
          obtain ⟨p2, hp2, rfl⟩ := List.mem_map.mp he2
          exact ⟨p2.2, p2.1, rfl, R.tup p2 hp2⟩
        · refine wp_if_neg (by decide) ?_
          try refine wpAny_bind (wpAny_pure ?_)
          exact rest
    · rw [e]
      dsimp only
      refine wpAny_pure (hout (fun hm => ?_) _)
      obtain ⟨p0, h0, hk0⟩ := List.mem_map.mp hm
      obtain ⟨i0, hi0, e0⟩ := List.getElem_of_mem h0
      have h00 : L[i0]? = some p0 := by rw [List.getElem?_eq_getElem hi0, e0]
      obtain ⟨c', a1, a2, a3⟩ := hre i0 p0 h00 hk0
      exact hno (c' - c) i0 p0 (by omega) h00 (by rw [show c + (c' - c) = c' by omega]; exact a3) hk0
theorem look_at (R : SetTR P w s.heap a L es ep t) {x : Addr} {k : List Int} (hx : IsT P w s.heap k x) (hu : A.units < cLine) {Q : SetFound → Shared → Prop} (hin : k ∈ L.map (·.2) → ∀ i, Q (.there (some i)) s) (hout : k ∉ L.map (·.2) → ∀ j, Q (.free j false) s) :
    wpAny (model P w) A (setSearch a (.ref x) (thash P w k)) Q E s := by
  have hroom := R.room
  obtain ⟨K, hKf, hK, hKb⟩ := R.tab.first (by rw [List.length_map]; omega) (thash P w k)
  have hbig : K < 100000 := by
    have : 10 * SetTable.turns t.mask ≤ 1420 := by
      unfold SetTable.turns
      rcases R.tab.mok with e | e | e <;> omega
    omega
  unfold setSearch
  refine look_from R hx hu hKf hK hKb hin hout 100000 0 none rfl (Nat.zero_le _) (by omega) fun i p hp hk => ?_
  have hi : (L.map fun p => thash P w p.2)[i]? = some (thash P w k) := by rw [List.getElem?_map, hp, ← hk]; rfl
  have hil : i < t.place.toList.length := by
    have h1 : i < L.length := (List.getElem?_eq_some_iff.mp hp).1
    have h2 := R.tab.sz
    rw [List.length_map] at h2
    rw [Array.length_toList]
    omega
  obtain ⟨c, hc, e⟩ := R.tab.before hK hi (List.getElem?_eq_getElem hil)
  exact ⟨c, Nat.zero_le _, hc, by rw [List.getElem?_eq_getElem hil, e]⟩
/-- x in s at the model's level -/
theorem find_tup (R : SetTR P w s.heap a L es ep t) {x : Addr} {k : List Int} (hx : IsT P w s.heap k x) (hu : A.units < cLine) {Q : Option Nat → Shared → Prop} (h : ∀ r, r.isSome = decide (k ∈ L.map (·.2)) → Q r s) :
    wpAny (model P w) A (setFind a (.ref x) (thash P w k)) Q E s := by
  obtain ⟨o, ho, hex, hd⟩ := R.ob
  unfold setFind
  rw [show (100000 : Nat) = 99999 + 1 from rfl]
  unfold setFindIn
  refine wpAny_bind (wpAny_setState_of ho hd R.fits ?_)
  dsimp only
  refine wp_if_neg (by simp [byScan, Value.scannable]) ?_
  try refine wpAny_bind (wpAny_pure ?_)
  refine wpAny_bind (look_at R hx hu (fun hm i => ?_) fun hm j => ?_)
  · exact wpAny_pure (h _ (by rw [decide_eq_true hm]; rfl))
  · exact wpAny_pure (h _ (by rw [decide_eq_false hm]; rfl))
end
section
variable {X : Cx}
theorem setTO_got {pins : List (Addr × Obj)} {σ : L2.St} {H : Hp} {s : Shared} {a : Addr} {L : List (Addr × List Int)} (I : Inv X pins σ H s) (ha : H a = some (SetTO X.prog X.w a L)) (hk : ∀ p ∈ L, H p.1 = some (.tup (p.2.map V.int))) :
    ∃ es ep t, SetTR X.prog X.w s.heap a L es ep t := (I.hok a _ ha).1.full fun p hp => I.isT (.inl (.inl (hk p hp)))
/-- set(), to be filled with tuples of ints -/
def rSet0T (P : Program) (w : World) : List V → Hp → VK → Prop := fun xs H Q => xs = [] ∧ ∀ p, H p = none → Q (.ref p) (upd H p (SetTO P w p []))
theorem cr_set0T : CallR X (.type "set") (rSet0T X.prog X.w) := by
  intro pins s σ H xs us Q I r h
  obtain ⟨rfl, q⟩ := h
  cases r
  refine setR_new fun _ => ?_
  exact ⟨.ref _, upd H s.heap.objs.size (SetTO X.prog X.w s.heap.objs.size []), I.laid (t' := s.toks) (fun b u e => Heap.get?_push_of_some _ e) (Nat.le_refl _) (setTO_new (setTR_fresh (Heap.get?_push_size _ rfl)).t0), rfl, q _ (I.hok.fresh (Nat.le_refl _))⟩
/-- t in s, t not in s -/
def rInT (P : Program) (w : World) (neg : Bool) : R2 := fun x y H Q => ∃ (b a : Addr) (k : List Int) (L : List (Addr × List Int)), x = .ref b ∧ y = .ref a ∧ H b = some (.tup (k.map V.int)) ∧ H a = some (SetTO P w a L) ∧ (∀ p ∈ L, H p.1 = some (.tup (p.2.map V.int))) ∧
  Q (.bl (if neg then !decide (k ∈ L.map (·.2)) else decide (k ∈ L.map (·.2)))) H
theorem contains_tup {P : Program} {w : World} {A : Around} {E : Value → Shared → Prop} {s : Shared} {a x : Addr} {L : List (Addr × List Int)} {es : Array (Int × Value)} {ep : Nat} {t : SetTable} {k : List Int} {Q : Bool → Shared → Prop}
    (R : SetTR P w s.heap a L es ep t) (hx : IsT P w s.heap k x) (hu : A.units + 64 < cLine) (h : ∀ tk, Q (decide (k ∈ L.map (·.2))) { s with toks := tk }) : wpAny (model P w) A (contains (.ref a) (.ref x)) Q E s := by
  obtain ⟨o, ho, hex, hd⟩ := id R.ob
  have ty : s.TypeIs (.ref a) "set" := ⟨o, ho, hex.1⟩
  have hu1 : A.in1.units < cLine := by
    show A.units + 1 < cLine
    omega
  unfold contains
  try with_reducible refine wpAny_holding ?_
  refine wpAny_bind (wpAny_specialOf ty F.slot_set_contains.lookup ?_)
  show wpAny _ _ (if (some (Value.builtin "set.__contains__") == some Value.none) = true then _ else _) _ E s
  rw [if_neg (by rw [beq_builtin_none]; exact Bool.false_ne_true)]
  refine wpAny_bind (wpAny_callSpecialUnlessNone?_slot (name := Str.ofString "__contains__") ty F.slot_set_contains
    (wpAny_call_entry F.slot_set_contains ty entry_set_contains ?_ (F.args_set_contains_2 _ _)))
  unfold Builtin.«frozenset.__contains__» Builtin.Frozenset.oneOther
  simp only [List.isEmpty_nil, bind_assoc]
  unfold Builtin.Frozenset.addrOf Builtin.Frozenset.withSetAsKey setContains
  refine wpAny_bind (wpAny_pure ?_)
  try dsimp only
  refine wpAny_bind (wpAny_pure ?_)
  try dsimp only
  refine wpAny_bind (wpAny_tryCatch ?_)
  refine wpAny_holding ?_
  refine wpAny_bind (wpAny_pyHash_tuple hu1 hx ?_)
  refine wpAny_bind (find_tup (s := { s with toks := s.toks + (k.length + 1) }) R hx hu1 fun r hr => ?_)
  refine wpAny_pure ?_
  show wpAny _ _ (ret (Value.bool r.isSome)) _ _ _
  rw [hr]
  exact wpAny_pure ⟨_, rfl, wpAny_truthy_bool (h _)⟩
theorem op_inT (hu : X.A.units + 64 < cLine) : OpR X (compareOp .In) (rInT X.prog X.w false) := by
  intro pins s σ H x y v u Q I rx ry h
  obtain ⟨b, a, k, L, rfl, rfl, hb, ha, hk, q⟩ := h
  cases rx
  cases ry
  obtain ⟨es, ep, t, R⟩ := setTO_got I ha hk
  show wpAny _ _ ((contains (Value.ref a) (Value.ref b)) >>= fun b => pure (Value.bool b)) _ _ s
  exact wpAny_bind (contains_tup R (I.isT (.inl (.inl hb))) hu fun tk => wpAny_pure ⟨.bl _, H, I.tok _, rfl, q⟩)
theorem op_notInT (hu : X.A.units + 64 < cLine) : OpR X (compareOp .NotIn) (rInT X.prog X.w true) := by
  intro pins s σ H x y v u Q I rx ry h
  obtain ⟨b, a, k, L, rfl, rfl, hb, ha, hk, q⟩ := h
  cases rx
  cases ry
  obtain ⟨es, ep, t, R⟩ := setTO_got I ha hk
  show wpAny _ _ ((contains (Value.ref a) (Value.ref b)) >>= fun b => pure (Value.bool !b)) _ _ s
  exact wpAny_bind (contains_tup R (I.isT (.inl (.inl hb))) hu fun tk => wpAny_pure ⟨.bl _, H, I.tok _, rfl, q⟩)
/-- s.add(t) -/
def rAddT (P : Program) (w : World) : V → List V → Hp → VK → Prop := fun x xs H Q => ∃ (b a : Addr) (k : List Int) (L : List (Addr × List Int)), x = .ref a ∧ xs = [.ref b] ∧ H b = some (.tup (k.map V.int)) ∧ H a = some (SetTO P w a L) ∧ (∀ p ∈ L, H p.1 = some (.tup (p.2.map V.int))) ∧ L.length + 1 < 64 ∧
  ∀ L', (k ∈ L.map (·.2) → L' = L) → (k ∉ L.map (·.2) → L'.Perm ((b, k) :: L)) → Q .non (upd H a (SetTO P w a L'))
theorem mt_addT (hu : X.A.units + 64 < cLine) : MtR X "set.add" (rAddT X.prog X.w) := by
  intro pins s σ H x xs v us Q I rx rxs h
  obtain ⟨b, a, k, L, rfl, rfl, hb, ha, hk, hl, q⟩ := h
  cases rx
  cases rxs with
  | cons ry rt =>
    cases rt
    cases ry
    obtain ⟨es, ep, t, R⟩ := setTO_got I ha hk
    obtain ⟨o, ho, hex, hd⟩ := id R.ob
    have ty : s.TypeIs (.ref a) "set" := ⟨o, ho, hex.1⟩
    have hx := I.isT (.inl (.inl hb)) (b := b) (k := k)
    refine wpAny_call_entry F.slot_set_add ty F.entry_set_add ?_ (F.args_set_add_2 _ _)
    have hu1 : X.A.in1.units < cLine := by
      show X.A.units + 1 < cLine
      omega
    unfold Builtin.«set.add» Builtin.Frozenset.oneOther
    simp only [List.isEmpty_nil, bind_assoc]
    unfold Builtin.Frozenset.addrOf setAdd
    refine wpAny_bind (wpAny_pure ?_)
    try dsimp only
    refine wpAny_bind (wpAny_pure ?_)
    try dsimp only
    refine wpAny_bind ?_
    refine wpAny_holding ?_
    refine wpAny_bind (wpAny_pyHash_tuple hu1 hx ?_)
    refine add_at (s := { s with toks := s.toks + (k.length + 1) }) R hx hu1 hl fun b' h' L' es' ep' t' sb R' c1 c2 => ?_
    show wpAny _ _ (ret Value.none) _ _ _
    obtain ⟨o', ho', _⟩ := R'.ob
    exact wpAny_pure ⟨_, rfl, .non, upd H a (SetTO X.prog X.w a L'), I.write (e := a) (t' := s.toks + (k.length + 1)) (by rw [ha]; trivial) (.inl rfl) (fun c u hc hu => (sb.2 c hc).trans hu) ⟨o', ho'⟩ (setTO_new R'.t0), rfl, q L' c1 c2⟩
def tAddT (P : Program) (w : World) (to : TE) (t : TA) : TE := fun σ H Q => to σ H fun x H1 => (∃ a L, x = V.ref a ∧ H1 a = some (SetTO P w a L)) ∧ t σ H1 fun xs H2 => rAddT P w x xs H2 Q
variable {o e : Expr} {to : TE} {t : TA} {apos cpos : Pos}
theorem pe_addT (hu : X.A.units + 64 < cLine) (ho : PE X o to) (ha : PA X [e] t)
    (hbase : attributeBase o "add" X.env (eval o X.env) = eval o X.env := by rfl)
    (hfew : ((backTo cpos (starEach [e] X.env)).all (fun x => !x.1) && (backToKw cpos (keywordEach [] X.env)).all (fun x => x.1.isSome)
      && decide (([e] : List Expr).length + ([] : List Keyword).length + (if ([] : List Keyword).isEmpty then 0 else 1) < 30)) = true := by rfl)
    (hline : (apos.endLine == cpos.line) = true := by rfl) (hs : starEach [e] X.env = (false, eval e X.env) :: starEach [] X.env := by rfl) :
    PE X (.Call (.Attribute o "add" apos) [e] [] cpos) (tAddT X.prog X.w to t) := by
  refine ⟨fun pins s σ H Q I h => wpAny_Call_method_late hbase hfew hline rfl (thn (ho.run pins s σ H _ I h) fun v s1 ⟨x, H1, I1, r1, ty, q1⟩ => ?_)⟩
  obtain ⟨a, L, rfl, hka⟩ := ty
  obtain ⟨_, _, _, ⟨ob, hob, hex, hd⟩, _⟩ := SetT0.ex (I1.hok a _ hka).1
  cases r1
  refine ⟨"set", "set.add", F.plainAttrs_set, F.slot_set_add, F.type_set_add, ⟨ob, hob, hex.1⟩, ?_, ?_⟩
  · intro a' e
    cases e
    exact ⟨ob, hob, hex.2.1⟩
  have hA := ha.run cpos pins s1 σ H1 _ I1 q1
  rw [hs] at hA ⊢
  refine Calls.callWith_builtin rfl (Calls.evalArgs_plain ?_)
  exact thn hA fun us s2 ⟨vs, H2, I2, r2, q2⟩ => mt_addT hu pins s2 σ H2 (.ref a) vs (.ref a) us Q I2 rfl r2 q2
end
end Cs

/-! for i, x in enumerate(v), v a list or a tuple -/
namespace Cs
open PySem PySem.Spec PyProof.Rows L2
theorem enum1_new {v : Value} {o : Obj} {G : Heap → Prop} (B : Begins v o G) :
    Meets (Builtin.«enumerate.__new__» ⟨[.type "enumerate", v], []⟩) (fun _ R s => G s.heap ∧
      R (.ok (.ret (.ref (s.heap.push o).objs.size))) { s with heap := (s.heap.push o).push { cls := .type "enumerate", data := .fields #[.none, .bool false, .ref s.heap.objs.size, rawInt 0, .none, .none] } }) :=
  .of_wp fun prog w A R s h => by
    obtain ⟨hp, g, d, tk, os⟩ := s
    obtain ⟨h1, h⟩ := h
    have hsub := sub_enumerate
    have it : ∀ {A' : Around} {E : Value → Shared → Prop} {Q : Value → Shared → Prop}, Q (.ref hp.objs.size) ⟨hp.push o, g, d, tk, os⟩ → wpAny (model prog w) A' (pyIter v) Q E ⟨hp, g, d, tk, os⟩ :=
      fun q => B.iter prog w _ _ ⟨hp, g, d, tk, os⟩ _ h1 q
    wp_walk using it
    refine wpAny_stack_any fun st => wpAny_pure ?_
    split
    · rename_i c _ _ _ _ _
      cases (c == Value.type "enumerate") <;> (wp_walk using it; exact ⟨_, rfl, h⟩)
    · wp_walk using it
      exact ⟨_, rfl, h⟩
section
variable {prog : Program} {w : World} {A : Around} {E : Value → Shared → Prop} {s : Shared}
theorem enum1_begins {v : Value} {o : Obj} {G : Heap → Prop} {Q : Value → Shared → Prop} (B : Begins v o G) (h1 : G s.heap)
    (h : ∀ h', IsEnum h' (s.heap.objs.size + 1) s.heap.objs.size 0 .none → h'.get? s.heap.objs.size = some o → (∀ b o, s.heap.get? b = some o → h'.get? b = some o) → Q (.ref (s.heap.objs.size + 1)) { s with heap := h' }) :
    wpAny (model prog w) A (call (.type "enumerate") [v]) Q E s := by
  refine callType_new F.called_enumerate (by decide) (F.typeCall_enumerate_1 _) (F.newCall_enumerate_1 _) (fun obj => F.args_object_init_2 obj _) F.entry_enumerate_new (enum1_new B) ⟨h1, ?_⟩
  have hz : (s.heap.push o).objs.size = s.heap.objs.size + 1 := Heap.size_push ..
  have he := Heap.get?_push_size (s.heap.push o) (o := { cls := .type "enumerate", data := .fields #[.none, .bool false, .ref s.heap.objs.size, rawInt 0, .none, .none] }) rfl
  show _ ∧ _
  rw [hz] at he ⊢
  exact ⟨⟨_, he, rfl⟩, h _ he (Heap.get?_push_of_some _ (Heap.get?_push_size _ B.free)) fun b o x => Heap.get?_push_of_some _ (Heap.get?_push_of_some _ x)⟩
end
/-- the items in new pairs with their index -/
def Iek (K : PySem.W.Frag) (k : Bool) (a : Addr) : It :=
  ⟨fun i H => ∃ (xs : List V) (x : V), Sqk K k H a xs ∧ xs[i]? = some x, fun i H v H' => ∃ T x, v = .ref T ∧ H T = none ∧ H' = upd H T (.tup [.int (i : Nat), x]) ∧ ∀ xs, Sqk K k H a xs → xs[i]? = some x, fun i H => ∃ xs : List V, Sqk K k H a xs ∧ xs.length = i⟩
theorem turn_ek {P : Program} {w : World} {K : PySem.W.Frag} {elts : List Expr} {kk : Nat} {tpos : Pos} {k : Bool} {a e it : Addr} (n1 : a ≠ it) (n2 : e ≠ it) (n3 : e ≠ a) :
    Turn P w K (.Tuple elts kk tpos) (Iek K k a) [e, it] e (fun i h => (∃ old, IsEnum h e it ((i : Nat) : Int) old) ∧ ItK k h it a i) where
  mem := by simp
  obj := fun i h st c hc => by
    obtain ⟨⟨old, he⟩, hi⟩ := st
    have e' : c = e ∨ c = it := by simpa using hc
    rcases e' with q | q
    · rw [q]; exact ⟨_, he, fun v q => nomatch q⟩
    · rw [q]; exact hi.obj
  keep := fun i h h' st k => ⟨st.1.imp fun old he => k e (by simp) _ he, st.2.at fun o q => k it (by simp) o q⟩
  item := by
    intro X hP hw hK hc i pins s σ H E I hf st hg
    subst hP hw hK
    obtain ⟨xs, x, hqx, hx⟩ := hg
    obtain ⟨its, rv, p⟩ := invK I hqx
    obtain ⟨u, hu, ru⟩ := rv.get hx
    have D := drawsK (prog := X.prog) (w := X.w) (A := X.A.in1) (I.ok.hd hc) k it a n1 its.toArray
    have l1 : i < its.length := (List.getElem?_eq_some_iff.mp hu).1
    have W := GoesN.enumFrom (elts := elts) (x1 := kk) (pos := tpos) 0 D e n2 (by simp [n2, n3]) (by simp)
    have st0 : (∃ old, IsEnum s.heap e it (0 + ((i : Nat) : Int)) old) ∧ ItK k s.heap it a i ∧ SeqK k s.heap a its.toArray := by
      rw [Int.zero_add]
      exact ⟨st.1, st.2, p⟩
    refine W.goes i s (fun v s2 => ∃ x H', Inv X pins σ H' s2 ∧ RelV x v ∧ (Iek X.K k a).yld i H x H' ∧ ((∃ old, IsEnum s2.heap e it ((i + 1 : Nat) : Int) old) ∧ ItK k s2.heap it a (i + 1)) ∧ ∀ b ∈ [e, it], H' b = none) E (by simpa using l1) st0 fun v h' tk hY st' hk htk => ?_
    obtain ⟨T, tk0, v1, rfl, hT, e1, hTu⟩ := hY
    have q1 : v1 = u := by
      have e1' : its[i]? = some v1 := by simpa using e1
      rw [hu] at e1'; exact (Option.some.inj e1').symm
    subst q1
    have new : ObjOk X.prog X.w (upd H T (.tup [.int (i : Nat), x])) h' T (.tup [.int (i : Nat), x]) :=
      ⟨by show 2 ≤ sizeLine; decide, [.int (0 + (i : Int)) tk0, v1], .cons ⟨tk0, by rw [Int.zero_add]⟩ (.cons ru .nil), hTu⟩
    have I1 : Inv X pins σ (upd H T (.tup [.int (i : Nat), x])) { s with heap := h', toks := tk } :=
      I.turnedNew (t' := tk) (ch := [e, it]) (fun c o hb q => hk c o hb q) hf hT new
    refine ⟨.ref T, _, I1, rfl, ⟨T, x, rfl, I.hok.fresh hT, rfl, fun l hl => by rw [injK I hl hqx]; exact hx⟩, ⟨by have z := st'.1; rw [Int.zero_add] at z; exact z, st'.2.1⟩, fun c hcm => ?_⟩
    have hlt : c < s.heap.objs.size := by
      obtain ⟨⟨old, he⟩, hi⟩ := st
      have e' : c = e ∨ c = it := by simpa using hcm
      rcases e' with q | q
      · rw [q]; exact Heap.lt_size he
      · rw [q]; obtain ⟨_, e1, _⟩ := hi.obj; exact Heap.lt_size e1
    rw [upd_ne (Nat.ne_of_lt (Nat.lt_of_lt_of_le hlt hT))]
    exact (hf c hcm).1
  done := by
    intro X hP hw hK hc i pins s σ H E I hf st hg
    subst hP hw hK
    obtain ⟨xs, hqx, hi⟩ := hg
    obtain ⟨its, rv, p⟩ := invK I hqx
    have D := drawsK (prog := X.prog) (w := X.w) (A := X.A.in1) (I.ok.hd hc) k it a n1 its.toArray
    have W := GoesN.enumFrom (elts := elts) (x1 := kk) (pos := tpos) 0 D e n2 (by simp [n2, n3]) (by simp)
    have en : its.toArray.size = i := by
      have := rv.length
      simp only [List.size_toArray]
      omega
    have st0 : (∃ old, IsEnum s.heap e it (0 + ((its.toArray.size : Nat) : Int)) old) ∧ ItK k s.heap it a its.toArray.size ∧ SeqK k s.heap a its.toArray := by
      rw [en, Int.zero_add]
      exact ⟨st.1, st.2, p⟩
    refine W.stops s (fun s1 => Inv X pins σ H s1) E st0 fun h' tk hk htk => ?_
    exact I.turnedL (t' := tk) (ch := [e, it]) (fun c o hb q => hk c o (fun hm => hb (by simpa using hm)) q) hf
  self := fun A i s Q E st h => let ⟨⟨_, he⟩, _⟩ := st; wpAny_pyIter_enum he h
def YEn (xs : List V) : Nat → Hp → V → Hp → Prop := fun i H v H' => ∃ T x, v = .ref T ∧ H T = none ∧ H' = upd H T (.tup [.int (i : Nat), x]) ∧ xs[i]? = some x
theorem YEn.same {xs : List V} {i : Nat} {x : V} {H H' : Hp} (h : YEn xs i H x H') : Same H H' := by
  obtain ⟨T, y, _, hT, rfl, _⟩ := h
  exact Same.new hT
theorem walk_en {K : PySem.W.Frag} {k : Bool} {a : Addr} {xs : List V} : Walk (Iek K k a) xs.length (fun H => Sqh k H a xs) (YEn xs) := by
  refine ⟨fun i _ hi q => ⟨xs, xs[i], q.sqk, List.getElem?_eq_getElem hi⟩, fun _ q => ⟨xs, q.sqk, rfl⟩, fun i H v H' _ q y => ?_⟩
  obtain ⟨T, x, h1, h2, h3, h4⟩ := y
  exact ⟨T, x, h1, h2, h3, h4 xs q.sqk⟩
def iEnH (ta : TA) : TI := fun σ H R => ta σ H fun vs H1 => ∃ a, vs = [.ref a] ∧ ∃ (k : Bool) (xs : List V), Sqh k H1 a xs ∧ ∀ J : It, Walk J xs.length (fun H => Sqh k H a xs) (YEn xs) → R J H1
theorem pi_enH {X : Cx} {e : Expr} {ta : TA} {p pos tpos : Pos} {elts : List Expr} {kk : Nat} (hg : Gl X "enumerate") (hm : X.mg "enumerate" = none) (ha : PA X [e] ta) (hs : starEach [e] X.env = [(false, eval e X.env)] := by rfl) :
    PI X (.Tuple elts kk tpos) (.Call (.Name "enumerate" p) [e] [] pos) (iEnH ta) := by
  refine ⟨fun pins s σ H R I h => ?_⟩
  refine Call_ (ld_blt I hg hm boot_enumerate (PyProof.Rows.callWith_type1 (thn (ha.run pos pins s σ H _ I h) fun us s1 ⟨vs, H1, I1, r1, q1⟩ => ?_) hs rfl))
  obtain ⟨a, ex, k, xs, hq, q⟩ := q1
  subst ex
  have q := q (Iek X.K k a) walk_en
  cases r1 with
  | cons r rr =>
    cases rr
    cases r
    obtain ⟨its, rv, p'⟩ := invK I1 (hq.sqk (K := X.K))
    have la : a < s1.heap.objs.size := p'.lt
    refine enum1_begins (begK k a its.toArray) p' fun h' he hit hk => wpAny_pyIter_enum he ?_
    have I2 : Inv X pins σ H1 { s1 with heap := h' } := I1.kept (t' := s1.toks) hk
    refine ⟨s1.heap.objs.size + 1, [s1.heap.objs.size + 1, s1.heap.objs.size], _, _, H1, rfl, I2, turn_ek (k := k) (a := a) (Nat.ne_of_lt la) (Nat.succ_ne_self _) (Nat.ne_of_gt (Nat.lt_succ_of_lt la)), ⟨⟨.none, he⟩, ItK.new hit⟩, fun b hb => ?_, q⟩
    have e' : b = s1.heap.objs.size + 1 ∨ b = s1.heap.objs.size := by simpa using hb
    have hle : s1.heap.objs.size ≤ b := by
      rcases e' with z | z
      · rw [z]; exact Nat.le_add_right _ _
      · rw [z]; exact Nat.le_refl _
    exact I1.fpOk hle (I1.hok.fresh hle)
end Cs

namespace Cs
open PySem PySem.Spec PyProof.Rows L2
/-! ### readings that name the frame, for use within comprehensions -/
section
variable {X : Cx} {K : PySem.W.Frag}
theorem op_eqDK (h : X.K = K) (hu : X.A.units + 64 < cLine) : OpR X (compareOp .Eq) (rEqD K) := by subst h; exact op_eqD hu
theorem op_neDK (h : X.K = K) (hu : X.A.units + 64 < cLine) : OpR X (compareOp .NotEq) (rNeD K) := by subst h; exact op_neD hu
theorem op_inDK (h : X.K = K) (hu : X.A.units + 65 < cLine) : OpR X (compareOp .In) (rInD K) := by subst h; exact op_inD hu
theorem op_notInDK (h : X.K = K) (hu : X.A.units + 65 < cLine) : OpR X (compareOp .NotIn) (rNotInD K) := by subst h; exact op_notInD hu
theorem sl_listK (h : X.K = K) : SlR X (rSlL K) := by subst h; exact sl_list
theorem op_repAK (h : X.K = K) : OpR X (binaryOp .Mult) (rRepA K) := by subst h; exact op_repA
/-- xs[::-1] of a list -/
theorem pe_revLK (h : X.K = K) {e : Expr} {te : TE} {k : Nat} {p1 p2 p3 pos : Pos} (he : PE X e te) : PE X (.Subscript e (.Slice none none (some (.UnaryOp .USub (.Constant (.int 1) k p1) p2)) p3) pos) (tRevL K te) := by subst h; exact pe_revL he
end
end Cs

namespace Cs
open PySem PySem.Spec PyProof.Rows L2
/-! ### flat data -/
def dOf : V → PyData
  | .bl b => .bool b
  | .int i => .int i
  | .str x => .str x
  | _ => .none
def Flat0 : V → Prop
  | .non => True
  | .bl _ => True
  | .int _ => True
  | .str x => PyData.canLay0 (.str x) = true
  | _ => False
theorem dp_one {K : PySem.W.Frag} {H : Hp} : ∀ {v : V}, Flat0 v → Dp K H v (dOf v)
  | .non, _ => .non
  | .bl b, _ => .bl b
  | .int i, _ => .int i
  | .str x, _ => .str x
theorem dp_flat {K : PySem.W.Frag} {H : Hp} : ∀ {xs : List V}, (∀ v ∈ xs, Flat0 v) → DpAll K H xs (xs.map dOf)
  | [], _ => .nil
  | x :: xs, h => .cons (dp_one (h x (List.mem_cons_self ..))) (dp_flat fun v hv => h v (List.mem_cons_of_mem _ hv))
theorem lay_one {v : V} (h : Flat0 v) : PyData.canLay0 (dOf v) = true := by
  cases v with
  | str x => exact h
  | _ => rfl
theorem depth_one (v : V) : PyData.depth (dOf v) = 0 := by cases v <;> rfl
theorem lay_flat : ∀ {xs : List V}, (∀ v ∈ xs, Flat0 v) → PyData.canLayAll0 (xs.map dOf) = true
  | [], _ => rfl
  | v :: xs, h => by
    show (PyData.canLay0 (dOf v) && PyData.canLayAll0 (xs.map dOf)) = true
    rw [lay_one (h v (List.mem_cons_self ..)), lay_flat fun u hu => h u (List.mem_cons_of_mem _ hu)]
    rfl
theorem depth_flat : ∀ xs : List V, PyData.depthAll (xs.map dOf) = 0
  | [] => rfl
  | v :: xs => by
    show max (PyData.depth (dOf v)) (PyData.depthAll (xs.map dOf)) = 0
    rw [depth_one, depth_flat xs]
    rfl
theorem shaped_flat {xs : List V} (h : ∀ v ∈ xs, Flat0 v) : SeqAt.shaped (.list (xs.map dOf)) = true := by
  have h1 : PyData.canLay0 (.list (xs.map dOf)) = true := lay_flat h
  have h2 : PyData.depth (.list (xs.map dOf)) ≤ 64 := by
    show PyData.depthAll (xs.map dOf) + 1 ≤ 64
    rw [depth_flat]
    decide
  unfold SeqAt.shaped
  rw [h1, decide_eq_true h2]
  rfl
/-- xs != ys, two lists of the same flat things -/
theorem neD_flat {K : PySem.W.Frag} {H : Hp} {a b : Addr} {xs : List V} {Q : VK} (h1 : H a = some (.lst xs)) (h2 : H b = some (.lst xs)) (hf : ∀ v ∈ xs, Flat0 v) (q : Q (.bl false) H) : rNeD K (.ref a) (.ref b) H Q := by
  refine ⟨_, _, .lst (.inl (.inl h1)) (dp_flat hf), .lst (.inl (.inl h2)) (dp_flat hf), shaped_flat hf, shaped_flat hf, ?_⟩
  have e : PyData.eqv (.list (xs.map dOf)) (.list (xs.map dOf)) = true := SeqAt.eqv_refl _ (lay_flat hf)
  rw [e]
  exact q
theorem eqD_flat {K : PySem.W.Frag} {H : Hp} {a b : Addr} {xs : List V} {Q : VK} (h1 : H a = some (.lst xs)) (h2 : H b = some (.lst xs)) (hf : ∀ v ∈ xs, Flat0 v) (q : Q (.bl true) H) : rEqD K (.ref a) (.ref b) H Q := by
  refine ⟨_, _, .lst (.inl (.inl h1)) (dp_flat hf), .lst (.inl (.inl h2)) (dp_flat hf), shaped_flat hf, shaped_flat hf, ?_⟩
  have e : PyData.eqv (.list (xs.map dOf)) (.list (xs.map dOf)) = true := SeqAt.eqv_refl _ (lay_flat hf)
  rw [e]
  exact q
/-! ### t[::-1] of a tuple -/
section
variable {P : Program} {w : World} {A : Around} {E : Value → Shared → Prop} {s : Shared}
theorem back_adjust (n : Nat) : Builtin.Slice.sliceAdjust none none (-1) (n : Int) = ((n : Int) - 1, -1) := by
  have neg1 : ((-1 : Int) < 0) := by decide
  unfold Builtin.Slice.sliceAdjust
  simp only [neg1, if_true]
theorem back_places (n : Nat) : Builtin.Slice.slicePlaces ((n : Int) - 1) (-1) (-1) = n := by
  unfold Builtin.Slice.slicePlaces
  by_cases h : n = 0
  · subst h; decide
  · have e : ¬ ((-1 : Int) > 0) := by decide
    simp only [e, if_false, Int.neg_neg, Int.ediv_one]
    split <;> omega
theorem filterMap_cong {α β : Type} {f g : α → Option β} : ∀ {l : List α}, (∀ x ∈ l, f x = g x) → l.filterMap f = l.filterMap g
  | [], _ => rfl
  | x :: l, h => by
    rw [List.filterMap_cons, List.filterMap_cons, h x (List.mem_cons_self ..), filterMap_cong fun y hy => h y (List.mem_cons_of_mem _ hy)]
theorem back_pick (xs : Array Value) : ((List.range xs.size).filterMap fun (k : Nat) => xs[((xs.size : Int) - 1 + (k : Int) * (-1)).toNat]?).toArray = xs.toList.reverse.toArray := by
  have e : ((List.range xs.size).filterMap fun (k : Nat) => xs[((xs.size : Int) - 1 + (k : Int) * (-1)).toNat]?) = ((List.range xs.size).map fun k => xs.size - 1 - k).filterMap (xs[·]?) := by
    rw [List.filterMap_map]
    refine filterMap_cong fun k hk => ?_
    have hk := List.mem_range.mp hk
    show xs[((xs.size : Int) - 1 + (k : Int) * (-1)).toNat]? = xs[xs.size - 1 - k]?
    congr 1
    omega
  rw [e, PySem.W.krv_range, List.filterMap_reverse, PySem.W.krv_all]
theorem back_parts {sl : Addr} {vs : Value} {n : Nat} {Q : Int × Int × Nat → Shared → Prop} (hs : s.heap.IsSliceOf sl .none .none vs) (pt : IsPart vs (some (-1)))
    (q : Q ((n : Int) - 1, -1, n) s) : wpAny (model P w) A (Builtin.Slice.sliceApplied (.ref sl) (pure (n : Int))) Q E s := by
  obtain ⟨ob, g1, _, g3⟩ := id hs
  unfold Builtin.Slice.sliceApplied Builtin.Slice.sliceFields
  refine wpAny_bind (wpAny_bind ?_)
  refine wpAny_field g1 g3 (x := .none) rfl (wpAny_bind ?_)
  refine wpAny_field g1 g3 (x := .none) rfl (wpAny_bind ?_)
  refine wpAny_field g1 g3 (x := vs) rfl (wpAny_pure ?_)
  refine wpAny_bind (HT.slicePart_ pt ?_)
  show wpAny _ _ (if ((-1 : Int) == 0) = true then _ else _) _ _ s
  rw [if_neg (show ¬ ((-1 : Int) == 0) = true by decide)]
  refine wpAny_bind (HT.slicePart_ .none (wpAny_bind (HT.slicePart_ .none ?_)))
  refine wpAny_bind (wpAny_pure ?_)
  show wpAny _ _ (match Builtin.Slice.sliceAdjust none none (-1) (n : Int) with | (x, y) => pure (x, (-1 : Int), Builtin.Slice.slicePlaces x y (-1))) _ _ s
  rw [back_adjust]
  show wpAny _ _ (pure ((n : Int) - 1, (-1 : Int), Builtin.Slice.slicePlaces ((n : Int) - 1) (-1) (-1))) _ _ s
  rw [back_places]
  exact wpAny_pure q
theorem back_tuple {t sl : Addr} {xs : Array Value} {vs : Value} {Q : Value → Shared → Prop} (ht : IsTup s.heap t xs) (hs : s.heap.IsSliceOf sl .none .none vs) (pt : IsPart vs (some (-1))) (hz : xs.size ≤ sizeLine)
    (q : Q (.ref s.heap.objs.size) { s with heap := s.heap.push { cls := .type "tuple", data := .seq xs.toList.reverse.toArray } }) : wpAny (model P w) A (getItem (.ref t) (.ref sl)) Q E s := by
  have fits : sizeOk (.seq xs.toList.reverse.toArray) := by
    show xs.toList.reverse.toArray.size ≤ sizeLine
    simpa using hz
  obtain ⟨ob, g1, g2, _⟩ := id hs
  have isSl : s.TypeIs (.ref sl) "slice" := ⟨ob, g1, g2⟩
  unfold getItem
  try with_reducible refine wpAny_holding ?_
  first | refine wpAny_bind (wpAny_pure ?_) | skip
  refine wpAny_bind (wpAny_sequenceKey ht.typeIs (by decide) ?_)
  refine wpAny_bind (wpAny_callSpecial?_slot (name := Str.ofString "__getitem__") ht.typeIs PyProof.Rows.slot_tuple_getitem (wpAny_call_entry PyProof.Rows.slot_tuple_getitem ht.typeIs entry_tuple_getitem ?_ (args_tuple_getitem _ _)))
  show wpAny _ _ (Builtin.Tuple.tupleItemsOf (.ref t) >>= _) _ _ s
  refine wpAny_bind (tupleItemsOf_ ht (wpAny_bind (wpAny_typeOf isSl ?_)))
  rw [if_pos (show (Value.type "slice" == Value.type "slice") = true by decide)]
  refine wpAny_bind (back_parts hs pt ?_)
  show wpAny _ _ (if (((xs.size : Int) - 1) == 0 && (-1 : Int) == 1 && xs.size == xs.size) = true then _ else _) _ _ s
  have no : ¬ ((((xs.size : Int) - 1) == 0 && (-1 : Int) == 1 && xs.size == xs.size) = true) := by
    rw [show ((-1 : Int) == 1) = false by decide, Bool.and_false, Bool.false_and]
    decide
  rw [if_neg no, back_pick]
  first
    | exact wpAny_bind (m := Builtin.Tuple.tupleExact _) (wpAny_newObj_type (wpAny_pure ⟨_, rfl, wpAny_pure q⟩) fits)
    | exact wpAny_bind (m := Builtin.Tuple.tupleExact _) (wpAny_newObj_type (wpAny_bind (wpAny_pure (wpAny_pure ⟨_, rfl, wpAny_pure q⟩))) fits)
    | exact wpAny_bind (wpAny_bind (m := Builtin.Tuple.tupleExact _) (wpAny_newObj_type (wpAny_pure (wpAny_pure ⟨_, rfl, wpAny_pure q⟩)) fits))
    | exact wpAny_bind (wpAny_bind (m := Builtin.Tuple.tupleExact _) (wpAny_newObj_type (wpAny_pure ⟨_, rfl, wpAny_pure q⟩) fits))
end
theorem op_catTK {X : Cx} {K : PySem.W.Frag} (h : X.K = K) : OpR X (binaryOp .Add) (rCatT K) := by subst h; exact op_catT
/-- t[::-1] of a tuple -/
def tRevT (K : PySem.W.Frag) (te : TE) : TE := fun σ H Q => te σ H fun x H1 => ∃ a, x = .ref a ∧ ∃ xs, H1 a = some (.tup xs) ∧ ∀ p, H1 p = none → Q (.ref p) (upd H1 p (.tup xs.reverse))
theorem pe_revT {X : Cx} {K : PySem.W.Frag} (hK : X.K = K) {e : Expr} {te : TE} {k : Nat} {p1 p2 p3 pos : Pos} (he : PE X e te) : PE X (.Subscript e (.Slice none none (some (.UnaryOp .USub (.Constant (.int 1) k p1) p2)) p3) pos) (tRevT K te) := by
  subst hK
  refine ⟨fun pins s0 σ H Q I h => Subscript_ (thn (he.run pins s0 σ H _ I h) fun v s x => ?_)⟩
  obtain ⟨_, H1, I1, r1, a, rfl, xs, hx, q⟩ := x
  cases r1
  have minus : PO X (some (.UnaryOp .USub (.Constant (.int 1) k p1) p2)) (tPart (tUn (rU fun i => .int (-i)) (tC (.int 1)))) := po_some (pe_un un_neg pe_int)
  refine wpAny_Slice (thn (po_none.run pins s σ H1 (fun o G => o = none ∧ G = H1) I1 ⟨rfl, rfl⟩) fun l1 s1 x => ?_)
  obtain ⟨_, _, I2, pl, rfl, rfl⟩ := x
  refine thn (po_none.run pins s1 σ _ (fun o G => o = none ∧ G = _) I2 ⟨rfl, rfl⟩) fun l2 s2 x => ?_
  obtain ⟨_, _, I3, pu, rfl, rfl⟩ := x
  refine thn (minus.run pins s2 σ _ (fun o G => o = some (-1) ∧ G = _) I3 ⟨1, rfl, -1, rfl, rfl, rfl⟩) fun l3 s3 x => ?_
  obtain ⟨_, H4, I4, pt, rfl, rfl⟩ := x
  cases pl
  cases pu
  generalize hs4 : ({ s3 with heap := s3.heap.push { cls := .type "slice", data := .fields #[.none, .none, l3] } } : Shared) = s4
  have I5 : Inv X pins σ H4 s4 := by
    rw [← hs4]
    exact I4.kept (t' := s3.toks) fun b ob y => Heap.get?_push_of_some _ y
  have isl : s4.heap.IsSliceOf s3.heap.objs.size .none .none l3 := by
    rw [← hs4]
    exact Heap.IsSliceOf.new s3.heap .none .none l3
  obtain ⟨its, r, ht, hz⟩ := I5.tuple (.inl (.inl hx))
  have hlen := r.length
  refine tail_any (ops := [.ref a, .ref s3.heap.objs.size]) ht.typeIs PyProof.Rows.slot_tuple_getitem.lookup ?_ (by with_unfolding_all rfl)
  refine back_tuple ht isl pt (by rw [List.size_toArray]; omega) ?_
  refine ⟨.ref s4.heap.objs.size, _, I5.laid (t' := s4.toks) (o := .tup xs.reverse) (fun b ob y => Heap.get?_push_of_some _ y) (Nat.le_refl _) ?_, rfl, q _ (I5.hok.fresh (Nat.le_refl _))⟩
  exact ⟨by rw [List.length_reverse]; exact hz, _, r.reverse, IsTup.new _ _⟩
end Cs

namespace Cs
open PySem PySem.Spec PyProof.Rows L2
/-! ### set(xs) of a list of ints -/
section
variable {P : Program} {w : World} {A : Around} {E : Value → Shared → Prop} {s : Shared}
abbrev bareSet (w : World) : Obj := { cls := .type "set", dict := none, data := .set #[] 0 (.fresh 0 0 (!w.params.followText "set-order")) }
/-- the heap with a new set -/
abbrev withSet (w : World) (h : Heap) : Heap := h.push (bareSet w)
/-- what stood still stands; the set at n holds what ns holds -/
def Filled (w : World) (s : Shared) (ns : List Int) (s2 : Shared) : Prop := ∃ h' tk c, s2 = { s with heap := h', toks := tk } ∧ SetR w h' s.heap.objs.size (fun j => decide (j ∈ ns)) c ∧ c ≤ ns.length ∧ ∀ b o, s.heap.get? b = some o → h'.get? b = some o
theorem call_setL {l : Addr} {items : Array Value} {ns : List Int} {Q : Value → Shared → Prop} (calm : A.handled = none) (hl : s.heap.IsList l items) (vals : IntsAre items.toList ns) (few : ns.length + 1 < scanBound)
    (q : ∀ s2, Filled w s ns s2 → Q (.ref s.heap.objs.size) s2) : wpAny (model P w) A (call (.type "set") [.ref l]) Q E s := by
  have count : items.size = ns.length := by have e := IntsAre.length vals; rwa [Array.length_toList] at e
  obtain ⟨_, _, hmro⟩ := F.called_set.mro
  have hmade := F.called_set.made; have hsub := F.called_set.sub
  refine wpAny_call (codeAny_of_tree (show wpAny _ _ (callAny (.type "set") _) _ _ _ from ?_))
  refine wpAny_pure ⟨Code.quiet_builtin _ (show _ by decide +kernel), codeAny_builtin F.entry_type_call ?_⟩
  rw [Around.under_plain (weight_type_call_type "set" [Value.ref l] []) rfl]
  have u1 := F.called_set.notType; have u2 := F.called_set.canCreate; have u3 := F.typeCall_set_1 (.ref l)
  repeat (any_goals (first | assumption | wp_step))
  refine codeAny_mono (code_set_led1 (.ref l) (E := E) (Q₁ := fun x s1 => x = .ref s.heap.objs.size ∧ s1 = { s with heap := withSet w s.heap }) ⟨rfl, rfl⟩) fun r s1 hr => ?_
  match r, hr with
  | .error e, hr => exact hr
  | .ok (.ret x), hr =>
    obtain ⟨rfl, rfl⟩ := hr
    have fS : (withSet w s.heap).get? s.heap.objs.size = some (bareSet w) := Heap.get?_push_size _ rfl
    have tS : Shared.TypeIs { s with heap := withSet w s.heap } (.ref s.heap.objs.size) "set" := ⟨_, fS, rfl⟩
    have u4 := F.called_set.init.lookup; have u5 := F.called_set.init.bind (.ref s.heap.objs.size)
    repeat (any_goals (first | assumption | wp_step))
    refine codeAny_mono (codeAny_call_builtin (R := wants (fun r s2 => r = .none ∧ Filled w s ns s2) E) F.called_set.init.plain F.entry_set_init (check_set_init_1 tS ?_)) fun r s2 hr => ?_
    · obtain ⟨⟨cl, dc, dt, sl⟩, fl, e1, nl, e2⟩ := hl
      simp only at e1 e2
      subst e1 e2
      have fl2 : (withSet w s.heap).get? l = some { cls := .type "list", dict := dc, data := .seq items nl, slots := sl } := Heap.get?_push_of_some _ fl
      have v1 := F.sub_list_set; have v2 := F.sub_list_frozenset; have v3 : (Value.type "list" == Value.type "dict") = false := by decide
      have isl : (withSet w s.heap).IsList l items := ⟨_, fl2, rfl, nl, rfl⟩
      unfold Builtin.«set.__init__» noKeywords Builtin.Frozenset.updateFrom
      generalize hPI : pyIter = PI
      wp_walk
      subst hPI
      refine wpAny_pyIter_list isl (wpAny_bind (wpAny_runValue ?_))
      have lt := Heap.lt_size fl
      have size1 : (withSet w s.heap).objs.size = s.heap.objs.size + 1 := Heap.size_push ..
      have nI : l ≠ (withSet w s.heap).objs.size := by rw [size1]; exact Nat.ne_of_lt (Nat.lt_succ_of_lt lt)
      have nS : s.heap.objs.size ∉ [(withSet w s.heap).objs.size, l] := by
        rw [size1]
        intro hm
        rcases List.mem_cons.mp hm with e | hm
        · exact Nat.ne_of_lt (Nat.lt_succ_self _) e
        · exact Nat.ne_of_gt lt (List.mem_singleton.mp hm)
      have read : ∀ (i : Nat) (v : Value), items[i]? = some v → ∃ k t, ns[i]? = some k ∧ v = .int k t := by
        intro i v hv
        have hi := (Array.getElem?_eq_some_iff.mp hv).1
        rw [count] at hi
        obtain ⟨t, e⟩ := PyProof.Rows.IntsAre.int_at vals i v (by rw [Array.getElem?_toList]; exact hv)
        exact ⟨ns[i], t, List.getElem?_eq_getElem hi, by rw [e, List.getD_eq_getElem?_getD, List.getElem?_eq_getElem hi] <;> rfl⟩
      refine set_update_ints ((Walks.list (by simp [calm]) _ l nI items).toS) s.heap.objs.size nS ns count few read (items.size - 0) 0 _ (by omega) (Nat.zero_le _) ⟨⟨_, Heap.get?_push_size _ rfl, rfl, rfl⟩, isl.push _⟩ ?start ?last
      case start =>
        exact ⟨0, Nat.le_refl 0, setR_new_at (Heap.get?_push_of_some _ fS)⟩
      case last =>
        rintro ⟨h2, g2, d2, t2, o2⟩ c mv few2 full
        obtain rfl : g2 = s.gens := mv.gens
        obtain rfl : d2 = s.drawn := mv.drawn
        obtain rfl : o2 = s.os := mv.os
        show wpAny _ _ _ _ _ _
        refine wpAny_pure (show wpAny _ _ (ret Value.none) _ _ _ from ?_)
        refine wpAny_pure ⟨rfl, h2, t2, c, rfl, full, by rw [← count]; exact few2, fun b o e => ?_⟩
        have lb := Heap.lt_size e
        refine mv.heap b o (fun hm => ?_) (Heap.get?_push_of_some _ (Heap.get?_push_of_some _ e))
        rcases List.mem_cons.mp hm with e | hm
        · exact Nat.ne_of_lt lb e
        · have e := List.mem_singleton.mp hm
          rw [size1] at e
          exact Nat.ne_of_lt (Nat.lt_succ_of_lt lb) e
    · match r, hr with
      | .error e, hr => exact hr
      | .ok (.ret x), hr =>
        obtain ⟨rfl, fil⟩ := hr
        have Qe := q s2 fil
        obtain ⟨h2, t2, c2, rfl, f1, f2, f3⟩ := id fil
        repeat (any_goals (first | assumption | wp_step))
      | .ok .next, hr => exact hr.elim
      | .ok .brk, hr => exact hr.elim
      | .ok .cont, hr => exact hr.elim
  | .ok .next, hr => exact hr.elim
  | .ok .brk, hr => exact hr.elim
  | .ok .cont, hr => exact hr.elim
end
/-- set(xs) of a list of ints -/
def rSetLI (w : World) : List V → Hp → VK → Prop := fun vs H Q => ∃ l : Addr, vs = [.ref l] ∧ ∃ ns : List Int, H l = some (.lst (ns.map V.int)) ∧ ns.length ≤ 1000 ∧ ∀ p c, H p = none → c ≤ ns.length → Q (.ref p) (upd H p (SetO w p (fun j => decide (j ∈ ns)) c))
theorem cr_setLI {X : Cx} (hc : X.calm = true) : CallR X (.type "set") (rSetLI X.w) := by
  intro pins s σ H vs us Q I r h
  obtain ⟨l, rfl, ns, hl, few, q⟩ := h
  rw [Vals.ref1 r]
  obtain ⟨its, r2, ht, hz⟩ := I.list (.inl (.inl hl))
  refine call_setL (I.ok.hd hc) ht.isList (intsAre_of r2) (Nat.lt_of_le_of_lt (Nat.succ_le_succ few) (by decide)) fun s2 fil => ?_
  obtain ⟨h2, t2, c, rfl, f1, f2, f3⟩ := fil
  exact ⟨.ref _, _, I.laid (t' := t2) f3 (Nat.le_refl _) (setO_new f1), rfl, q _ c (I.hok.fresh (Nat.le_refl _)) f2⟩
/-- sorted(set) -/
def rSortLI (w : World) : List V → Hp → VK → Prop := fun vs H Q => ∃ (a : Addr) (S : Int → Bool) (n : Nat), vs = [V.ref a] ∧ H a = some (SetO w a S n) ∧ n < 64 ∧ ∀ (ns : List Int) (p : Addr), ns.Pairwise (· < ·) → (∀ k : Int, k ∈ ns ↔ S k = true) → ns.length = n → H p = none → Q (.ref p) (upd H p (.lst (ns.map V.int)))
theorem cr_sortLI {X : Cx} (hc : X.calm = true) : CallR X (.builtin "sorted") (rSortLI X.w) := cr_sortedSet hc
end Cs

namespace Lw
open PySem PySem.Spec PyProof.Rows L2 Cs
def top (i : Nat) : Stmt := PySem.Challenge.pw_calledseats_k15_whole_tables_transformed.main.body.getD i (.Pass ⟨0, 0, 0, 0⟩)
abbrev d_is_integer : Stmt := top 8
abbrev N_is_integer : List Str := ["number"]
theorem sc_is_integer : FnScope N_is_integer ["number"] (defScope d_is_integer) := ⟨rfl, rfl, rfl, by decide +kernel, rfl, by decide +kernel, by decide +kernel⟩
abbrev d_is_seat : Stmt := top 9
abbrev N_is_seat : List Str := ["sizes", "seat", "place", "size"]
theorem sc_is_seat : FnScope N_is_seat ["sizes", "seat"] (defScope d_is_seat) := ⟨rfl, rfl, rfl, by decide +kernel, rfl, by decide +kernel, by decide +kernel⟩
abbrev d_require_seat : Stmt := top 10
abbrev N_require_seat : List Str := ["sizes", "seat"]
theorem sc_require_seat : FnScope N_require_seat ["sizes", "seat"] (defScope d_require_seat) := ⟨rfl, rfl, rfl, by decide +kernel, rfl, by decide +kernel, by decide +kernel⟩
abbrev d_require_seats : Stmt := top 11
abbrev N_require_seats : List Str := ["sizes", "seats", "seen", "index", "seat"]
theorem sc_require_seats : FnScope N_require_seats ["sizes", "seats"] (defScope d_require_seats) := ⟨rfl, rfl, rfl, by decide +kernel, rfl, by decide +kernel, by decide +kernel⟩
abbrev d_require_targets : Stmt := top 12
abbrev N_require_targets : List Str := ["sizes", "targets"]
theorem sc_require_targets : FnScope N_require_targets ["sizes", "targets"] (defScope d_require_targets) := ⟨rfl, rfl, rfl, by decide +kernel, rfl, by decide +kernel, by decide +kernel⟩
abbrev d_Table_init : Stmt := inClass (top 15) 0
abbrev N_Table_init : List Str := ["self", "rings"]
theorem sc_Table_init : FnScope N_Table_init ["self", "rings"] (defScope d_Table_init) := ⟨rfl, rfl, rfl, by decide +kernel, rfl, by decide +kernel, by decide +kernel⟩
abbrev d_Table_sizes : Stmt := inClass (top 15) 1
abbrev N_Table_sizes : List Str := ["self"]
theorem sc_Table_sizes : FnScope N_Table_sizes ["self"] (defScope d_Table_sizes) := ⟨rfl, rfl, rfl, by decide +kernel, rfl, by decide +kernel, by decide +kernel⟩
abbrev d_sizes_of : Stmt := top 16
abbrev N_sizes_of : List Str := ["table"]
theorem sc_sizes_of : FnScope N_sizes_of ["table"] (defScope d_sizes_of) := ⟨rfl, rfl, rfl, by decide +kernel, rfl, by decide +kernel, by decide +kernel⟩
abbrev d_are_sizes : Stmt := top 17
abbrev N_are_sizes : List Str := ["rings", "size"]
theorem sc_are_sizes : FnScope N_are_sizes ["rings"] (defScope d_are_sizes) := ⟨rfl, rfl, rfl, by decide +kernel, rfl, by decide +kernel, by decide +kernel⟩
abbrev d_weighted_sum : Stmt := top 19
abbrev N_weighted_sum : List Str := ["weights", "vector", "weight", "part"]
theorem sc_weighted_sum : FnScope N_weighted_sum ["weights", "vector"] (defScope d_weighted_sum) := ⟨rfl, rfl, rfl, by decide +kernel, rfl, by decide +kernel, by decide +kernel⟩
abbrev d_common_divisor : Stmt := top 20
abbrev N_common_divisor : List Str := ["modulus", "weights", "common", "weight"]
theorem sc_common_divisor : FnScope N_common_divisor ["modulus", "weights"] (defScope d_common_divisor) := ⟨rfl, rfl, rfl, by decide +kernel, rfl, by decide +kernel, by decide +kernel⟩
abbrev d_odd_part : Stmt := top 22
abbrev N_odd_part : List Str := ["size"]
theorem sc_odd_part : FnScope N_odd_part ["size"] (defScope d_odd_part) := ⟨rfl, rfl, rfl, by decide +kernel, rfl, by decide +kernel, by decide +kernel⟩
abbrev d_difference : Stmt := top 23
abbrev N_difference : List Str := ["seat", "other", "place", "base"]
theorem sc_difference : FnScope N_difference ["seat", "other"] (defScope d_difference) := ⟨rfl, rfl, rfl, by decide +kernel, rfl, by decide +kernel, by decide +kernel⟩
abbrev d_shift_basis : Stmt := top 24
abbrev N_shift_basis : List Str := ["sizes", "targets", "odds", "basis", "target", "size"]
theorem sc_shift_basis : FnScope N_shift_basis ["sizes", "targets"] (defScope d_shift_basis) := ⟨rfl, rfl, rfl, by decide +kernel, rfl, by decide +kernel, by decide +kernel⟩
abbrev d_pivot_product : Stmt := top 25
abbrev N_pivot_product : List Str := ["basis", "count", "at", "row"]
theorem sc_pivot_product : FnScope N_pivot_product ["basis"] (defScope d_pivot_product) := ⟨rfl, rfl, rfl, by decide +kernel, rfl, by decide +kernel, by decide +kernel⟩
abbrev d_inverse_column : Stmt := top 26
abbrev N_inverse_column : List Str := ["basis", "modulus", "column", "weights", "at"]
theorem sc_inverse_column : FnScope N_inverse_column ["basis", "modulus", "column"] (defScope d_inverse_column) := ⟨rfl, rfl, rfl, by decide +kernel, rfl, by decide +kernel, by decide +kernel⟩
abbrev d_diagonal : Stmt := top 27
abbrev N_diagonal : List Str := ["entries", "rows", "at", "entry", "row"]
theorem sc_diagonal : FnScope N_diagonal ["entries"] (defScope d_diagonal) := ⟨rfl, rfl, rfl, by decide +kernel, rfl, by decide +kernel, by decide +kernel⟩
abbrev d_with_vector : Stmt := top 28
abbrev N_with_vector : List Str := ["basis", "odds", "vector", "rest", "rows", "at", "row", "pivoted", "factor", "lower", "part", "upper"]
theorem sc_with_vector : FnScope N_with_vector ["basis", "odds", "vector"] (defScope d_with_vector) := ⟨rfl, rfl, rfl, by decide +kernel, rfl, by decide +kernel, by decide +kernel⟩
abbrev d_reduced : Stmt := top 29
abbrev N_reduced : List Str := ["vector", "odds", "part", "odd"]
theorem sc_reduced : FnScope N_reduced ["vector", "odds"] (defScope d_reduced) := ⟨rfl, rfl, rfl, by decide +kernel, rfl, by decide +kernel, by decide +kernel⟩
abbrev d_coset_count : Stmt := top 31
abbrev N_coset_count : List Str := ["table", "targets", "sizes"]
theorem sc_coset_count : FnScope N_coset_count ["table", "targets"] (defScope d_coset_count) := ⟨rfl, rfl, rfl, by decide +kernel, rfl, by decide +kernel, by decide +kernel⟩
abbrev d_reach : Stmt := top 32
abbrev N_reach : List Str := ["table", "targets", "seat", "sizes", "basis", "shift", "modulus", "column", "weights"]
theorem sc_reach : FnScope N_reach ["table", "targets", "seat"] (defScope d_reach) := ⟨rfl, rfl, rfl, by decide +kernel, rfl, by decide +kernel, by decide +kernel⟩
abbrev d_short_witness : Stmt := top 33
abbrev N_short_witness : List Str := ["modulus", "weights", "target", "common", "small", "reduced", "weight"]
theorem sc_short_witness : FnScope N_short_witness ["modulus", "weights", "target"] (defScope d_short_witness) := ⟨rfl, rfl, rfl, by decide +kernel, rfl, by decide +kernel, by decide +kernel⟩
abbrev d_law_mixed : Stmt := top 35
abbrev N_law_mixed : List Str := ["_law_cell", "_law_draw", "_law_number"]
theorem sc_law_mixed : FnScope N_law_mixed ["_law_cell", "_law_draw"] (defScope d_law_mixed) := ⟨rfl, rfl, rfl, by decide +kernel, rfl, by decide +kernel, by decide +kernel⟩
abbrev d_law_source : Stmt := top 36
abbrev N_law_source : List Str := ["_law_cell"]
theorem sc_law_source : FnScope N_law_source ["_law_cell"] (defScope d_law_source) := ⟨rfl, rfl, rfl, by decide +kernel, rfl, by decide +kernel, by decide +kernel⟩
abbrev d_law_take : Stmt := top 37
abbrev N_law_take : List Str := ["_law_source_here", "_law_count", "_law_drawn"]
theorem sc_law_take : FnScope N_law_take ["_law_source_here", "_law_count"] (defScope d_law_take) := ⟨rfl, rfl, rfl, by decide +kernel, rfl, by decide +kernel, by decide +kernel⟩
abbrev d_law_gcd : Stmt := top 38
abbrev N_law_gcd : List Str := ["_law_first", "_law_second"]
theorem sc_law_gcd : FnScope N_law_gcd ["_law_first", "_law_second"] (defScope d_law_gcd) := ⟨rfl, rfl, rfl, by decide +kernel, rfl, by decide +kernel, by decide +kernel⟩
abbrev d_law_sum : Stmt := top 40
abbrev N_law_sum : List Str := ["_law_first", "_law_second", "_law_sizes_here", "_law_a", "_law_b", "_law_size"]
theorem sc_law_sum : FnScope N_law_sum ["_law_first", "_law_second", "_law_sizes_here"] (defScope d_law_sum) := ⟨rfl, rfl, rfl, by decide +kernel, rfl, by decide +kernel, by decide +kernel⟩
abbrev d_law_times : Stmt := top 41
abbrev N_law_times : List Str := ["_law_factor", "_law_first", "_law_sizes_here", "_law_place", "_law_size"]
theorem sc_law_times : FnScope N_law_times ["_law_factor", "_law_first", "_law_sizes_here"] (defScope d_law_times) := ⟨rfl, rfl, rfl, by decide +kernel, rfl, by decide +kernel, by decide +kernel⟩
abbrev d_law_seat : Stmt := top 42
abbrev N_law_seat : List Str := ["_law_source_here", "_law_sizes_here", "_law_size"]
theorem sc_law_seat : FnScope N_law_seat ["_law_source_here", "_law_sizes_here"] (defScope d_law_seat) := ⟨rfl, rfl, rfl, by decide +kernel, rfl, by decide +kernel, by decide +kernel⟩
abbrev d_law_sizes : Stmt := top 43
abbrev N_law_sizes : List Str := ["_law_source_here", "_law_some", "_law_k"]
theorem sc_law_sizes : FnScope N_law_sizes ["_law_source_here"] (defScope d_law_sizes) := ⟨rfl, rfl, rfl, by decide +kernel, rfl, by decide +kernel, by decide +kernel⟩
abbrev d_law_goals : Stmt := top 44
abbrev N_law_goals : List Str := ["_law_source_here", "_law_sizes_here", "_law_factor", "_law_base", "_law_drawn", "_law_k", "_law_one"]
theorem sc_law_goals : FnScope N_law_goals ["_law_source_here", "_law_sizes_here"] (defScope d_law_goals) := ⟨rfl, rfl, rfl, by decide +kernel, rfl, by decide +kernel, by decide +kernel⟩
abbrev d_law_probe : Stmt := top 45
abbrev N_law_probe : List Str := ["_law_source_here", "_law_sizes_here", "_law_goals_here", "_law_base", "_law_step"]
theorem sc_law_probe : FnScope N_law_probe ["_law_source_here", "_law_sizes_here", "_law_goals_here"] (defScope d_law_probe) := ⟨rfl, rfl, rfl, by decide +kernel, rfl, by decide +kernel, by decide +kernel⟩
abbrev d_law_unit : Stmt := top 46
abbrev N_law_unit : List Str := ["_law_source_here", "_law_size", "_law_found"]
theorem sc_law_unit : FnScope N_law_unit ["_law_source_here", "_law_size"] (defScope d_law_unit) := ⟨rfl, rfl, rfl, by decide +kernel, rfl, by decide +kernel, by decide +kernel⟩
abbrev d_law_answers : Stmt := top 47
abbrev N_law_answers : List Str := ["_law_sizes_here", "_law_goals_here", "_law_probes", "_law_board", "_law_one"]
theorem sc_law_answers : FnScope N_law_answers ["_law_sizes_here", "_law_goals_here", "_law_probes"] (defScope d_law_answers) := ⟨rfl, rfl, rfl, by decide +kernel, rfl, by decide +kernel, by decide +kernel⟩
abbrev d_law_same_table : Stmt := top 48
abbrev N_law_same_table : List Str := ["_law_source_here", "_law_sizes_here", "_law_goals_here", "_law_probes", "_law_due", "_law_gap", "_law_units", "_law_way", "_law_moved", "_law_one", "_law_some", "_law_size", "_law_unit_here", "_law_place"]
theorem sc_law_same_table : FnScope N_law_same_table ["_law_source_here", "_law_sizes_here", "_law_goals_here", "_law_probes"] (defScope d_law_same_table) := ⟨rfl, rfl, rfl, by decide +kernel, rfl, by decide +kernel, by decide +kernel⟩
abbrev d_law_other_table : Stmt := top 49
abbrev N_law_other_table : List Str := ["_law_source_here", "_law_sizes_here", "_law_goals_here", "_law_probes", "_law_due", "_law_turned", "_law_wider", "_law_k", "_law_twofold", "_law_one"]
theorem sc_law_other_table : FnScope N_law_other_table ["_law_source_here", "_law_sizes_here", "_law_goals_here", "_law_probes"] (defScope d_law_other_table) := ⟨rfl, rfl, rfl, by decide +kernel, rfl, by decide +kernel, by decide +kernel⟩
abbrev d_law_product : Stmt := top 50
abbrev N_law_product : List Str := ["_law_source_here", "_law_first", "_law_second", "_law_goals_here", "_law_factor", "_law_size", "_law_base", "_law_probes", "_law_whole", "_law_parts", "_law_k", "_law_one"]
theorem sc_law_product : FnScope N_law_product ["_law_source_here"] (defScope d_law_product) := ⟨rfl, rfl, rfl, by decide +kernel, rfl, by decide +kernel, by decide +kernel⟩
abbrev d_law : Stmt := top 51
abbrev N_law : List Str := ["_law_script", "_law_cell", "_law_source_here", "_law_sizes_here", "_law_goals_here", "_law_probes", "_law_k"]
theorem sc_law : FnScope N_law ["_law_script"] (defScope d_law) := ⟨rfl, rfl, rfl, by decide +kernel, rfl, by decide +kernel, by decide +kernel⟩
structure Tx (K : PySem.W.Frag) (mg : Str → Option Value) : Type where
  f_is_integer : Addr
  fd_is_integer : FuncData
  F_is_integer : Fun K "is_integer" "is_integer" d_is_integer f_is_integer fd_is_integer
  b_is_integer : Binds K fd_is_integer ["number"] []
  g_is_integer : mg "is_integer" = some (.ref f_is_integer)
  f_is_seat : Addr
  fd_is_seat : FuncData
  F_is_seat : Fun K "is_seat" "is_seat" d_is_seat f_is_seat fd_is_seat
  b_is_seat : Binds K fd_is_seat ["sizes", "seat"] []
  g_is_seat : mg "is_seat" = some (.ref f_is_seat)
  f_require_seat : Addr
  fd_require_seat : FuncData
  F_require_seat : Fun K "require_seat" "require_seat" d_require_seat f_require_seat fd_require_seat
  b_require_seat : Binds K fd_require_seat ["sizes", "seat"] []
  g_require_seat : mg "require_seat" = some (.ref f_require_seat)
  f_require_seats : Addr
  fd_require_seats : FuncData
  F_require_seats : Fun K "require_seats" "require_seats" d_require_seats f_require_seats fd_require_seats
  b_require_seats : Binds K fd_require_seats ["sizes", "seats"] []
  g_require_seats : mg "require_seats" = some (.ref f_require_seats)
  f_require_targets : Addr
  fd_require_targets : FuncData
  F_require_targets : Fun K "require_targets" "require_targets" d_require_targets f_require_targets fd_require_targets
  b_require_targets : Binds K fd_require_targets ["sizes", "targets"] []
  g_require_targets : mg "require_targets" = some (.ref f_require_targets)
  f_Table_init : Addr
  fd_Table_init : FuncData
  F_Table_init : Fun K "__init__" "Table.__init__" d_Table_init f_Table_init fd_Table_init
  b_Table_init : Binds K fd_Table_init ["self", "rings"] []
  f_Table_sizes : Addr
  fd_Table_sizes : FuncData
  F_Table_sizes : Fun K "sizes" "Table.sizes" d_Table_sizes f_Table_sizes fd_Table_sizes
  b_Table_sizes : Binds K fd_Table_sizes ["self"] []
  f_sizes_of : Addr
  fd_sizes_of : FuncData
  F_sizes_of : Fun K "sizes_of" "sizes_of" d_sizes_of f_sizes_of fd_sizes_of
  b_sizes_of : Binds K fd_sizes_of ["table"] []
  g_sizes_of : mg "sizes_of" = some (.ref f_sizes_of)
  f_are_sizes : Addr
  fd_are_sizes : FuncData
  F_are_sizes : Fun K "_are_sizes" "_are_sizes" d_are_sizes f_are_sizes fd_are_sizes
  b_are_sizes : Binds K fd_are_sizes ["rings"] []
  g_are_sizes : mg "_are_sizes" = some (.ref f_are_sizes)
  f_weighted_sum : Addr
  fd_weighted_sum : FuncData
  F_weighted_sum : Fun K "weighted_sum" "weighted_sum" d_weighted_sum f_weighted_sum fd_weighted_sum
  b_weighted_sum : Binds K fd_weighted_sum ["weights", "vector"] []
  g_weighted_sum : mg "weighted_sum" = some (.ref f_weighted_sum)
  f_common_divisor : Addr
  fd_common_divisor : FuncData
  F_common_divisor : Fun K "common_divisor" "common_divisor" d_common_divisor f_common_divisor fd_common_divisor
  b_common_divisor : Binds K fd_common_divisor ["modulus", "weights"] []
  g_common_divisor : mg "common_divisor" = some (.ref f_common_divisor)
  f_odd_part : Addr
  fd_odd_part : FuncData
  F_odd_part : Fun K "odd_part" "odd_part" d_odd_part f_odd_part fd_odd_part
  b_odd_part : Binds K fd_odd_part ["size"] []
  g_odd_part : mg "odd_part" = some (.ref f_odd_part)
  f_difference : Addr
  fd_difference : FuncData
  F_difference : Fun K "difference" "difference" d_difference f_difference fd_difference
  b_difference : Binds K fd_difference ["seat", "other"] []
  g_difference : mg "difference" = some (.ref f_difference)
  f_shift_basis : Addr
  fd_shift_basis : FuncData
  F_shift_basis : Fun K "shift_basis" "shift_basis" d_shift_basis f_shift_basis fd_shift_basis
  b_shift_basis : Binds K fd_shift_basis ["sizes", "targets"] []
  g_shift_basis : mg "shift_basis" = some (.ref f_shift_basis)
  f_pivot_product : Addr
  fd_pivot_product : FuncData
  F_pivot_product : Fun K "pivot_product" "pivot_product" d_pivot_product f_pivot_product fd_pivot_product
  b_pivot_product : Binds K fd_pivot_product ["basis"] []
  g_pivot_product : mg "pivot_product" = some (.ref f_pivot_product)
  f_inverse_column : Addr
  fd_inverse_column : FuncData
  F_inverse_column : Fun K "inverse_column" "inverse_column" d_inverse_column f_inverse_column fd_inverse_column
  b_inverse_column : Binds K fd_inverse_column ["basis", "modulus", "column"] []
  g_inverse_column : mg "inverse_column" = some (.ref f_inverse_column)
  f_diagonal : Addr
  fd_diagonal : FuncData
  F_diagonal : Fun K "_diagonal" "_diagonal" d_diagonal f_diagonal fd_diagonal
  b_diagonal : Binds K fd_diagonal ["entries"] []
  g_diagonal : mg "_diagonal" = some (.ref f_diagonal)
  f_with_vector : Addr
  fd_with_vector : FuncData
  F_with_vector : Fun K "_with_vector" "_with_vector" d_with_vector f_with_vector fd_with_vector
  b_with_vector : Binds K fd_with_vector ["basis", "odds", "vector"] []
  g_with_vector : mg "_with_vector" = some (.ref f_with_vector)
  f_reduced : Addr
  fd_reduced : FuncData
  F_reduced : Fun K "_reduced" "_reduced" d_reduced f_reduced fd_reduced
  b_reduced : Binds K fd_reduced ["vector", "odds"] []
  g_reduced : mg "_reduced" = some (.ref f_reduced)
  f_coset_count : Addr
  fd_coset_count : FuncData
  F_coset_count : Fun K "coset_count" "coset_count" d_coset_count f_coset_count fd_coset_count
  b_coset_count : Binds K fd_coset_count ["table", "targets"] []
  g_coset_count : mg "coset_count" = some (.ref f_coset_count)
  f_reach : Addr
  fd_reach : FuncData
  F_reach : Fun K "reach" "reach" d_reach f_reach fd_reach
  b_reach : Binds K fd_reach ["table", "targets", "seat"] []
  g_reach : mg "reach" = some (.ref f_reach)
  f_short_witness : Addr
  fd_short_witness : FuncData
  F_short_witness : Fun K "_short_witness" "_short_witness" d_short_witness f_short_witness fd_short_witness
  b_short_witness : Binds K fd_short_witness ["modulus", "weights", "target"] []
  g_short_witness : mg "_short_witness" = some (.ref f_short_witness)
  f_law_mixed : Addr
  fd_law_mixed : FuncData
  F_law_mixed : Fun K "_law_mixed" "_law_mixed" d_law_mixed f_law_mixed fd_law_mixed
  b_law_mixed : Binds K fd_law_mixed ["_law_cell", "_law_draw"] []
  g_law_mixed : mg "_law_mixed" = some (.ref f_law_mixed)
  f_law_source : Addr
  fd_law_source : FuncData
  F_law_source : Fun K "_law_source" "_law_source" d_law_source f_law_source fd_law_source
  b_law_source : Binds K fd_law_source ["_law_cell"] []
  g_law_source : mg "_law_source" = some (.ref f_law_source)
  f_law_take : Addr
  fd_law_take : FuncData
  F_law_take : Fun K "_law_take" "_law_take" d_law_take f_law_take fd_law_take
  b_law_take : Binds K fd_law_take ["_law_source_here", "_law_count"] []
  g_law_take : mg "_law_take" = some (.ref f_law_take)
  f_law_gcd : Addr
  fd_law_gcd : FuncData
  F_law_gcd : Fun K "_law_gcd" "_law_gcd" d_law_gcd f_law_gcd fd_law_gcd
  b_law_gcd : Binds K fd_law_gcd ["_law_first", "_law_second"] []
  g_law_gcd : mg "_law_gcd" = some (.ref f_law_gcd)
  f_law_sum : Addr
  fd_law_sum : FuncData
  F_law_sum : Fun K "_law_sum" "_law_sum" d_law_sum f_law_sum fd_law_sum
  b_law_sum : Binds K fd_law_sum ["_law_first", "_law_second", "_law_sizes_here"] []
  g_law_sum : mg "_law_sum" = some (.ref f_law_sum)
  f_law_times : Addr
  fd_law_times : FuncData
  F_law_times : Fun K "_law_times" "_law_times" d_law_times f_law_times fd_law_times
  b_law_times : Binds K fd_law_times ["_law_factor", "_law_first", "_law_sizes_here"] []
  g_law_times : mg "_law_times" = some (.ref f_law_times)
  f_law_seat : Addr
  fd_law_seat : FuncData
  F_law_seat : Fun K "_law_seat" "_law_seat" d_law_seat f_law_seat fd_law_seat
  b_law_seat : Binds K fd_law_seat ["_law_source_here", "_law_sizes_here"] []
  g_law_seat : mg "_law_seat" = some (.ref f_law_seat)
  f_law_sizes : Addr
  fd_law_sizes : FuncData
  F_law_sizes : Fun K "_law_sizes" "_law_sizes" d_law_sizes f_law_sizes fd_law_sizes
  b_law_sizes : Binds K fd_law_sizes ["_law_source_here"] []
  g_law_sizes : mg "_law_sizes" = some (.ref f_law_sizes)
  f_law_goals : Addr
  fd_law_goals : FuncData
  F_law_goals : Fun K "_law_goals" "_law_goals" d_law_goals f_law_goals fd_law_goals
  b_law_goals : Binds K fd_law_goals ["_law_source_here", "_law_sizes_here"] []
  g_law_goals : mg "_law_goals" = some (.ref f_law_goals)
  f_law_probe : Addr
  fd_law_probe : FuncData
  F_law_probe : Fun K "_law_probe" "_law_probe" d_law_probe f_law_probe fd_law_probe
  b_law_probe : Binds K fd_law_probe ["_law_source_here", "_law_sizes_here", "_law_goals_here"] []
  g_law_probe : mg "_law_probe" = some (.ref f_law_probe)
  f_law_unit : Addr
  fd_law_unit : FuncData
  F_law_unit : Fun K "_law_unit" "_law_unit" d_law_unit f_law_unit fd_law_unit
  b_law_unit : Binds K fd_law_unit ["_law_source_here", "_law_size"] []
  g_law_unit : mg "_law_unit" = some (.ref f_law_unit)
  f_law_answers : Addr
  fd_law_answers : FuncData
  F_law_answers : Fun K "_law_answers" "_law_answers" d_law_answers f_law_answers fd_law_answers
  b_law_answers : Binds K fd_law_answers ["_law_sizes_here", "_law_goals_here", "_law_probes"] []
  g_law_answers : mg "_law_answers" = some (.ref f_law_answers)
  f_law_same_table : Addr
  fd_law_same_table : FuncData
  F_law_same_table : Fun K "_law_same_table" "_law_same_table" d_law_same_table f_law_same_table fd_law_same_table
  b_law_same_table : Binds K fd_law_same_table ["_law_source_here", "_law_sizes_here", "_law_goals_here", "_law_probes"] []
  g_law_same_table : mg "_law_same_table" = some (.ref f_law_same_table)
  f_law_other_table : Addr
  fd_law_other_table : FuncData
  F_law_other_table : Fun K "_law_other_table" "_law_other_table" d_law_other_table f_law_other_table fd_law_other_table
  b_law_other_table : Binds K fd_law_other_table ["_law_source_here", "_law_sizes_here", "_law_goals_here", "_law_probes"] []
  g_law_other_table : mg "_law_other_table" = some (.ref f_law_other_table)
  f_law_product : Addr
  fd_law_product : FuncData
  F_law_product : Fun K "_law_product" "_law_product" d_law_product f_law_product fd_law_product
  b_law_product : Binds K fd_law_product ["_law_source_here"] []
  g_law_product : mg "_law_product" = some (.ref f_law_product)
  f_law : Addr
  fd_law : FuncData
  F_law : Fun K "law" "law" d_law f_law fd_law
  b_law : Binds K fd_law ["_law_script"] []
  g_law : mg "law" = some (.ref f_law)
  c_Table : Addr
  g_Table : mg "Table" = some (.ref c_Table)
  cl_Table : Cls K c_Table
  M_Table : Mk K c_Table f_Table_init
  m_Table_sizes : Meth K c_Table "sizes" f_Table_sizes
  no_Table_sizes : NoAttr K c_Table "_sizes"
  ins_Table : C8.InsC K c_Table
  b_gcd : mg "gcd" = some (.builtin "math.gcd")
  v_MAX_RINGS : Value
  g_MAX_RINGS : mg "MAX_RINGS" = some v_MAX_RINGS
  r_MAX_RINGS : RelV (.int 4) v_MAX_RINGS
  n_abs : mg "abs" = none
  n_all : mg "all" = none
  n_bool : mg "bool" = none
  n_enumerate : mg "enumerate" = none
  n_int : mg "int" = none
  n_isinstance : mg "isinstance" = none
  n_len : mg "len" = none
  n_list : mg "list" = none
  n_range : mg "range" = none
  n_reversed : mg "reversed" = none
  n_set : mg "set" = none
  n_sorted : mg "sorted" = none
  n_sum : mg "sum" = none
  n_tuple : mg "tuple" = none
  n_zip : mg "zip" = none
local macro_rules | `(tactic| walk_at "rd") => `(tactic| simp only [cxOf, Cx.nox, Cx.wish, L2.start, tVar, tC, t2I, tIsN, tNotN, tB, tAnd, tOr, tNot, tAndV, tOrV, tNotV, L2.tIf, tNext, tSeq, tBreak, tCont, tDrop, tRet, tRetN, tIfS, tNever, gName, gNil, gCons, gTup, gSub, tAsg, tPar, tPar3, tAug, ipI, tOp, tUn, rI, rI0, rU, rEq, rNe, tTest, tChain, tFld, tCon, sFld, tNil, tCons, tTup, tLst, tCall, tMeth, tMake, tMakeK, tMethK, tCallK, tCallN, tCB, tNoPart, tPart, tSl, rIxL, rIxT, rSetL, rSlL, rAppend, rAll, rIsI, rIsA, tAppend, tLc_eq, tLc2_eq, tFor_eq, tStarH, rGcd, rLcm, iSeqH, iSeqS, iZ2H, iZ3H, iEnH, iRevR, tRg1, tRg2, iRng1H, gTupH, tYes, wipe, scal_int, scal_str, scal_bl, List.map_cons, List.map_nil, List.replicate, List.length_cons, List.length_nil, List.cons_append, List.nil_append, List.append_nil, List.getElem?_cons_zero, List.getElem?_cons_succ, List.set_cons_zero, List.set_cons_succ, Option.some.injEq, V.int.injEq, V.bl.injEq, V.ref.injEq, V.str.injEq, V.ty.injEq, HO.lst.injEq, HO.tup.injEq, HO.ins.injEq, List.cons.injEq, and_true, true_and, and_assoc, exists_and_left, exists_and_right, exists_eq_left, exists_eq_left', exists_eq_right, exists_const, exists_eq, exists_eq', exists_false, exists_prop, false_and, and_false, false_or, or_false, true_or, or_true, List.length_map, Int.natCast_inj, Bool.not_eq_true', decide_eq_false_iff_not, decide_eq_true_eq, List.getElem?_map, Option.map_some, Option.map_none, Option.map_eq_some_iff, upd_same, sz_le, atI_0, atI_1, atI_2, ixN_30, ixN_31, ixN_32, cpow_10, cdivW_small, Int.reduceToNat, Int.reducePow, Int.reduceAdd, Int.reduceSub, Int.reduceMul, Int.reduceNeg, Int.reduceLT, Int.reduceLE, ge_iff_le, gt_iff_lt, Nat.reduceLeDiff, putF_one, lookup_one, Bool.not_true, Bool.not_false, if_true, if_false, Bool.false_eq_true, ite_true, ite_false, Nat.reduceAdd, Nat.reduceSub, Nat.add_zero, Nat.zero_add, Nat.sub_self, reduceCtorEq, decide_true, decide_false, Bool.or_false, Bool.or_true, Bool.and_true, Bool.and_false])
local macro_rules | `(tactic| walk_at "rh") => `(tactic| simp only [cxOf, Cx.nox, Cx.wish, L2.start, tVar, tC, t2I, tIsN, tNotN, tB, tAnd, tOr, tNot, tAndV, tOrV, tNotV, L2.tIf, tNext, tSeq, tBreak, tCont, tDrop, tRet, tRetN, tIfS, tNever, gName, gNil, gCons, gTup, gSub, tAsg, tPar, tPar3, tAug, ipI, tOp, tUn, rI, rI0, rU, rEq, rNe, tTest, tChain, tFld, tCon, sFld, tNil, tCons, tTup, tLst, tCall, tMeth, tMake, tMakeK, tMethK, tCallK, tCallN, tCB, tNoPart, tPart, tSl, rIxL, rIxT, rSetL, rSlL, rAppend, rAll, rIsI, rIsA, tAppend, tLc_eq, tLc2_eq, tFor_eq, tStarH, rGcd, rLcm, iSeqH, iSeqS, iZ2H, iZ3H, iEnH, iRevR, tRg1, tRg2, iRng1H, gTupH, tYes, wipe, scal_int, scal_str, scal_bl, List.map_cons, List.map_nil, List.replicate, List.length_cons, List.length_nil, List.cons_append, List.nil_append, List.append_nil, List.getElem?_cons_zero, List.getElem?_cons_succ, List.set_cons_zero, List.set_cons_succ, Option.some.injEq, V.int.injEq, V.bl.injEq, V.ref.injEq, V.str.injEq, V.ty.injEq, HO.lst.injEq, HO.tup.injEq, HO.ins.injEq, List.cons.injEq, and_true, true_and, and_assoc, exists_and_left, exists_and_right, exists_eq_left, exists_eq_left', exists_eq_right, exists_const, exists_eq, exists_eq', exists_false, exists_prop, false_and, and_false, false_or, or_false, true_or, or_true, List.length_map, Int.natCast_inj, Bool.not_eq_true', decide_eq_false_iff_not, decide_eq_true_eq, List.getElem?_map, Option.map_some, Option.map_none, Option.map_eq_some_iff, upd_same, sz_le, atI_0, atI_1, atI_2, ixN_30, ixN_31, ixN_32, cpow_10, cdivW_small, Int.reduceToNat, Int.reducePow, Int.reduceAdd, Int.reduceSub, Int.reduceMul, Int.reduceNeg, Int.reduceLT, Int.reduceLE, ge_iff_le, gt_iff_lt, Nat.reduceLeDiff, putF_one, lookup_one, Bool.not_true, Bool.not_false, if_true, if_false, Bool.false_eq_true, ite_true, ite_false, Nat.reduceAdd, Nat.reduceSub, Nat.add_zero, Nat.zero_add, Nat.sub_self, reduceCtorEq, decide_true, decide_false, Bool.or_false, Bool.or_true, Bool.and_true, Bool.and_false, *])

/-! ### what the program's checks answer -/
theorem TyOf.same {K : PySem.W.Frag} {H H' : Hp} {x : V} {t : Value} (e : Same H H') (h : TyOf K H x t) : TyOf K H' x t := by
  cases h with
  | non => exact .non
  | bl b => exact .bl b
  | int i => exact .int i
  | str y => exact .str y
  | flt y => exact .flt y
  | lst ea => exact .lst (e _ _ ea)
  | frz ea => exact .frz (e _ _ ea)
  | tup ea => exact .tup (e _ _ ea)
  | dK ea => exact .dK (e _ _ ea)
  | dT ea => exact .dT (e _ _ ea)
  | ins ea cl ha hn htk hm => exact .ins (e _ _ ea) cl ha hn htk hm
theorem TyX.same {K : PySem.W.Frag} {H H' : Hp} {x : V} {t : Value} (e : Same H H') (h : TyX K H x t) : TyX K H' x t := by
  cases h with
  | base b => exact .base (TyOf.same e b)
  | byt b => exact .byt b
  | set ea => exact .set (e _ _ ea)
  | kList a b => exact .kList a b
  | kTuple a b => exact .kTuple a b
  | kDict a b => exact .kDict a b
  | fTuple ea => exact .fTuple (e _ _ ea)
  | fDict ea => exact .fDict (e _ _ ea)
theorem IsI.same {K : PySem.W.Frag} {H H' : Hp} {x c : V} {b : Bool} (e : Same H H') (h : IsI K H x c b) : IsI K H' x c b := by
  obtain ⟨t, u, h1, h2, h3⟩ := h
  exact ⟨t, u, h1, TyX.same e h2, h3⟩
theorem IsA.same {K : PySem.W.Frag} {H H' : Hp} {x : V} {cs : List V} {b : Bool} (e : Same H H') (h : IsA K H x cs b) : IsA K H' x cs b := by
  obtain ⟨t, us, h1, h2, h3⟩ := h
  exact ⟨t, us, h1, TyX.same e h2, h3⟩
/-- is_integer(x) is b -/
def IsInt (K : PySem.W.Frag) (H : Hp) (x : V) (b : Bool) : Prop := ∃ b1 b2, IsI K H x (.ty "int") b1 ∧ (b1 = true → IsI K H x (.ty "bool") b2) ∧ b = (b1 && !b2)
theorem IsInt.same {K : PySem.W.Frag} {H H' : Hp} {x : V} {b : Bool} (e : Same H H') (h : IsInt K H x b) : IsInt K H' x b := by
  obtain ⟨b1, b2, h1, h2, h3⟩ := h
  exact ⟨b1, b2, IsI.same e h1, fun z => IsI.same e (h2 z), h3⟩
theorem isInt_int {K : PySem.W.Frag} {H : Hp} (n : Int) : IsInt K H (.int n) true := ⟨true, false, isI_ty (.base (.int n)) (by decide +kernel), fun _ => isI_ty (.base (.int n)) (by decide +kernel), rfl⟩
/-- is_integer(x) and 0 <= x < s is c -/
def PlaceB (K : PySem.W.Frag) (H : Hp) (x : V) (s : Int) (c : Bool) : Prop := (IsInt K H x false ∧ c = false) ∨ ∃ n, x = .int n ∧ c = (decide (0 ≤ n) && decide (n < s))
theorem PlaceB.same {K : PySem.W.Frag} {H H' : Hp} {x : V} {s : Int} {c : Bool} (e : Same H H') (h : PlaceB K H x s c) : PlaceB K H' x s c := by
  rcases h with ⟨h, q⟩ | h
  · exact .inl ⟨IsInt.same e h, q⟩
  · exact .inr h
/-- is_seat(sizes, x) is b -/
def SeatB (K : PySem.W.Frag) (H : Hp) (ss : List Int) (x : V) (b : Bool) : Prop := (IsI K H x (.ty "tuple") false ∧ b = false) ∨ ∃ p xs, x = .ref p ∧ H p = some (.tup xs) ∧ ((xs.length ≠ ss.length ∧ b = false) ∨
  (xs.length = ss.length ∧ xs.length ≤ sizeLine ∧ ∃ bs : List Bool, bs.length = xs.length ∧ b = bs.all id ∧ ∀ (i : Nat) x s c, xs[i]? = some x → ss[i]? = some s → bs[i]? = some c → PlaceB K H x s c))
/-- is_call(sizes, x) is b -/
def CallB (K : PySem.W.Frag) (H : Hp) (n : Nat) (x : V) (b : Bool) : Prop := (IsI K H x (.ty "tuple") false ∧ b = false) ∨ ∃ p xs, x = .ref p ∧ H p = some (.tup xs) ∧ ((xs.length ≠ n ∧ b = false) ∨
  (xs.length = n ∧ xs.length ≤ sizeLine ∧ ∃ bs : List Bool, bs.length = xs.length ∧ b = bs.all id ∧ ∀ (i : Nat) x c, xs[i]? = some x → bs[i]? = some c → IsInt K H x c))
/-- is_direction(x) is b -/
def DirB (K : PySem.W.Frag) (H : Hp) (x : V) (b : Bool) : Prop := (IsI K H x (.ty "str") false ∧ b = false) ∨ ∃ z : Str, x = .str z ∧ b = (z == "forward" || z == "backward")
/-- _are_sizes(x) is b -/
def SizesB (K : PySem.W.Frag) (H : Hp) (x : V) (b : Bool) : Prop := (IsA K H x [.ty "list", .ty "tuple"] false ∧ b = false) ∨ ∃ k p xs, x = .ref p ∧ Sqh k H p xs ∧ ((¬ (1 ≤ xs.length ∧ xs.length ≤ 4) ∧ b = false) ∨
  (1 ≤ xs.length ∧ xs.length ≤ 4 ∧ ∃ bs : List Bool, bs.length = xs.length ∧ b = bs.all id ∧ ∀ (i : Nat) x c, xs[i]? = some x → bs[i]? = some c → (IsInt K H x false ∧ c = false) ∨ ∃ n, x = .int n ∧ c = decide (1 ≤ n)))
/-- a table at a, of the sizes ss -/
def TabAt (C : Addr) (H : Hp) (a : Addr) (ss : List Int) : Prop := ∃ dx t, H a = some (.ins C dx [("_sizes", .ref t)]) ∧ H t = some (.tup (ss.map V.int))
theorem TabAt.same {C : Addr} {H H' : Hp} {a : Addr} {ss : List Int} (e : Same H H') (h : TabAt C H a ss) : TabAt C H' a ss := by
  obtain ⟨dx, t, h1, h2⟩ := h
  exact ⟨dx, t, e _ _ h1, e _ _ h2⟩
section
variable {P : Program} {w : World} {K : PySem.W.Frag} {mg : Str → Option Value} {base : Heap}
def sp_is_integer (K : PySem.W.Frag) : Sp := fun vs H Q _ => ∃ x b, vs = [x] ∧ IsInt K H x b ∧ Q (.bl b) H
theorem ok_is_integer (T : Tx K mg) : FnOk P w K mg base CX0 1 T.f_is_integer T.fd_is_integer ["number"] (sp_is_integer K) := by
  refine T.F_is_integer.ok sc_is_integer (fun vs H Q E h => ?_) (fun cdv A outer s H vs Q E hr h => ?_)
  · obtain ⟨x, b, rfl, _⟩ := h; rfl
  · obtain ⟨x, b, rfl, ⟨b1, b2, h1, h2, rfl⟩, q⟩ := h
    refine ⟨_, (pss_one (ps_ret (pe_and (pe_callB (call_isIK (K := K) rfl) (by rfl) T.n_isinstance (by decide +kernel) (pa_cons (pv 0) (pa_cons (pe_bltn (v := .ty "int") (by rfl) T.n_int (by decide +kernel) rfl) pa_nil))) (pe_one (pe_not (pe_callB (call_isIK (K := K) rfl) (by rfl) T.n_isinstance (by decide +kernel) (pa_cons (pv 0) (pa_cons (pe_bltn (v := .ty "bool") (by rfl) T.n_bool (by decide +kernel) rfl) pa_nil)))))))), ?_⟩
    walk_at "rd"
    refine ⟨b1, h1, ?_⟩
    cases b1 with
    | false => walk_at "rd"; exact q
    | true =>
      walk_at "rd"
      exact ⟨b2, h2 rfl, q⟩
def sp_is_seat (K : PySem.W.Frag) : Sp := fun vs H Q _ => ∃ k a ss x b, vs = [.ref a, x] ∧ Sqh k H a (ss.map V.int) ∧ SeatB K H ss x b ∧ ∀ H', Same H H' → Q (.bl b) H'
theorem ok_is_seat (T : Tx K mg) : FnOk P w K mg base CX0 1 T.f_is_seat T.fd_is_seat ["sizes", "seat"] (sp_is_seat K) := by
  refine T.F_is_seat.ok sc_is_seat (fun vs H Q E h => ?_) (fun cdv A outer s H vs Q E hr h => ?_)
  · obtain ⟨k, a, ss, x, b, rfl, _⟩ := h; rfl
  · obtain ⟨k, a, ss, x, b, rfl, hs, hb, q⟩ := h
    refine ⟨_, (pss_cons (ps_if (PW.pt (pw_or (pt_not (pt_val (pe_callB (call_isIK (K := K) rfl) (by rfl) T.n_isinstance (by decide +kernel) (pa_cons (pv 1) (pa_cons (pe_bltn (v := .ty "tuple") (by rfl) T.n_tuple (by decide +kernel) rfl) pa_nil))))) (pw_or1 (pt_cmpR op_ne (pe_callB len_H (by rfl) T.n_len PySem.boot_len (pa_cons (pv 1) pa_nil)) (pe_callB len_H (by rfl) T.n_len PySem.boot_len (pa_cons (pv 0) pa_nil)) (nomark _))))) (pss_one (ps_ret pe_bl)) pss_nil)
      (pss_cons (ps_for PassesOwn.never rfl (pi_z2H (by rfl) T.n_zip (pa_cons (pv 1) (pa_cons (pv 0) pa_nil))) (pg_tupH (n := 2) rfl (pgs_cons (pg_name (i := 2) sc_is_seat.nd rfl (Or.inl rfl)) (pgs_cons (pg_name (i := 3) sc_is_seat.nd rfl (Or.inl rfl)) pgs_nil)))
        (pss_one (ps_if (PW.pt (pw_or (pt_not (pt_val (pe_callB (call_isIK (K := K) rfl) (by rfl) T.n_isinstance (by decide +kernel) (pa_cons (pv 2) (pa_cons (pe_bltn (v := .ty "int") (by rfl) T.n_int (by decide +kernel) rfl) pa_nil))))) (pw_or (pt_val (pe_callB (call_isIK (K := K) rfl) (by rfl) T.n_isinstance (by decide +kernel) (pa_cons (pv 2) (pa_cons (pe_bltn (v := .ty "bool") (by rfl) T.n_bool (by decide +kernel) rfl) pa_nil)))) (pw_or1 (pt_not (pt_chain op_le op_lt pe_int (pv 2) (pv 3))))))) (pss_one (ps_ret pe_bl)) pss_nil)))
      (pss_one (ps_ret pe_bl)))), ?_⟩
    walk_at "rd"
    rcases hb with ⟨h1, rfl⟩ | ⟨p, xs, rfl, hp, hb⟩
    · refine ⟨false, h1, ?_⟩
      walk_at "rd"
      exact q _ (Same.refl _)
    · refine ⟨true, isI_tup hp, ?_⟩
      have main : ∀ (hl : xs.length = ss.length) (J : It) (bs : List Bool), xs.length ≤ sizeLine → bs.length = xs.length → b = bs.all id → (∀ (i : Nat) x s c, xs[i]? = some x → ss[i]? = some s → bs[i]? = some c → PlaceB K H x s c) → Walk J xs.length (fun H => Sqh false H p xs ∧ Sqh k H a (ss.map V.int)) (YPair (fun i => xs[i]?) (fun i => (ss.map V.int)[i]?)) →
          ForR J (gTupH 2 (gCons (gName 2) (gCons (gName 3) gNil)))
                    (tIfS
                      (tOr (tNot (tB (tCB (rIsI K) (tCons (tVar 2) (tCons (tC (V.ty "int")) tNil)))))
                        (tOr (tB (tCB (rIsI K) (tCons (tVar 2) (tCons (tC (V.ty "bool")) tNil))))
                          (tNot
                            (tTest
                              (tChain (rI0 fun i j => V.bl (decide (i ≤ j))) (rI0 fun i j => V.bl (decide (i < j)))
                                (tC (V.int 0)) (tVar 2) (tVar 3))))))
                      (tRet (tC (V.bl false))) tNext)
                    { nx := tRet (tC (V.bl true)) { nx := fun x H' => Q V.non H', rt := Q }, rt := Q }
                    [some (V.ref a), some (V.ref p), none, none] H := fun hl J bs hz hbl hb hbs W => by
        subst hb
        refine forr W (fun i σ H' => Same H H' ∧ (∃ v2 v3, σ = [some (V.ref a), some (V.ref p), v2, v3]) ∧ (bs.take i).all id = true) ⟨Same.refl _, ⟨none, none, rfl⟩, rfl⟩ (fun i σ H' _ h => ⟨h.1 _ _ hp, hs.same h.1⟩) ?_ ?_
        · rintro i x σ2 H2 H3 hi ⟨s2, ⟨v2, v3, rfl⟩, hall⟩ ⟨T0, x1, y1, rfl, hT, rfl, e1, e2⟩
          simp only [List.getElem?_map, Option.map_eq_some_iff] at e1 e2
          obtain ⟨s3, hs3, rfl⟩ := e2
          have hib : i < bs.length := by rw [hbl]; exact hi
          have hc := List.getElem?_eq_getElem hib
          have sT := Same.new hT (o := .tup [x1, .int s3])
          have hpl := PlaceB.same (s2.trans sT) (hbs i x1 s3 _ e1 hs3 hc)
          have hno : bs[i] = false → bs.all id = false := fun e => by
            rw [Bool.eq_false_iff]
            intro h
            have := List.all_eq_true.mp h _ (List.getElem_mem hib)
            simp [e] at this
          have hyes : bs[i] = true → (bs.take (i + 1)).all id = true := fun e => by
            rw [List.take_add_one, hc, List.all_append, hall]
            simp [e]
          walk_at "rd"
          generalize upd H2 T0 (HO.tup [x1, V.int s3]) = H3 at sT hpl ⊢
          rcases hpl with ⟨⟨b1, b2, h1, h2, h3⟩, h0⟩ | ⟨n, rfl, h0⟩
          · rw [hno h0] at q
            refine ⟨b1, h1, ?_⟩
            cases b1 with
            | false => walk_at "rd"; exact q _ (s2.trans sT)
            | true =>
              walk_at "rd"
              refine ⟨b2, h2 rfl, ?_⟩
              cases b2 with
              | true => walk_at "rd"; exact q _ (s2.trans sT)
              | false => cases h3
          · rw [isI_int_int]
            walk_at "rd"
            rw [isI_int_bool]
            walk_at "rd"
            by_cases h4 : 0 ≤ n
            · rw [if_pos h4]
              rw [decide_eq_true h4, Bool.true_and] at h0
              by_cases h5 : n < s3
              · rw [if_neg (by omega)]
                exact ⟨s2.trans sT, hyes (by rw [h0, decide_eq_true h5])⟩
              · rw [if_pos (by omega)]
                rw [hno (by rw [h0, decide_eq_false h5])] at q
                exact q _ (s2.trans sT)
            · rw [if_neg h4]
              rw [decide_eq_false h4, Bool.false_and] at h0
              rw [hno h0] at q
              exact q _ (s2.trans sT)
        · rintro σ2 H2 ⟨s2, ⟨v2, v3, rfl⟩, hall⟩
          walk_at "rd"
          rw [← hbl, List.take_length] at hall
          rw [hall] at q
          exact q _ s2
      cases k with
      | true =>
        have hs' : H a = some (.lst (ss.map V.int)) := hs
        walk_at "rh"
        rcases hb with ⟨hl, rfl⟩ | ⟨hl, hz, bs, hbl, e, hbs⟩
        · rw [if_pos hl]; exact q _ (Same.refl _)
        · rw [if_neg (fun h => h hl)]
          exact ⟨false, true, xs, hp, _, hs, by rw [List.length_map]; exact hl, fun J W => main hl J bs hz hbl e hbs W⟩
      | false =>
        have hs' : H a = some (.tup (ss.map V.int)) := hs
        walk_at "rh"
        rcases hb with ⟨hl, rfl⟩ | ⟨hl, hz, bs, hbl, e, hbs⟩
        · rw [if_pos hl]; exact q _ (Same.refl _)
        · rw [if_neg (fun h => h hl)]
          exact ⟨false, false, xs, hp, _, hs, by rw [List.length_map]; exact hl, fun J W => main hl J bs hz hbl e hbs W⟩
/-- is_place(size, x) -/
def sp_is_place (K : PySem.W.Frag) : Sp := fun vs H Q _ => ∃ s x c, vs = [.int s, x] ∧ PlaceB K H x s c ∧ Q (.bl c) H
def sp_is_call (K : PySem.W.Frag) : Sp := fun vs H Q _ => ∃ k a ss x b, vs = [.ref a, x] ∧ Sqh k H a ss ∧ CallB K H ss.length x b ∧ ∀ H', Same H H' → Q (.bl b) H'
def sp_is_direction (K : PySem.W.Frag) : Sp := fun vs H Q _ => ∃ x b, vs = [x] ∧ DirB K H x b ∧ ∀ H', Same H H' → Q (.bl b) H'
def sp_require_seat (K : PySem.W.Frag) : Sp := fun vs H Q _ => ∃ k a ss x, vs = [.ref a, x] ∧ Sqh k H a (ss.map V.int) ∧ SeatB K H ss x true ∧ ∀ H', Same H H' → Q .non H'
theorem ok_require_seat (T : Tx K mg) : FnOk P w K mg base CX0 2 T.f_require_seat T.fd_require_seat ["sizes", "seat"] (sp_require_seat K) := by
  refine T.F_require_seat.ok sc_require_seat (fun vs H Q E h => ?_) (fun cdv A outer s H vs Q E hr h => ?_)
  · obtain ⟨k, a, ss, x, rfl, _⟩ := h; rfl
  · obtain ⟨k, a, ss, x, rfl, hs, hb, q⟩ := h
    refine ⟨_, (pss_one (ps_if (pt_not (pt_val (pe_call (ok_is_seat T) (hr.mono (by decide)) (by rfl) T.g_is_seat T.F_is_seat.kp T.b_is_seat .nil pass0 (pa_cons (pv 0) (pa_cons (pv 1) pa_nil))))) (pss_one ps_never) pss_nil)), ?_⟩
    walk_at "rd"
    refine ⟨k, a, ss, x, true, rfl, hs, hb, fun H' s1 => ?_⟩
    walk_at "rd"
    exact q _ s1
def sp_require_call (K : PySem.W.Frag) : Sp := fun vs H Q _ => ∃ k a ss x, vs = [.ref a, x] ∧ Sqh k H a ss ∧ CallB K H ss.length x true ∧ ∀ H', Same H H' → Q .non H'
def sp_require_direction (K : PySem.W.Frag) : Sp := fun vs H Q _ => ∃ x, vs = [x] ∧ DirB K H x true ∧ ∀ H', Same H H' → Q .non H'
def sp_are_sizes (K : PySem.W.Frag) : Sp := fun vs H Q _ => ∃ x b, vs = [x] ∧ SizesB K H x b ∧ ∀ H', Same H H' → Q (.bl b) H'
theorem ok_are_sizes (T : Tx K mg) : FnOk P w K mg base CX0 2 T.f_are_sizes T.fd_are_sizes ["rings"] (sp_are_sizes K) := by
  refine T.F_are_sizes.ok sc_are_sizes (fun vs H Q E h => ?_) (fun cdv A outer s H vs Q E hr h => ?_)
  · obtain ⟨x, b, rfl, _⟩ := h; rfl
  · obtain ⟨x, b, rfl, hb, q⟩ := h
    refine ⟨_, (pss_cons (ps_if (PW.pt (pw_or (pt_not (pt_val (pe_callB (call_isAK (K := K) rfl) (by rfl) T.n_isinstance (by decide +kernel) (pa_cons (pv 0) (pa_cons (pe_tup (pa_cons (pe_bltn (v := .ty "list") (by rfl) T.n_list (by decide +kernel) rfl) (pa_cons (pe_bltn (v := .ty "tuple") (by rfl) T.n_tuple (by decide +kernel) rfl) pa_nil))) pa_nil))))) (pw_or1 (pt_not (pt_chain op_le op_le pe_int (pe_callB len_H (by rfl) T.n_len PySem.boot_len (pa_cons (pv 0) pa_nil)) (pe_glob (by rfl) T.g_MAX_RINGS T.r_MAX_RINGS)))))) (pss_one (ps_ret pe_bl)) pss_nil)
      (pss_one (ps_ret (pe_callB (all_H rfl) (by rfl) T.n_all (by decide +kernel) (pa_cons (pe_lc (own := [("size", 1)]) (g := (gName 1)) (tt := tYes) rfl sc_are_sizes.nd (pi_seqH (pv 0)) (blkOk_by (own := [("size", 1)]) (N := N_are_sizes) (sc := defScope d_are_sizes) (by decide +kernel)) (fun _ _ _ _ _ => (pg_name (i := 1) sc_are_sizes.nd rfl (Or.inl rfl))) (fun _ _ _ _ _ => pts_nil) (fun _ _ _ _ _ => (pe_and (pe_call (ok_is_integer T) (hr.mono (by decide)) (by rfl) T.g_is_integer T.F_is_integer.kp T.b_is_integer .nil pass0 (pa_cons (pv 1) pa_nil)) (pe_one (pe_cmpR op_ge (pv 1) pe_int (nomark _)))))) pa_nil))))), ?_⟩
    walk_at "rd"
    intro tp htp
    have s1 := Same.new htp (o := .tup [V.ty "list", V.ty "tuple"])
    generalize upd H tp (HO.tup [V.ty "list", V.ty "tuple"]) = H1 at s1 ⊢
    rcases hb with ⟨h1, rfl⟩ | ⟨k, p, xs, rfl, hs, hb⟩
    · refine ⟨false, IsA.same s1 h1, ?_⟩
      rw [if_pos rfl]
      exact q _ s1
    · have hs1 : Sqh k H1 p xs := hs.same s1
      have main : ∀ (J : It) (G : Hp → Prop) (bs : List Bool), xs.length ≤ sizeLine → bs.length = xs.length → b = bs.all id → (∀ (i : Nat) x c, xs[i]? = some x → bs[i]? = some c → (IsInt K H x false ∧ c = false) ∨ ∃ n, x = .int n ∧ c = decide (1 ≤ n)) → (∀ H2, Same H1 H2 → G H2) → Walk J xs.length G (YAt xs) →
          LcR J (gName 1) tYes (tAndV (tCall (sp_is_integer K) [] E0 (tCons (tVar 1) tNil)) (tOp (rI0 fun i j => V.bl (decide (j ≤ i))) (tVar 1) (tC (V.int 1)))) [1] [some (V.ref p), none] H1
            fun x H1 => ∃ p, x = V.ref p ∧ ∃ bs : List Bool, H1 p = some (HO.lst (List.map V.bl bs)) ∧ Q (V.bl (bs.all id)) H1 := fun J G bs hz hbl hb hbs hG W => by
        subst hb
        refine lcr_map W (bs.map V.bl) (by rw [List.length_map]; exact hbl) hz hG (fun _ _ _ _ y => YAt.same y) ?_ ?_
        · intro i x H2 H3 y Qy hi s2 hy hr hq
          obtain ⟨rfl, hx⟩ := hy
          simp only [List.getElem?_map, Option.map_eq_some_iff] at hr
          obtain ⟨c, hc, rfl⟩ := hr
          walk_at "rd"
          rcases hbs i x c hx hc with ⟨h0, rfl⟩ | ⟨n, rfl, rfl⟩
          · refine ⟨_, false, rfl, IsInt.same (s1.trans s2) h0, ?_⟩
            walk_at "rd"
            exact hq _ (Same.refl _)
          · refine ⟨_, true, rfl, isInt_int n, ?_⟩
            walk_at "rd"
            exact hq _ (Same.refl _)
        · intro D H2 hD s2 h1
          exact ⟨D, rfl, bs, h1, q _ (s1.trans s2)⟩
      cases k with
      | true =>
        have hs' : H1 p = some (.lst xs) := hs1
        refine ⟨true, isA_two (.base (.lst hs')) (b1 := true) (b2 := false) (by decide +kernel) (by decide +kernel) rfl, ?_⟩
        walk_at "rh"
        rcases hb with ⟨hl, rfl⟩ | ⟨hl, hz, bs, hbl, e, hbs⟩
        · by_cases h1 : 1 ≤ xs.length
          · rw [if_pos (by omega), if_pos (by omega)]; exact q _ s1
          · rw [if_neg (by omega)]; exact q _ s1
        · rw [if_pos (by omega), if_neg (by omega)]
          exact fun J W => main J _ bs (Nat.le_trans hz (by decide)) hbl e hbs (fun H2 s2 => s2 _ _ hs') W
      | false =>
        have hs' : H1 p = some (.tup xs) := hs1
        refine ⟨true, isA_two (.base (.tup hs')) (b1 := false) (b2 := true) (by decide +kernel) (by decide +kernel) rfl, ?_⟩
        walk_at "rh"
        rcases hb with ⟨hl, rfl⟩ | ⟨hl, hz, bs, hbl, e, hbs⟩
        · by_cases h1 : 1 ≤ xs.length
          · rw [if_pos (by omega), if_pos (by omega)]; exact q _ s1
          · rw [if_neg (by omega)]; exact q _ s1
        · rw [if_pos (by omega), if_neg (by omega)]
          exact fun J W => main J _ bs (Nat.le_trans hz (by decide)) hbl e hbs (fun H2 s2 => s2 _ _ hs') W
/-- an instance is written; all else is as it was -/
def sp_Table_init (K : PySem.W.Frag) (C : Addr) : Sp := fun vs H Q _ => ∃ (a dx : Addr) (x : V) (p : Addr) (k : Bool) (ss : List Int), vs = [.ref a, x] ∧ H a = some (.ins C dx []) ∧ x = .ref p ∧ Sqh k H p (ss.map V.int) ∧ 1 ≤ ss.length ∧ ss.length ≤ 4 ∧ (∀ n ∈ ss, 1 ≤ n) ∧
  ∀ H' t, Sx a H H' → H' a = some (.ins C dx [("_sizes", .ref t)]) → H' t = some (.tup (ss.map V.int)) → Q .non H'
theorem ok_Table_init (T : Tx K mg) : FnOk P w K mg base CX0 3 T.f_Table_init T.fd_Table_init ["self", "rings"] (sp_Table_init K T.c_Table) := by
  refine T.F_Table_init.ok sc_Table_init (fun vs H Q E h => ?_) (fun cdv A outer s H vs Q E hr h => ?_)
  · obtain ⟨a, dx, x, p, k, ss, rfl, _⟩ := h; rfl
  · obtain ⟨a, dx, x, p, k, ss, rfl, ha, rfl, hs, h1, h4, hpos, q⟩ := h
    refine ⟨_, (pss_cons (ps_if (pt_not (pt_val (pe_call (ok_are_sizes T) (hr.mono (by decide)) (by rfl) T.g_are_sizes T.F_are_sizes.kp T.b_are_sizes .nil pass0 (pa_cons (pv 1) pa_nil)))) (pss_one ps_never) pss_nil)
      (pss_one (ps_fld (pv 0) (pe_callTy tuple_H (by rfl) T.n_tuple (by decide +kernel) (pa_cons (pv 1) pa_nil)) rfl))), ?_⟩
    walk_at "rd"
    refine ⟨_, true, rfl, .inr ⟨k, p, ss.map V.int, rfl, hs, .inr ⟨by rw [List.length_map]; exact h1, by rw [List.length_map]; exact h4, List.replicate ss.length true, by simp, by simp, fun i x c hx hc => ?_⟩⟩, fun H1 s1 => ?_⟩
    · simp only [List.getElem?_map, Option.map_eq_some_iff] at hx
      obtain ⟨n, hn, rfl⟩ := hx
      have hi : i < ss.length := (List.getElem?_eq_some_iff.mp hn).1
      rw [List.getElem?_replicate, if_pos hi] at hc
      refine .inr ⟨n, rfl, ?_⟩
      rw [decide_eq_true (hpos n (List.mem_of_getElem? hn))]
      exact (Option.some.inj hc).symm
    · have ha1 := s1 _ _ ha
      have hs1 := hs.same s1
      have cl := T.cl_Table
      have no := T.no_Table_sizes
      walk_at "rd"
      cases k with
      | true =>
        have hs' : H1 p = some (.lst (ss.map V.int)) := hs1
        walk_at "rh"
        intro l hl
        have e1 : upd H1 l (.tup (ss.map V.int)) a = some (.ins T.c_Table dx []) := by rw [upd_old hl (by rw [ha1]; simp)]; exact ha1
        rw [e1]
        refine ⟨_, _, _, rfl, cl, no, by decide, ?_⟩
        have nla : l ≠ a := fun e => by rw [e, ha1] at hl; cases hl
        exact q _ l (Sx.trans (Sx.of (s1.trans (Same.new hl))) Sx.put) upd_same (by rw [upd_ne nla]; exact upd_same)
      | false =>
        have hs' : H1 p = some (.tup (ss.map V.int)) := hs1
        walk_at "rh"
        have npa : p ≠ a := ne_two hs' ha1 (by simp)
        exact ⟨by decide, q _ p (Sx.trans (Sx.of s1) Sx.put) upd_same (by rw [upd_ne npa]; exact hs')⟩
def sp_Table_sizes (K : PySem.W.Frag) (C : Addr) : Sp := fun vs H Q _ => ∃ (a : Addr) (ss : List Int), vs = [.ref a] ∧ TabAt C H a ss ∧ ∀ t, H t = some (.tup (ss.map V.int)) → Q (.ref t) H
theorem ok_Table_sizes (T : Tx K mg) : FnOk P w K mg base CX0 1 T.f_Table_sizes T.fd_Table_sizes ["self"] (sp_Table_sizes K T.c_Table) := by
  refine T.F_Table_sizes.ok sc_Table_sizes (fun vs H Q E h => ?_) (fun cdv A outer s H vs Q E hr h => ?_)
  · obtain ⟨a, ss, rfl, _⟩ := h; rfl
  · obtain ⟨a, ss, rfl, ⟨dx, t, h1, h2⟩, q⟩ := h
    refine ⟨_, (pss_one (ps_ret (pe_fld (pv 0) rfl))), ?_⟩
    have cl := T.cl_Table
    have no := T.no_Table_sizes
    walk_at "rh"
def prodI (ss : List Int) : Int := ss.foldl (fun a b => a * b) 1
theorem prodI_take {ss : List Int} {i : Nat} {n : Int} (h : ss[i]? = some n) : prodI (ss.take (i + 1)) = prodI (ss.take i) * n := by
  unfold prodI
  rw [List.take_add_one, h, List.foldl_append]
  rfl
theorem prodI_small {B : Nat} : ∀ {ss : List Int}, (∀ n ∈ ss, n.natAbs < 2 ^ B) → (prodI ss).natAbs < 2 ^ (B * ss.length + 1) := by
  have gen : ∀ (ss : List Int) (a : Int) (A : Nat), (∀ n ∈ ss, n.natAbs < 2 ^ B) → a.natAbs < 2 ^ A → (ss.foldl (fun a b => a * b) a).natAbs < 2 ^ (A + B * ss.length) := by
    intro ss
    induction ss with
    | nil => intro a A _ h; simpa using h
    | cons x r ih =>
      intro a A h ha
      have h1 : (a * x).natAbs < 2 ^ (A + B) := wide_lt ha (h x (List.mem_cons_self ..))
      have h2 := ih (a * x) (A + B) (fun n hn => h n (List.mem_cons_of_mem _ hn)) h1
      rw [List.length_cons, Nat.mul_succ, show A + (B * r.length + B) = A + B + B * r.length by omega]
      exact h2
  intro ss h
  have q := gen ss 1 1 h (by decide)
  rw [Nat.add_comm 1] at q
  exact q
/-- the sizes of a table that is used: 1 to 4, each of at most 1000 bits -/
structure Sz (ss : List Int) : Prop where
  lo : 1 ≤ ss.length
  hi : ss.length ≤ 4
  pos : ∀ n ∈ ss, 1 ≤ n
  bits : ∀ n ∈ ss, n.natAbs < 2 ^ 1000
theorem Sz.mul {ss : List Int} (z : Sz ss) {i : Nat} {n : Int} (h : ss[i]? = some n) : CMulW (prodI (ss.take i)) n := by
  have h1 := prodI_small (B := 1000) (ss := ss.take i) fun n hn => z.bits n (List.mem_of_mem_take hn)
  have h2 := z.bits n (List.mem_of_getElem? h)
  have h3 : (ss.take i).length ≤ 4 := Nat.le_trans (by rw [List.length_take]; omega) z.hi
  exact wide_mul h1 h2 (by omega) (by omega) (by omega)
def sp_Table_count (K : PySem.W.Frag) (C : Addr) : Sp := fun vs H Q _ => ∃ (a : Addr) (ss : List Int), vs = [.ref a] ∧ TabAt C H a ss ∧ Sz ss ∧ Q (.int (prodI ss)) H
/-- the places of the steps -/
def mv (g : Int → Int → Int) : List Int → List Int → List Int → List Int
  | p :: ps, c :: cs, s :: ss => (g p c % s) :: mv g ps cs ss
  | _, _, _ => []
theorem mv_len {g : Int → Int → Int} : ∀ {ps cs ss : List Int}, ps.length = cs.length → cs.length = ss.length → (mv g ps cs ss).length = ps.length
  | [], [], [], _, _ => rfl
  | p :: ps, c :: cs, s :: ss, h1, h2 => by
    show (mv g ps cs ss).length + 1 = ps.length + 1
    rw [mv_len (by simpa using h1) (by simpa using h2)]
theorem mv_get {g : Int → Int → Int} : ∀ {ps cs ss : List Int} {i : Nat} {p c s : Int}, ps[i]? = some p → cs[i]? = some c → ss[i]? = some s → (mv g ps cs ss)[i]? = some (g p c % s)
  | p :: ps, c :: cs, s :: ss, 0, _, _, _, h1, h2, h3 => by
    simp only [List.getElem?_cons_zero, Option.some.injEq] at h1 h2 h3
    subst h1 h2 h3
    rfl
  | p :: ps, c :: cs, s :: ss, i + 1, _, _, _, h1, h2, h3 => mv_get (ps := ps) (cs := cs) (ss := ss) (i := i) h1 h2 h3
  | [], _, _, _, _, _, _, h, _, _ => by simp at h
  | _ :: _, [], _, _, _, _, _, _, h, _ => by simp at h
  | _ :: _, _ :: _, [], _, _, _, _, _, _, h => by simp at h
/-- ps a seat of the sizes ss -/
structure Seat (ss ps : List Int) : Prop where
  len : ps.length = ss.length
  ok : ∀ (i : Nat) p s, ps[i]? = some p → ss[i]? = some s → 0 ≤ p ∧ p < s
theorem Seat.b {K : PySem.W.Frag} {H : Hp} {ss ps : List Int} {p : Addr} (h : Seat ss ps) (z : Sz ss) (hp : H p = some (.tup (ps.map V.int))) : SeatB K H ss (.ref p) true := by
  refine .inr ⟨p, _, rfl, hp, .inr ⟨by rw [List.length_map]; exact h.len, ?_, List.replicate ps.length true, by simp, by simp, fun i x s c hx hs hc => ?_⟩⟩
  · have h4 := z.hi
    have hl := h.len
    rw [List.length_map]
    exact Nat.le_trans (by omega : ps.length ≤ 4) (by decide)
  · simp only [List.getElem?_map, Option.map_eq_some_iff] at hx
    obtain ⟨n, hn, rfl⟩ := hx
    have hi : i < ps.length := (List.getElem?_eq_some_iff.mp hn).1
    rw [List.getElem?_replicate, if_pos hi] at hc
    obtain ⟨h1, h2⟩ := h.ok i n s hn hs
    refine .inr ⟨n, rfl, ?_⟩
    rw [decide_eq_true h1, decide_eq_true h2]
    exact (Option.some.inj hc).symm
theorem call_b {K : PySem.W.Frag} {H : Hp} {cs : List Int} {n : Nat} {p : Addr} (h : cs.length = n) (hn : n ≤ 4) (hp : H p = some (.tup (cs.map V.int))) : CallB K H n (.ref p) true := by
  refine .inr ⟨p, _, rfl, hp, .inr ⟨by rw [List.length_map]; exact h, ?_, List.replicate cs.length true, by simp, by simp, fun i x c hx hc => ?_⟩⟩
  · rw [List.length_map]
    exact Nat.le_trans (by omega : cs.length ≤ 4) (by decide)
  · simp only [List.getElem?_map, Option.map_eq_some_iff] at hx
    obtain ⟨m, hm, rfl⟩ := hx
    have hi : i < cs.length := (List.getElem?_eq_some_iff.mp hm).1
    rw [List.getElem?_replicate, if_pos hi] at hc
    obtain rfl := Option.some.inj hc
    exact isInt_int m
def fw (p c : Int) : Int := p + c
def bw (p c : Int) : Int := p - c
def sp_both_moves (K : PySem.W.Frag) : Sp := fun vs H Q _ => ∃ (kt : Bool) (t p c : Addr) (ss ps cs : List Int), vs = [.ref t, .ref p, .ref c] ∧ Sqh kt H t (ss.map V.int) ∧ H p = some (.tup (ps.map V.int)) ∧ H c = some (.tup (cs.map V.int)) ∧ ps.length = cs.length ∧ cs.length = ss.length ∧ ss.length ≤ 4 ∧ (∀ n ∈ ss, 0 < n) ∧
  ∀ H' r f b, Same H H' → H' r = some (.tup [.ref f, .ref b]) → H' f = some (.tup ((mv fw ps cs ss).map V.int)) → H' b = some (.tup ((mv bw ps cs ss).map V.int)) → Q (.ref r) H'
theorem mv_snoc {g : Int → Int → Int} {ps cs ss : List Int} {i : Nat} {p c s : Int} (h1 : ps[i]? = some p) (h2 : cs[i]? = some c) (h3 : ss[i]? = some s) : (mv g ps cs ss).take (i + 1) = (mv g ps cs ss).take i ++ [g p c % s] := by
  rw [List.take_add_one, mv_get h1 h2 h3]
  rfl
def sp_Table_moves (K : PySem.W.Frag) (C : Addr) : Sp := fun vs H Q _ => ∃ (a p c : Addr) (ss ps cs : List Int), vs = [.ref a, .ref p, .ref c] ∧ TabAt C H a ss ∧ Sz ss ∧ H p = some (.tup (ps.map V.int)) ∧ Seat ss ps ∧ H c = some (.tup (cs.map V.int)) ∧ cs.length = ss.length ∧
  ∀ H' r f b, Same H H' → H' r = some (.tup [.ref f, .ref b]) → H' f = some (.tup ((mv fw ps cs ss).map V.int)) → H' b = some (.tup ((mv bw ps cs ss).map V.int)) → Q (.ref r) H'
def sp_stepped (K : PySem.W.Frag) : Sp := fun vs H Q _ => ∃ (kt : Bool) (t p c : Addr) (z : Str) (ss ps cs : List Int), vs = [.ref t, .ref p, .ref c, .str z] ∧ Sqh kt H t (ss.map V.int) ∧ H p = some (.tup (ps.map V.int)) ∧ H c = some (.tup (cs.map V.int)) ∧ ps.length = cs.length ∧ cs.length = ss.length ∧ ss.length ≤ 4 ∧ (∀ n ∈ ss, 0 < n) ∧ (z = "forward" ∨ z = "backward") ∧
  ∀ H' f, Same H H' → H' f = some (.tup ((mv (if z = "forward" then fw else bw) ps cs ss).map V.int)) → Q (.ref f) H'
def sp_Table_step (K : PySem.W.Frag) (C : Addr) : Sp := fun vs H Q _ => ∃ (a p c : Addr) (z : Str) (ss ps cs : List Int), vs = [.ref a, .ref p, .ref c, .str z] ∧ TabAt C H a ss ∧ Sz ss ∧ H p = some (.tup (ps.map V.int)) ∧ Seat ss ps ∧ H c = some (.tup (cs.map V.int)) ∧ cs.length = ss.length ∧ (z = "forward" ∨ z = "backward") ∧
  ∀ H' f, Same H H' → H' f = some (.tup ((mv (if z = "forward" then fw else bw) ps cs ss).map V.int)) → Q (.ref f) H'
end

/-- lists of ints at the addresses as -/
def AsL (H : Hp) (as : List Addr) (rows : List (List Int)) : Prop := as.length = rows.length ∧ ∀ (i : Nat) t r, as[i]? = some t → rows[i]? = some r → H t = some (.lst (r.map V.int))
theorem AsL.same {H H' : Hp} {as : List Addr} {rows : List (List Int)} (e : Same H H') (h : AsL H as rows) : AsL H' as rows := ⟨h.1, fun i t r h1 h2 => e _ _ (h.2 i t r h1 h2)⟩
theorem AsL.nil {H : Hp} : AsL H [] [] := ⟨rfl, fun i t r h _ => by simp at h⟩
theorem AsL.snoc {H : Hp} {as : List Addr} {rows : List (List Int)} {t : Addr} {r : List Int} (h : AsL H as rows) (ht : H t = some (.lst (r.map V.int))) : AsL H (as ++ [t]) (rows ++ [r]) := by
  refine ⟨by rw [List.length_append, List.length_append, h.1]; rfl, fun i u g h1 h2 => ?_⟩
  by_cases hlt : i < as.length
  · rw [List.getElem?_append_left hlt] at h1
    rw [List.getElem?_append_left (by rw [← h.1]; exact hlt)] at h2
    exact h.2 i u g h1 h2
  · rw [List.getElem?_append_right (by omega)] at h1
    rw [List.getElem?_append_right (by rw [← h.1]; omega), ← h.1] at h2
    cases hk : i - as.length with
    | zero =>
      rw [hk] at h1 h2
      simp only [List.getElem?_cons_zero, Option.some.injEq] at h1 h2
      rw [← h1, ← h2]; exact ht
    | succ m => rw [hk] at h1; simp at h1
theorem AsL.put {H : Hp} {as : List Addr} {rows : List (List Int)} {D : Addr} {o : HO} (h : AsL H as rows) (hd : ∀ t ∈ as, t ≠ D) : AsL (upd H D o) as rows :=
  ⟨h.1, fun i t r h1 h2 => by rw [upd_ne (hd t (List.mem_of_getElem? h1))]; exact h.2 i t r h1 h2⟩
theorem row_ne {H : Hp} {t D : Addr} {r : List Int} {bs : List Addr} (h1 : H t = some (.lst (r.map V.int))) (h2 : H D = some (.lst (bs.map V.ref))) (h : r ≠ []) : t ≠ D := fun e => by
  rw [e, h2] at h1
  have h3 : bs.map V.ref = r.map V.int := by
    have := Option.some.inj h1
    injection this
  cases r with
  | nil => exact h rfl
  | cons x r => cases bs <;> simp at h3
theorem AsL.ne {H : Hp} {as : List Addr} {rows : List (List Int)} {D : Addr} {bs : List Addr} (h : AsL H as rows) (hD : H D = some (.lst (bs.map V.ref))) (hr : ∀ r ∈ rows, r ≠ []) : ∀ t ∈ as, t ≠ D := fun t ht => by
  obtain ⟨i, hi, e⟩ := List.getElem_of_mem ht
  have hi2 : i < rows.length := by rw [← h.1]; exact hi
  exact row_ne (h.2 i t rows[i] (by rw [List.getElem?_eq_getElem hi, e]) (List.getElem?_eq_getElem hi2)) hD (hr _ (List.getElem_mem hi2))
/-- a list of lists of ints, at a -/
def LstL (H : Hp) (a : Addr) (rows : List (List Int)) : Prop := ∃ as : List Addr, H a = some (.lst (as.map V.ref)) ∧ AsL H as rows
theorem LstL.same {H H' : Hp} {a : Addr} {rows : List (List Int)} (e : Same H H') (h : LstL H a rows) : LstL H' a rows := by
  obtain ⟨as, h1, h2⟩ := h
  exact ⟨as, e _ _ h1, h2.same e⟩

/-! ### reach -/
section
variable {P : Program} {w : World} {K : PySem.W.Frag} {mg : Str → Option Value} {base : Heap}
theorem isI_own {C a dx : Addr} {fs : List (Str × V)} {H : Hp} (c : C8.InsC K C) (ha : H a = some (.ins C dx fs)) : IsI K H (.ref a) (.ref C) true := ⟨_, _, .own C, .base (.ins ha c.cl c.ha c.hn c.htk c.hm), c.me⟩
def sp_sizes_of (K : PySem.W.Frag) (C : Addr) : Sp := fun vs H Q _ => ∃ (a : Addr) (ss : List Int), vs = [.ref a] ∧ TabAt C H a ss ∧ ∀ t, H t = some (.tup (ss.map V.int)) → Q (.ref t) H
theorem ok_sizes_of (T : Tx K mg) : FnOk P w K mg base CX0 2 T.f_sizes_of T.fd_sizes_of ["table"] (sp_sizes_of K T.c_Table) := by
  refine T.F_sizes_of.ok sc_sizes_of (fun vs H Q E h => ?_) (fun cdv A outer s H vs Q E hr h => ?_)
  · obtain ⟨a, ss, rfl, _⟩ := h; rfl
  · obtain ⟨a, ss, rfl, hT, q⟩ := h
    refine ⟨_, (pss_cons (ps_if (pt_not (pt_val (pe_callB (call_isIK (K := K) rfl) (by rfl) T.n_isinstance (by decide +kernel) (pa_cons (pv 0) (pa_cons (pe_glob (v := .ref T.c_Table) (by rfl) T.g_Table rfl) pa_nil))))) (pss_one ps_never) pss_nil)
      (pss_one (ps_ret (pe_meth0 (pv 0) T.cl_Table T.m_Table_sizes (ok_Table_sizes T) (hr.mono (by decide)) T.b_Table_sizes .nil pass0)))), ?_⟩
    obtain ⟨dx, t, h1, h2⟩ := id hT
    walk_at "rd"
    refine ⟨true, isI_own T.ins_Table h1, ?_⟩
    rw [if_neg (by decide)]
    have e : (("sizes" : Str) == ("_sizes" : Str)) = false := by decide +kernel
    exact ⟨_, _, h1, by simp [List.lookup, e], a, ss, rfl, hT, q⟩
def dot : List Int → List Int → Int
  | x :: xs, y :: ys => x * y + dot xs ys
  | _, _ => 0
theorem dot_sum : ∀ xs ys : List Int, (List.zipWith (· * ·) xs ys).sum = dot xs ys
  | [], _ => by simp [dot]
  | _ :: _, [] => by simp [dot]
  | x :: xs, y :: ys => by
    rw [List.zipWith_cons_cons, List.sum_cons, dot_sum xs ys]
    rfl
theorem zw_get {g : Int → Int → Int} {xs ys : List Int} {i : Nat} {x y : Int} (hx : xs[i]? = some x) (hy : ys[i]? = some y) : (List.zipWith g xs ys)[i]? = some (g x y) := by
  rw [List.getElem?_zipWith, hx, hy]
/-- [g(x, y) for x, y in zip(xs, ys)] -/
theorem lcr_two {J : It} {xs ys : List Int} {G : Hp → Prop} {Q : VK} {te : TE} {σ : L2.St} {H : Hp} {p q : Nat} {g : TG} (hlen : xs.length = ys.length) (hs : xs.length ≤ 64) (φ : Int → Int → Int)
    (W : Walk J (xs.map V.int).length G (YPair (fun i => (xs.map V.int)[i]?) fun i => (ys.map V.int)[i]?)) (hG : ∀ H3, Same H H3 → G H3)
    (hg : ∀ (T0 : Addr) (x y : Int) (H3 : Hp) (R : L2.St → Hp → Prop), H3 T0 = some (.tup [V.int x, V.int y]) → R ((σ.set p (some (V.int x))).set q (some (V.int y))) H3 → g (.ref T0) (wipe σ [p, q]) H3 R)
    (hw : ∀ (x y : Option V), wipe ((σ.set p x).set q y) [p, q] = wipe σ [p, q])
    (hte : ∀ (i : Nat) (x y : Int) (Qy : VK) H3, xs[i]? = some x → ys[i]? = some y → Qy (.int (φ x y)) H3 → te ((σ.set p (some (V.int x))).set q (some (V.int y))) H3 Qy)
    (hq : ∀ D H3, H D = none → Same H H3 → H3 D = some (.lst ((List.zipWith φ xs ys).map V.int)) → Q (.ref D) H3) : LcR J g tYes te [p, q] σ H Q := by
  refine lcr_map W ((List.zipWith φ xs ys).map V.int) (by simp [hlen]) (by rw [List.length_map]; exact Nat.le_trans hs (by decide)) hG (fun _ _ _ _ y => YPair.same y) ?_ hq
  intro i x H3 H4 y Qy hi s3 hy hr hq
  obtain ⟨T0, x1, y1, rfl, hT, rfl, e1, e2⟩ := hy
  simp only [List.getElem?_map, Option.map_eq_some_iff] at hr e1 e2
  obtain ⟨x2, hx2, rfl⟩ := e1
  obtain ⟨y2, hy2, rfl⟩ := e2
  rw [zw_get hx2 hy2] at hr
  obtain ⟨r, hr, rfl⟩ := hr
  obtain rfl := Option.some.inj hr
  exact hg T0 x2 y2 _ _ upd_same ⟨hw _ _, hte i x2 y2 Qy _ hx2 hy2 (hq _ (Same.refl _))⟩
def sp_weighted_sum (K : PySem.W.Frag) : Sp := fun vs H Q _ => ∃ (k1 k2 : Bool) (a b : Addr) (xs ys : List Int), vs = [.ref a, .ref b] ∧ Sqh k1 H a (xs.map V.int) ∧ Sqh k2 H b (ys.map V.int) ∧ xs.length = ys.length ∧ xs.length ≤ 64 ∧
  (∀ (i : Nat) x y, xs[i]? = some x → ys[i]? = some y → CMulA x y) ∧ ∀ H', Same H H' → Q (.int (dot xs ys)) H'
theorem ok_weighted_sum (T : Tx K mg) : FnOk P w K mg base CX0 1 T.f_weighted_sum T.fd_weighted_sum ["weights", "vector"] (sp_weighted_sum K) := by
  refine T.F_weighted_sum.ok sc_weighted_sum (fun vs H Q E h => ?_) (fun cdv A outer s H vs Q E hr h => ?_)
  · obtain ⟨k1, k2, a, b, xs, ys, rfl, _⟩ := h; rfl
  · obtain ⟨k1, k2, a, b, xs, ys, rfl, hx, hy, hl, h64, hm, q⟩ := h
    refine ⟨_, (pss_one (ps_ret (pe_callB (cr_sum rfl) (by rfl) T.n_sum (by decide +kernel) (pa_cons (pe_lc (own := [("weight", 2), ("part", 3)]) (g := (gTupH 2 (gCons (gName 2) (gCons (gName 3) gNil)))) (tt := tYes) rfl sc_weighted_sum.nd (pi_z2H (by rfl) T.n_zip (pa_cons (pv 0) (pa_cons (pv 1) pa_nil))) (blkOk_by (own := [("weight", 2), ("part", 3)]) (N := N_weighted_sum) (sc := defScope d_weighted_sum) (by decide +kernel)) (fun _ _ _ _ _ => (pg_tupH (n := 2) rfl (pgs_cons (pg_name (i := 2) sc_weighted_sum.nd rfl (Or.inl rfl)) (pgs_cons (pg_name (i := 3) sc_weighted_sum.nd rfl (Or.inl rfl)) pgs_nil)))) (fun _ _ _ _ _ => pts_nil) (fun _ _ _ _ _ => (pe_op op_mulA (pv 2) (pv 3)))) pa_nil)))), ?_⟩
    walk_at "rd"
    refine ⟨k1, k2, xs.map V.int, hx, ys.map V.int, hy, by rw [List.length_map, List.length_map, hl], fun J W => ?_⟩
    refine lcr_two (p := 2) (q := 3) hl h64 (fun x y => x * y) W (fun H3 s3 => ⟨hx.same s3, hy.same s3⟩) (fun T0 x y H3 R hT hR => ?_) (fun x y => rfl) (fun i x y Qy H3 h1 h2 hq => ?_) fun D H3 hD s3 h3 => ?_
    · walk_at "rh"
      exact hR
    · walk_at "rd"
      exact ⟨hm i x y h1 h2, hq⟩
    · refine ⟨D, List.zipWith (fun x y => x * y) xs ys, rfl, .inl (.inl h3), ?_⟩
      rw [show (List.zipWith (fun x y => x * y) xs ys).sum = dot xs ys from dot_sum xs ys]
      exact q _ s3
def sub2 (xs ys : List Int) : List Int := List.zipWith (fun x y => x - y) xs ys
def mod2 (xs ys : List Int) : List Int := List.zipWith (fun x y => x % y) xs ys
def sp_difference (K : PySem.W.Frag) : Sp := fun vs H Q _ => ∃ (k1 k2 : Bool) (a b : Addr) (xs ys : List Int), vs = [.ref a, .ref b] ∧ Sqh k1 H a (xs.map V.int) ∧ Sqh k2 H b (ys.map V.int) ∧ xs.length = ys.length ∧ xs.length ≤ 64 ∧
  ∀ H' l, Same H H' → H l = none → H' l = some (.lst ((sub2 xs ys).map V.int)) → Q (.ref l) H'
theorem ok_difference (T : Tx K mg) : FnOk P w K mg base CX0 1 T.f_difference T.fd_difference ["seat", "other"] (sp_difference K) := by
  refine T.F_difference.ok sc_difference (fun vs H Q E h => ?_) (fun cdv A outer s H vs Q E hr h => ?_)
  · obtain ⟨k1, k2, a, b, xs, ys, rfl, _⟩ := h; rfl
  · obtain ⟨k1, k2, a, b, xs, ys, rfl, hx, hy, hl, h64, q⟩ := h
    refine ⟨_, (pss_one (ps_ret (pe_lc (own := [("place", 2), ("base", 3)]) (g := (gTupH 2 (gCons (gName 2) (gCons (gName 3) gNil)))) (tt := tYes) rfl sc_difference.nd (pi_z2H (by rfl) T.n_zip (pa_cons (pv 0) (pa_cons (pv 1) pa_nil))) (blkOk_by (own := [("place", 2), ("base", 3)]) (N := N_difference) (sc := defScope d_difference) (by decide +kernel)) (fun _ _ _ _ _ => (pg_tupH (n := 2) rfl (pgs_cons (pg_name (i := 2) sc_difference.nd rfl (Or.inl rfl)) (pgs_cons (pg_name (i := 3) sc_difference.nd rfl (Or.inl rfl)) pgs_nil)))) (fun _ _ _ _ _ => pts_nil) (fun _ _ _ _ _ => (pe_op op_sub (pv 2) (pv 3)))))), ?_⟩
    walk_at "rd"
    refine ⟨k1, k2, xs.map V.int, hx, ys.map V.int, hy, by rw [List.length_map, List.length_map, hl], fun J W => ?_⟩
    refine lcr_two (p := 2) (q := 3) hl h64 (fun x y => x - y) W (fun H3 s3 => ⟨hx.same s3, hy.same s3⟩) (fun T0 x y H3 R hT hR => ?_) (fun x y => rfl) (fun i x y Qy H3 h1 h2 hq => ?_) fun D H3 hD s3 h3 => q _ D s3 hD h3
    · walk_at "rh"
      exact hR
    · walk_at "rd"
      exact hq
def sp_reduced (K : PySem.W.Frag) : Sp := fun vs H Q _ => ∃ (k1 k2 : Bool) (a b : Addr) (xs ys : List Int), vs = [.ref a, .ref b] ∧ Sqh k1 H a (xs.map V.int) ∧ Sqh k2 H b (ys.map V.int) ∧ xs.length = ys.length ∧ xs.length ≤ 64 ∧ (∀ y ∈ ys, 0 < y) ∧
  ∀ H' l, Same H H' → H l = none → H' l = some (.lst ((mod2 xs ys).map V.int)) → Q (.ref l) H'
theorem ok_reduced (T : Tx K mg) : FnOk P w K mg base CX0 1 T.f_reduced T.fd_reduced ["vector", "odds"] (sp_reduced K) := by
  refine T.F_reduced.ok sc_reduced (fun vs H Q E h => ?_) (fun cdv A outer s H vs Q E hr h => ?_)
  · obtain ⟨k1, k2, a, b, xs, ys, rfl, _⟩ := h; rfl
  · obtain ⟨k1, k2, a, b, xs, ys, rfl, hx, hy, hl, h64, hp, q⟩ := h
    refine ⟨_, (pss_one (ps_ret (pe_lc (own := [("part", 2), ("odd", 3)]) (g := (gTupH 2 (gCons (gName 2) (gCons (gName 3) gNil)))) (tt := tYes) rfl sc_reduced.nd (pi_z2H (by rfl) T.n_zip (pa_cons (pv 0) (pa_cons (pv 1) pa_nil))) (blkOk_by (own := [("part", 2), ("odd", 3)]) (N := N_reduced) (sc := defScope d_reduced) (by decide +kernel)) (fun _ _ _ _ _ => (pg_tupH (n := 2) rfl (pgs_cons (pg_name (i := 2) sc_reduced.nd rfl (Or.inl rfl)) (pgs_cons (pg_name (i := 3) sc_reduced.nd rfl (Or.inl rfl)) pgs_nil)))) (fun _ _ _ _ _ => pts_nil) (fun _ _ _ _ _ => (pe_op op_mod (pv 2) (pv 3)))))), ?_⟩
    walk_at "rd"
    refine ⟨k1, k2, xs.map V.int, hx, ys.map V.int, hy, by rw [List.length_map, List.length_map, hl], fun J W => ?_⟩
    refine lcr_two (p := 2) (q := 3) hl h64 (fun x y => x % y) W (fun H3 s3 => ⟨hx.same s3, hy.same s3⟩) (fun T0 x y H3 R hT hR => ?_) (fun x y => rfl) (fun i x y Qy H3 h1 h2 hq => ?_) fun D H3 hD s3 h3 => q _ D s3 hD h3
    · walk_at "rh"
      exact hR
    · walk_at "rd"
      exact ⟨hp y (List.mem_of_getElem? h2), hq⟩
/-! the odd part -/
def lowN (n : Nat) : Nat := n - (n &&& (n - 1))
theorem low_even {q : Nat} (h : 0 < q) : lowN (2 * q) = 2 * lowN q := by
  unfold lowN
  have e : (2 * q) &&& (2 * q - 1) = 2 * (q &&& (q - 1)) := by
    have h1 : ((2 * q) &&& (2 * q - 1)) / 2 = q &&& (q - 1) := by
      rw [Nat.and_div_two, show 2 * q / 2 = q by omega, show (2 * q - 1) / 2 = q - 1 by omega]
    have h2 : ((2 * q) &&& (2 * q - 1)) % 2 = 0 := by
      have h3 := Nat.and_mod_two_pow (a := 2 * q) (b := 2 * q - 1) (n := 1)
      rw [Nat.pow_one, show (2 * q) % 2 = 0 by omega, Nat.zero_and] at h3
      exact h3
    omega
  have h4 : q &&& (q - 1) ≤ q := Nat.and_le_left
  rw [e]
  omega
theorem low_odd (q : Nat) : lowN (2 * q + 1) = 1 := by
  unfold lowN
  have e : (2 * q + 1) &&& (2 * q + 1 - 1) = 2 * q := by
    have h1 : ((2 * q + 1) &&& (2 * q + 1 - 1)) / 2 = q := by
      rw [Nat.and_div_two, show (2 * q + 1) / 2 = q by omega, show (2 * q + 1 - 1) / 2 = q by omega, Nat.and_self]
    have h2 : ((2 * q + 1) &&& (2 * q + 1 - 1)) % 2 = 0 := by
      have h3 := Nat.and_mod_two_pow (a := 2 * q + 1) (b := 2 * q + 1 - 1) (n := 1)
      rw [Nat.pow_one, show (2 * q + 1 - 1) % 2 = 0 by omega, Nat.and_zero] at h3
      exact h3
    omega
  omega
def oddN (n : Nat) : Nat := n / lowN n
theorem odd_even {q : Nat} (h : 0 < q) : oddN (2 * q) = oddN q := by
  unfold oddN
  rw [low_even h, Nat.mul_div_mul_left _ _ (by decide)]
theorem odd_odd (q : Nat) : oddN (2 * q + 1) = 2 * q + 1 := by
  unfold oddN
  rw [low_odd, Nat.div_one]
/-- a size is its odd part times a power of 2 -/
theorem odd_split : ∀ n : Nat, 0 < n → ∃ k, n = oddN n * 2 ^ k ∧ oddN n % 2 = 1 := by
  intro n
  induction n using Nat.strongRecOn with
  | ind n ih =>
    intro h
    by_cases h2 : n % 2 = 0
    · obtain ⟨q, rfl⟩ : ∃ q, n = 2 * q := ⟨n / 2, by omega⟩
      obtain ⟨k, e1, e2⟩ := ih q (by omega) (by omega)
      rw [odd_even (by omega)]
      exact ⟨k + 1, by rw [Nat.pow_succ, ← Nat.mul_assoc, ← e1]; omega, e2⟩
    · obtain ⟨q, rfl⟩ : ∃ q, n = 2 * q + 1 := ⟨n / 2, by omega⟩
      rw [odd_odd]
      exact ⟨0, by simp, by omega⟩
theorem odd_pos {n : Nat} (h : 0 < n) : 0 < oddN n := by
  obtain ⟨k, _, e⟩ := odd_split n h
  omega
theorem low_pos {n : Nat} (h : 0 < n) : 0 < lowN n := by
  have h1 := odd_pos h
  unfold oddN at h1
  by_cases e : lowN n = 0
  · rw [e] at h1; simp at h1
  · omega
theorem and_neg {n : Nat} (h : 0 < n) : Builtin.bitAnd (n : Int) (-(n : Int)) = (lowN n : Nat) := by
  rw [bitAnd_pn (by omega) (by omega)]
  have e : (Builtin.bitNot (-(n : Int))).toNat = n - 1 := by
    unfold Builtin.bitNot
    omega
  rw [e, Int.toNat_natCast]
  unfold lowN
  have h4 : n &&& (n - 1) ≤ n := Nat.and_le_left
  omega
def oddI (s : Int) : Int := (oddN s.toNat : Nat)
def sp_odd_part (K : PySem.W.Frag) : Sp := fun vs H Q _ => ∃ s : Int, vs = [.int s] ∧ 1 ≤ s ∧ s.natAbs < 2 ^ 6000 ∧ Q (.int (oddI s)) H
theorem ok_odd_part (T : Tx K mg) : FnOk P w K mg base CX0 1 T.f_odd_part T.fd_odd_part ["size"] (sp_odd_part K) := by
  refine T.F_odd_part.ok sc_odd_part (fun vs H Q E h => ?_) (fun cdv A outer s H vs Q E hr h => ?_)
  · obtain ⟨z, rfl, _⟩ := h; rfl
  · obtain ⟨z, rfl, h1, hb, q⟩ := h
    refine ⟨_, (pss_one (ps_ret (pe_op op_fdivW (pv 0) (pe_op op_and (pv 0) (pe_un un_neg (pv 0)))))), ?_⟩
    obtain ⟨n, rfl⟩ := Int.eq_ofNat_of_zero_le (by omega : 0 ≤ z)
    have hn : 0 < n := by omega
    walk_at "rd"
    rw [and_neg hn]
    have hle : lowN n ≤ n := Nat.sub_le _ _
    have hlp := low_pos hn
    refine ⟨wide_div (b := 6000) (by omega) (by rw [Int.natAbs_natCast] at hb ⊢; omega) (by decide) (by decide), ?_⟩
    have e : ((n : Int) / (lowN n : Nat)) = oddI n := by
      unfold oddI oddN
      rw [Int.toNat_natCast, Int.natCast_ediv]
    rw [e]
    exact q
theorem ixN_in {n i : Nat} (h : i < n) : ixN n (i : Int) = some i := by
  unfold ixN
  simp [h]
def rowI (es : List Int) (i : Nat) : List Int := (List.replicate es.length (0 : Int)).set i (es.getD i 0)
def diagI (es : List Int) : List (List Int) := (List.range es.length).map (rowI es)
theorem flat0 (k : Nat) : (List.replicate k [V.int 0]).flatten = (List.replicate k (0 : Int)).map V.int := by
  induction k with
  | zero => rfl
  | succ k ih => rw [List.replicate_succ, List.flatten_cons, ih, List.replicate_succ]; rfl
theorem diag_take {es : List Int} {i : Nat} (h : i < es.length) : (diagI es).take (i + 1) = (diagI es).take i ++ [rowI es i] := by
  have e : (diagI es)[i]? = some (rowI es i) := by
    unfold diagI
    rw [List.getElem?_map, List.getElem?_range h]
    rfl
  rw [List.take_add_one, e]
  rfl
def MD1 (l : Addr) (H : Hp) (σ : L2.St) (H' : Hp) : Prop := ∃ D, σ = [some (V.ref l), some (V.ref D), none, none, none] ∧ Same H H' ∧ H D = none ∧ H' D = some (.lst [])
def MD2 (l D : Addr) (es : List Int) (H : Hp) (σ : L2.St) (H' : Hp) : Prop := ∃ v2 v3 v4, σ = [some (V.ref l), some (V.ref D), v2, v3, v4] ∧ Same H H' ∧ LstL H' D (diagI es)
def MD3 (l D : Addr) (i : Nat) (e : Int) (es : List Int) (H : Hp) (σ : L2.St) (H' : Hp) : Prop := ∃ r, σ = [some (V.ref l), some (V.ref D), some (V.int (i : Nat)), some (V.int e), some (V.ref r)] ∧ Same H H' ∧ H r = none ∧ H' r = some (.lst ((List.replicate es.length (0 : Int)).map V.int))
def MD4 (l D r : Addr) (i : Nat) (e : Int) (es : List Int) (H : Hp) (σ : L2.St) (H' : Hp) : Prop := σ = [some (V.ref l), some (V.ref D), some (V.int (i : Nat)), some (V.int e), some (V.ref r)] ∧ Same H H' ∧ H' r = some (.lst ((rowI es i).map V.int))
def sp_diagonal (K : PySem.W.Frag) : Sp := fun vs H Q _ => ∃ (l : Addr) (es : List Int), vs = [.ref l] ∧ H l = some (.lst (es.map V.int)) ∧ es.length ≤ 64 ∧ ∀ H' D, Same H H' → H D = none → LstL H' D (diagI es) → Q (.ref D) H'
theorem ok_diagonal (T : Tx K mg) : FnOk P w K mg base CX0 1 T.f_diagonal T.fd_diagonal ["entries"] (sp_diagonal K) := by
  refine T.F_diagonal.ok sc_diagonal (fun vs H Q E h => ?_) (fun cdv A outer s H vs Q E hr h => ?_)
  · obtain ⟨l, es, rfl, _⟩ := h; rfl
  · obtain ⟨l, es, rfl, hl, h64, q⟩ := h
    refine ⟨_, (C8.pss_cut (ps_set (i := 1) sc_diagonal.nd rfl (Or.inl rfl) (pe_lst pa_nil))
      (C8.pss_cut (ps_for PassesOwn.never rfl (pi_enH (by rfl) T.n_enumerate (pa_cons (pv 0) pa_nil)) (pg_tupH (n := 2) rfl (pgs_cons (pg_name (i := 2) sc_diagonal.nd rfl (Or.inl rfl)) (pgs_cons (pg_name (i := 3) sc_diagonal.nd rfl (Or.inl rfl)) pgs_nil)))
        (C8.pss_cut (ps_set (i := 4) sc_diagonal.nd rfl (Or.inl rfl) (pe_op op_rep (pe_lst (pa_cons pe_int pa_nil)) (pe_callB len_H (by rfl) T.n_len PySem.boot_len (pa_cons (pv 0) pa_nil))))
        (C8.pss_cut (ps_asg (pv 3) (pg_sub (pv 4) (pv 2) set_lH))
        (pss_one (ps_expr (pe_append (pv 1) (pa_cons (pv 4) pa_nil)))))))
      (pss_one (ps_ret (pv 1))))), ?_⟩
    refine ⟨MD1 l H, ?_, ?_⟩
    · walk_at "rd"
      exact fun D hD => ⟨D, rfl, Same.new hD, hD, upd_same⟩
    rintro σ1 H1 ⟨D, rfl, s1, hD, hD1⟩
    have hl1 := s1 _ _ hl
    refine ⟨MD2 l D es H, ?_, ?_⟩
    · walk_at "rd"
      refine ⟨true, es.map V.int, hl1, fun J W => ?_⟩
      refine forr W (fun i σ H' => Same H H' ∧ LstL H' D ((diagI es).take i) ∧ ∃ v2 v3 v4, σ = [some (V.ref l), some (V.ref D), v2, v3, v4]) ⟨s1, ⟨[], hD1, AsL.nil⟩, none, none, none, rfl⟩ (fun i σ H' _ h => h.1 _ _ hl) ?_ ?_
      · rintro i x σ2 H2 H3 hi ⟨s2, hL, v2, v3, v4, rfl⟩ hy
        obtain ⟨T0, x1, rfl, hT, rfl, hx⟩ := hy
        simp only [List.getElem?_map, Option.map_eq_some_iff] at hx
        obtain ⟨e, he, rfl⟩ := hx
        have hil : i < es.length := (List.getElem?_eq_some_iff.mp he).1
        walk_at "rd"
        have sT := Same.new hT (o := .tup [V.int (i : Nat), V.int e])
        generalize upd H2 T0 (HO.tup [V.int (i : Nat), V.int e]) = H3 at sT ⊢
        have s3 := s2.trans sT
        have hL3 := hL.same sT
        refine ⟨MD3 l D i e es H3, ?_, ?_⟩
        · walk_at "rd"
          intro p hp
          have sp := Same.new hp (o := .lst [V.int 0])
          have fp : (upd H3 p (.lst [V.int 0])) p = some (.lst [V.int 0]) := upd_same
          generalize upd H3 p (HO.lst [V.int 0]) = H4 at sp fp ⊢
          refine .inl ⟨_, sp _ _ (s3 _ _ hl), p, (es.length : Int), [V.int 0], rfl, by rw [List.length_map], fp, by omega, by omega, ?_, fun r hr => ?_⟩
          · rw [Int.toNat_natCast]
            exact Nat.le_trans (by simpa using h64 : [V.int 0].length * es.length ≤ 64) (by decide)
          · rw [Int.toNat_natCast, flat0]
            have hr3 : H3 r = none := by
              cases e2 : H3 r with
              | none => rfl
              | some o => rw [sp _ _ e2] at hr; cases hr
            exact ⟨r, rfl, sp.trans (Same.new hr), hr3, upd_same⟩
        rintro σ4 H4 ⟨r, rfl, s4, hr, hr4⟩
        refine ⟨MD4 l D r i e es H3, ?_, ?_⟩
        · walk_at "rd"
          refine ⟨_, hr4, i, ?_, rfl, ?_, ?_⟩
          · exact ixN_in (by rw [List.length_map, List.length_replicate]; exact hil)
          · intro b o hb
            rw [upd_ne (ne_some hb hr)]
            exact s4 _ _ hb
          · rw [upd_same]
            congr 2
            unfold rowI
            rw [List.map_set, List.getD_eq_getElem?_getD, he]
            rfl
        rintro σ5 H5 ⟨rfl, s5, hr5⟩
        walk_at "rd"
        obtain ⟨as, hD5, hA⟩ := hL3.same s5
        have hlen : as.length ≤ es.length := by
          rw [hA.1, List.length_take]
          unfold diagI
          rw [List.length_map, List.length_range]
          omega
        refine ⟨⟨_, hD5⟩, _, hD5, ?_, ?_, as ++ [r], ?_, ?_⟩
        · rw [List.length_map]
          exact Nat.lt_of_le_of_lt (Nat.le_trans hlen h64) (by decide)
        · intro b o hb
          rw [upd_ne (ne_some hb hD)]
          exact s5 _ _ (s3 _ _ hb)
        · rw [upd_same, List.map_append]
          rfl
        · rw [diag_take hil]
          have hA2 := hA.snoc hr5
          have hnD := hA2.ne hD5 (fun g hg => by
            have hlg : ∀ j, (rowI es j).length = es.length := fun j => by unfold rowI; simp
            have h0 : g.length = es.length := by
              rcases List.mem_append.mp hg with h | h
              · have h := List.mem_of_mem_take h
                unfold diagI at h
                obtain ⟨j, _, rfl⟩ := List.mem_map.mp h
                exact hlg j
              · rw [List.mem_singleton.mp h]; exact hlg i
            intro e1
            rw [e1, List.length_nil] at h0
            omega)
          exact AsL.put hA2 hnD
      · rintro σ2 H2 ⟨s2, hL, v2, v3, v4, rfl⟩
        refine ⟨v2, v3, v4, rfl, s2, ?_⟩
        rw [List.length_map, show es.length = (diagI es).length by unfold diagI; simp, List.take_length] at hL
        exact hL
    rintro σ2 H2 ⟨v2, v3, v4, rfl, s2, hL⟩
    walk_at "rd"
    exact q _ D s2 hD hL
end

/-! ### a basis with one more vector -/
section
variable {P : Program} {w : World} {K : PySem.W.Frag} {mg : Str → Option Value} {base : Heap}
def lowV (piv rest : List Int) (at' : Nat) : List Int := List.zipWith (fun p u => p - (rest.getD at' 0 / piv.getD at' 0) * u) rest piv
/-- one step: what is left of the rest -/
def nxtV (odds piv rest : List Int) (at' : Nat) : List Int := mod2 (lowV piv rest at') odds
def euc (odds : List Int) (at' : Nat) : Nat → List Int → List Int → List Int × List Int
  | 0, piv, rest => (piv, rest)
  | f + 1, piv, rest => if rest.getD at' 0 = 0 then (piv, rest) else if (nxtV odds piv rest at').getD at' 0 = 0 then (piv, nxtV odds piv rest at') else euc odds at' f (nxtV odds piv rest at') piv
def withV (odds : List Int) : Nat → List (List Int) → List Int → List (List Int)
  | _, [], _ => []
  | at', row :: rows, rest => (euc odds at' (row.getD at' 0).toNat row rest).1 :: withV odds (at' + 1) rows (euc odds at' (row.getD at' 0).toNat row rest).2
/-- a vector that is reduced by the odds -/
structure RedV (odds rest : List Int) : Prop where
  len : rest.length = odds.length
  ok : ∀ (j : Nat) x o, rest[j]? = some x → odds[j]? = some o → 0 ≤ x ∧ x ≤ o
theorem mod2_red {odds v : List Int} (hl : v.length = odds.length) (hp : ∀ o ∈ odds, 0 < o) : RedV odds (mod2 v odds) := by
  refine ⟨by unfold mod2; simp [hl], fun j x o hx ho => ?_⟩
  have hj : j < v.length := by rw [hl]; exact (List.getElem?_eq_some_iff.mp ho).1
  have e := zw_get (g := fun x y => x % y) (List.getElem?_eq_getElem hj) ho
  unfold mod2 at hx
  rw [e] at hx
  obtain rfl := Option.some.inj hx
  have := hp o (List.mem_of_getElem? ho)
  exact ⟨Int.emod_nonneg _ (by omega), Int.le_of_lt (Int.emod_lt_of_pos _ this)⟩
/-- entries of at most 1000 bits -/
def Bnd (v : List Int) : Prop := ∀ x ∈ v, x.natAbs < 2 ^ 1000
theorem RedV.bnd {odds rest : List Int} (h : RedV odds rest) (hb : Bnd odds) : Bnd rest := fun x hx => by
  obtain ⟨j, hj, rfl⟩ := List.getElem_of_mem hx
  have hj2 : j < odds.length := by rw [← h.len]; exact hj
  obtain ⟨h0, h1⟩ := h.ok j _ _ (List.getElem?_eq_getElem hj) (List.getElem?_eq_getElem hj2)
  have := hb _ (List.getElem_mem hj2)
  omega
theorem low_len {odds piv rest : List Int} {i : Nat} (h1 : piv.length = odds.length) (h2 : rest.length = odds.length) : (lowV piv rest i).length = odds.length := by unfold lowV; rw [List.length_zipWith, h1, h2, Nat.min_self]
theorem nxt_red {odds piv rest : List Int} {i : Nat} (hp : ∀ o ∈ odds, 0 < o) (h1 : piv.length = odds.length) (h2 : rest.length = odds.length) : RedV odds (nxtV odds piv rest i) := mod2_red (low_len h1 h2) hp
theorem euc_next {odds piv rest : List Int} {at' : Nat} (ha : at' < odds.length) (hl : RedV odds piv) (hr : RedV odds rest) (h0 : 0 < piv.getD at' 0) :
    (nxtV odds piv rest at').getD at' 0 = rest.getD at' 0 % piv.getD at' 0 ∧ 0 ≤ (nxtV odds piv rest at').getD at' 0 ∧ (nxtV odds piv rest at').getD at' 0 < piv.getD at' 0 := by
  have h1 : at' < rest.length := by rw [hr.len]; exact ha
  have h2 : at' < piv.length := by rw [hl.len]; exact ha
  have e1 := List.getElem?_eq_getElem h1
  have e2 := List.getElem?_eq_getElem h2
  have e3 := List.getElem?_eq_getElem ha
  obtain ⟨r0, r1⟩ := hl.ok at' _ _ e2 e3
  have g1 : rest.getD at' 0 = rest[at'] := by rw [List.getD_eq_getElem?_getD, e1]; rfl
  have g2 : piv.getD at' 0 = piv[at'] := by rw [List.getD_eq_getElem?_getD, e2]; rfl
  rw [g2] at h0 ⊢
  rw [g1]
  have hm : (nxtV odds piv rest at')[at']? = some (((rest[at'] - (rest[at'] / piv[at']) * piv[at'])) % odds[at']) := by
    unfold nxtV mod2
    refine zw_get (g := fun x y => x % y) ?_ e3
    unfold lowV
    rw [zw_get (g := fun p u => p - (rest.getD at' 0 / piv.getD at' 0) * u) e1 e2, g1, g2]
  have e4 : rest[at'] - (rest[at'] / piv[at']) * piv[at'] = rest[at'] % piv[at'] := by
    have := Int.emod_add_mul_ediv rest[at'] piv[at']
    rw [Int.mul_comm (rest[at'] / piv[at'])]
    omega
  have h5 := Int.emod_nonneg rest[at'] (by omega : piv[at'] ≠ 0)
  have h6 := Int.emod_lt_of_pos rest[at'] h0
  have g3 : (nxtV odds piv rest at').getD at' 0 = rest[at'] % piv[at'] := by
    rw [List.getD_eq_getElem?_getD, hm, e4, Int.emod_eq_of_lt h5 (by omega)]
    rfl
  rw [g3]
  exact ⟨rfl, h5, h6⟩
theorem euc_zero {odds piv rest : List Int} {at' : Nat} (h : rest.getD at' 0 = 0) : ∀ f, euc odds at' f piv rest = (piv, rest)
  | 0 => rfl
  | f + 1 => by
    show (if rest.getD at' 0 = 0 then (piv, rest) else _) = _
    rw [if_pos h]
def MV1 (b o v : Addr) (rest : List Int) (H : Hp) (σ : L2.St) (H' : Hp) : Prop := ∃ t, σ = [some (V.ref b), some (V.ref o), some (V.ref v), some (V.ref t), none, none, none, none, none, none, none, none] ∧ Same H H' ∧ H' t = some (.lst (rest.map V.int))
def MV2 (b o v t : Addr) (H : Hp) (σ : L2.St) (H' : Hp) : Prop := ∃ D, σ = [some (V.ref b), some (V.ref o), some (V.ref v), some (V.ref t), some (V.ref D), none, none, none, none, none, none, none] ∧ Same H H' ∧ H D = none ∧ H' D = some (.lst [])
def MV3 (D : Addr) (res : List (List Int)) (H : Hp) (σ : L2.St) (H' : Hp) : Prop := ∃ b o v t v5 v6 v7 v8 v9, σ = [some (V.ref b), some (V.ref o), some (V.ref v), some (V.ref t), some (V.ref D), v5, v6, v7, v8, v9, none, none] ∧ Same H H' ∧ LstL H' D res
/-- what holds ahead of the i-th row -/
def IV (b o v D : Addr) (odds : List Int) (rows : List (List Int)) (res : List (List Int)) (H : Hp) (i : Nat) (σ : L2.St) (H' : Hp) : Prop := ∃ t rest done v5 v6 v7 v8 v9, σ = [some (V.ref b), some (V.ref o), some (V.ref v), some (V.ref t), some (V.ref D), v5, v6, v7, v8, v9, none, none] ∧
  Same H H' ∧ H' t = some (.lst (rest.map V.int)) ∧ RedV odds rest ∧ LstL H' D done ∧ done.length = i ∧ (∀ r ∈ done, r ≠ []) ∧ res = done ++ withV odds i (rows.drop i) rest
def MV4 (b o v D t a : Addr) (i : Nat) (H : Hp) (σ : L2.St) (H' : Hp) : Prop := ∃ v8 v9, σ = [some (V.ref b), some (V.ref o), some (V.ref v), some (V.ref t), some (V.ref D), some (V.int (i : Nat)), some (V.ref a), some (V.ref a), v8, v9, none, none] ∧ Same H H'
/-- within Euclid's steps -/
def IW (b o v D a : Addr) (i : Nat) (odds : List Int) (fin : List Int × List Int) (H : Hp) (m : Nat) (σ : L2.St) (H' : Hp) : Prop := ∃ t p piv rest v8 v9, σ = [some (V.ref b), some (V.ref o), some (V.ref v), some (V.ref t), some (V.ref D), some (V.int (i : Nat)), some (V.ref a), some (V.ref p), v8, v9, none, none] ∧
  Same H H' ∧ H' t = some (.lst (rest.map V.int)) ∧ H' p = some (.lst (piv.map V.int)) ∧ RedV odds piv ∧ 0 < piv.getD i 0 ∧ RedV odds rest ∧ m = (if rest.getD i 0 = 0 then 0 else (piv.getD i 0).toNat) ∧ ∃ f, m ≤ f ∧ euc odds i f piv rest = fin
def MV5 (b o v D a : Addr) (i : Nat) (odds : List Int) (fin : List Int × List Int) (H : Hp) (σ : L2.St) (H' : Hp) : Prop := ∃ t p v8 v9, σ = [some (V.ref b), some (V.ref o), some (V.ref v), some (V.ref t), some (V.ref D), some (V.int (i : Nat)), some (V.ref a), some (V.ref p), v8, v9, none, none] ∧
  Same H H' ∧ H' t = some (.lst (fin.2.map V.int)) ∧ H' p = some (.lst (fin.1.map V.int)) ∧ fin.1.length = odds.length ∧ RedV odds fin.2
def ME (σ0 : L2.St) (H0 : Hp) (σ : L2.St) (H' : Hp) : Prop := σ = σ0 ∧ H' = H0
def ML (b o v t D a p : Addr) (i : Nat) (fac : Int) (low : List Int) (H : Hp) (σ : L2.St) (H' : Hp) : Prop := ∃ l, σ = [some (V.ref b), some (V.ref o), some (V.ref v), some (V.ref t), some (V.ref D), some (V.int (i : Nat)), some (V.ref a), some (V.ref p), some (V.int fac), some (V.ref l), none, none] ∧ Same H H' ∧ H' l = some (.lst (low.map V.int))
def MN (b o v D a p : Addr) (i : Nat) (fac : Int) (nx : List Int) (H : Hp) (σ : L2.St) (H' : Hp) : Prop := ∃ t l, σ = [some (V.ref b), some (V.ref o), some (V.ref v), some (V.ref t), some (V.ref D), some (V.int (i : Nat)), some (V.ref a), some (V.ref p), some (V.int fac), some (V.ref l), none, none] ∧ Same H H' ∧ H' t = some (.lst (nx.map V.int))
def sp_with_vector (K : PySem.W.Frag) : Sp := fun vs H Q _ => ∃ (b o v : Addr) (k : Bool) (rows : List (List Int)) (odds vec : List Int), vs = [.ref b, .ref o, .ref v] ∧ LstL H b rows ∧ H o = some (.lst (odds.map V.int)) ∧ Sqh k H v (vec.map V.int) ∧
  rows.length = odds.length ∧ vec.length = odds.length ∧ odds.length ≤ 4 ∧ 1 ≤ odds.length ∧ (∀ r ∈ rows, RedV odds r) ∧ (∀ (j : Nat) r, rows[j]? = some r → 0 < r.getD j 0) ∧ (∀ x ∈ odds, 0 < x) ∧ Bnd odds ∧
  ∀ H' D, Same H H' → H D = none → LstL H' D (withV odds 0 rows (mod2 vec odds)) → Q (.ref D) H'
theorem ok_with_vector (T : Tx K mg) : FnOk P w K mg base CX0 2 T.f_with_vector T.fd_with_vector ["basis", "odds", "vector"] (sp_with_vector K) := by
  refine T.F_with_vector.ok sc_with_vector (fun vs H Q E h => ?_) (fun cdv A outer s H vs Q E hr h => ?_)
  · obtain ⟨b, o, v, k, rows, odds, vec, rfl, _⟩ := h; rfl
  · obtain ⟨b, o, v, k, rows, odds, vec, rfl, hb, ho, hv, l1, l2, l4, l0, hrows, hpiv, hpos, hbd, q⟩ := h
    refine ⟨_, (C8.pss_cut (ps_set (i := 3) sc_with_vector.nd rfl (Or.inl rfl) (pe_call (ok_reduced T) (hr.mono (by decide)) (by rfl) T.g_reduced T.F_reduced.kp T.b_reduced .nil pass0 (pa_cons (pv 2) (pa_cons (pv 1) pa_nil))))
      (C8.pss_cut (ps_set (i := 4) sc_with_vector.nd rfl (Or.inl rfl) (pe_lst pa_nil))
      (C8.pss_cut (ps_for PassesOwn.never rfl (pi_enH (by rfl) T.n_enumerate (pa_cons (pv 0) pa_nil)) (pg_tupH (n := 2) rfl (pgs_cons (pg_name (i := 5) sc_with_vector.nd rfl (Or.inl rfl)) (pgs_cons (pg_name (i := 6) sc_with_vector.nd rfl (Or.inl rfl)) pgs_nil)))
        (C8.pss_cut (ps_set (i := 7) sc_with_vector.nd rfl (Or.inl rfl) (pv 6))
        (C8.pss_cut (ps_while PassesOwn.never (pt_cmpR op_ne (pe_ix ix_lH (pv 3) (pv 5) (fun _ _ => rfl)) pe_int (nomark _)) (C8.pss_cut (ps_set (i := 8) sc_with_vector.nd rfl (Or.inr rfl) (pe_op op_fdivW (pe_ix ix_lH (pv 3) (pv 5) (fun _ _ => rfl)) (pe_ix ix_lH (pv 7) (pv 5) (fun _ _ => rfl))))
          (C8.pss_cut (ps_setLc (i := 9) (own := [("part", 10), ("upper", 11)]) (g := (gTupH 2 (gCons (gName 10) (gCons (gName 11) gNil)))) (tt := tYes) rfl sc_with_vector.nd rfl rfl (sw_true rfl rfl rfl (by decide +kernel)) (pi_z2H (by rfl) T.n_zip (pa_cons (pv 3) (pa_cons (pv 7) pa_nil))) (blkOk_by (own := [("part", 10), ("upper", 11)]) (N := N_with_vector) (sc := defScope d_with_vector) (by decide +kernel)) (fun _ _ _ _ _ => (pg_tupH (n := 2) rfl (pgs_cons (pg_name (i := 10) sc_with_vector.nd rfl (Or.inl rfl)) (pgs_cons (pg_name (i := 11) sc_with_vector.nd rfl (Or.inl rfl)) pgs_nil)))) (fun _ _ _ _ _ => pts_nil) (fun _ _ _ _ _ => (pe_op op_sub (pv 10) (pe_op op_mulA (pv 8) (pv 11)))))
          (C8.pss_cut (ps_set (i := 3) sc_with_vector.nd rfl (Or.inl rfl) (pe_call (ok_reduced T) (hr.mono (by decide)) (by rfl) T.g_reduced T.F_reduced.kp T.b_reduced .nil pass0 (pa_cons (pv 9) (pa_cons (pv 1) pa_nil))))
          (pss_one (ps_if (pt_cmpR op_ne (pe_ix ix_lH (pv 3) (pv 5) (fun _ _ => rfl)) pe_int (nomark _)) (pss_one (ps_par (i := 7) (j := 3) (by rfl) sc_with_vector.nd rfl rfl (by decide) rfl rfl (pa_cons (pv 3) (pa_cons (pv 7) pa_nil)) (by rfl))) pss_nil))))))
        (pss_one (ps_expr (pe_append (pv 4) (pa_cons (pv 7) pa_nil)))))))
      (pss_one (ps_ret (pv 4)))))), ?_⟩
    have hr0 := mod2_red l2 hpos
    generalize hrest0 : mod2 vec odds = rest0 at q hr0
    generalize hres : withV odds 0 rows rest0 = res at q
    refine ⟨MV1 b o v rest0 H, ?_, ?_⟩
    · walk_at "rd"
      refine ⟨k, true, v, o, vec, odds, rfl, hv, ho, l2, by omega, hpos, fun H1 t s1 hn ht => ?_⟩
      rw [hrest0] at ht
      exact ⟨t, rfl, s1, ht⟩
    rintro σ1 H1 ⟨t, rfl, s1, ht1⟩
    refine ⟨MV2 b o v t H1, ?_, ?_⟩
    · walk_at "rd"
      exact fun D hD => ⟨D, rfl, Same.new hD, hD, upd_same⟩
    rintro σ2 H2 ⟨D, rfl, s2, hD, hD2⟩
    have s02 := s1.trans s2
    have hHD : H D = none := by
      cases e : H D with
      | none => rfl
      | some u => rw [s1 _ _ e] at hD; cases hD
    obtain ⟨as, hba, hA⟩ := hb
    refine ⟨MV3 D res H, ?_, ?_⟩
    · walk_at "rd"
      refine ⟨true, as.map V.ref, s02 _ _ hba, fun J W => ?_⟩
      refine forr W (fun i σ H' => IV b o v D odds rows res H i σ H') ⟨t, rest0, [], none, none, none, none, none, rfl, s02, s2 _ _ ht1, hr0, ⟨[], hD2, AsL.nil⟩, rfl, by simp, by rw [← hres]; rfl⟩ (fun i σ H' _ h => by obtain ⟨_, _, _, _, _, _, _, _, _, h, _⟩ := h; exact h _ _ hba) ?_ ?_
      · rintro i x σ3 H3 H4 hi ⟨t, rest, done, v5, v6, v7, v8, v9, rfl, s3, ht3, hr3, hL3, hdl, hdn, hres3⟩ hy
        obtain ⟨T0, x1, rfl, hT, rfl, hx⟩ := hy
        simp only [List.getElem?_map, Option.map_eq_some_iff] at hx
        obtain ⟨a, ha, rfl⟩ := hx
        rw [List.length_map, hA.1, l1] at hi
        have hir : i < rows.length := by omega
        have hrow := List.getElem?_eq_getElem hir
        have hrr := hrows _ (List.getElem_mem hir)
        have hrl := hrr.len
        have hrp := hpiv i _ hrow
        have haH := hA.2 i a _ ha hrow
        have sT := Same.new hT (o := .tup [V.int (i : Nat), V.ref a])
        walk_at "rd"
        generalize upd H3 T0 (HO.tup [V.int (i : Nat), V.ref a]) = H4 at sT ⊢
        have s4 := s3.trans sT
        refine ⟨MV4 b o v D t a i H4, ?_, ?_⟩
        · walk_at "rd"
          exact ⟨v8, v9, rfl, Same.refl _⟩
        rintro σ5 H5 ⟨v8, v9, rfl, s5⟩
        have s05 := s4.trans s5
        generalize hfin : euc odds i (rows[i].getD i 0).toNat rows[i] rest = fin
        refine ⟨MV5 b o v D a i odds fin H5, ?_, ?_⟩
        · refine ⟨fun m σ H' => IW b o v D a i odds fin H5 m σ H', ⟨_, t, a, rows[i], rest, v8, v9, rfl, Same.refl _, s5 _ _ (sT _ _ ht3), s05 _ _ haH, hrr, hrp, hr3, rfl, _, by split <;> omega, hfin⟩, ?_⟩
          rintro m σ6 H6 ⟨t6, p6, piv, rest6, v8, v9, rfl, s6, ht6, hp6, hpl, hpp, hr6, hm, f, hf, hfe⟩
          have h1 : i < rest6.length := by rw [hr6.len]; exact hi
          have h2 : i < piv.length := by rw [hpl.len]; exact hi
          have g1 : rest6[i]? = some (rest6.getD i 0) := by rw [List.getD_eq_getElem?_getD, List.getElem?_eq_getElem h1]; rfl
          have g2 : piv[i]? = some (piv.getD i 0) := by rw [List.getD_eq_getElem?_getD, List.getElem?_eq_getElem h2]; rfl
          walk_at "rd"
          refine ⟨_, ht6, .int (rest6.getD i 0), atI_nat (by rw [List.getElem?_map, g1]; rfl), rfl, ?_⟩
          by_cases h0 : rest6.getD i 0 = 0
          · rw [if_neg (fun h => h (by rw [h0]))]
            have e : fin = (piv, rest6) := by rw [← hfe, euc_zero h0]
            rw [e]
            exact ⟨t6, p6, v8, v9, rfl, s6, ht6, hp6, hpl.len, hr6⟩
          · rw [if_pos (fun e => h0 (by injection e))]
            obtain ⟨e1, e2, e3⟩ := euc_next hi hpl hr6 hpp
            have hb6 := hr6.bnd hbd
            have hpb := hpl.bnd hbd
            have hpi : (piv.getD i 0).natAbs < 2 ^ 1000 := hpb _ (List.mem_of_getElem? g2)
            have hri : (rest6.getD i 0).natAbs < 2 ^ 1000 := hb6 _ (List.mem_of_getElem? g1)
            refine ⟨fun σ' H' => ∃ m', m' < m ∧ IW b o v D a i odds fin H5 m' σ' H', fun _ _ h => h, ?_⟩
            refine ⟨ME [some (V.ref b), some (V.ref o), some (V.ref v), some (V.ref t6), some (V.ref D), some (V.int (i : Nat)), some (V.ref a), some (V.ref p6), some (V.int (rest6.getD i 0 / piv.getD i 0)), v9, none, none] H6, ?_, ?_⟩
            · walk_at "rd"
              refine ⟨_, ht6, _, atI_nat (by rw [List.getElem?_map, g1]; rfl), _, hp6, _, atI_nat (by rw [List.getElem?_map, g2]; rfl), ?_⟩
              refine ⟨_, rfl, _, rfl, wide_div (b := 1000) hpp hpi (by decide) (by decide), rfl, rfl⟩
            rintro σ7 H7 ⟨rfl, rfl⟩
            refine ⟨ML b o v t6 D a p6 i (rest6.getD i 0 / piv.getD i 0) (lowV piv rest6 i) H7, ?_, ?_⟩
            · walk_at "rd"
              refine ⟨true, true, rest6.map V.int, ht6, piv.map V.int, hp6, by rw [List.length_map, List.length_map, hpl.len, hr6.len], fun J W => ?_⟩
              refine lcr_two (p := 10) (q := 11) (by rw [hpl.len, hr6.len]) (by rw [hr6.len]; omega) (fun p u => p - (rest6.getD i 0 / piv.getD i 0) * u) W (fun H8 s8 => ⟨s8 _ _ ht6, s8 _ _ hp6⟩) (fun T0 x y H8 R hT hR => ?_) (fun x y => rfl) (fun j x y Qy H8 h1 h2 hq => ?_) fun L H8 hL s8 h8 => ⟨L, rfl, s8, h8⟩
              · walk_at "rh"
                exact hR
              · walk_at "rd"
                refine ⟨.inr (.inr (wide_mul (a := 1001) (b := 1000) ?_ (hpb y (List.mem_of_getElem? h2)) (by decide) (by decide) (by decide))), hq⟩
                exact Nat.lt_of_le_of_lt (Int.natAbs_ediv_le_natAbs _ _) (Nat.lt_of_lt_of_le hri (Nat.pow_le_pow_right (by decide) (by decide)))
            rintro σ8 H8 ⟨l, rfl, s8, hl8⟩
            have hlow := low_len (i := i) hpl.len hr6.len
            have hnr := nxt_red (i := i) hpos hpl.len hr6.len
            have hg3 : (nxtV odds piv rest6 i)[i]? = some ((nxtV odds piv rest6 i).getD i 0) := by rw [List.getD_eq_getElem?_getD, List.getElem?_eq_getElem (by rw [hnr.len]; exact hi)]; rfl
            have hf1 : ∃ f', f = f' + 1 := ⟨f - 1, by rw [if_neg h0] at hm; omega⟩
            obtain ⟨f', rfl⟩ := hf1
            rw [if_neg h0] at hm
            have hstep : euc odds i (f' + 1) piv rest6 = if (nxtV odds piv rest6 i).getD i 0 = 0 then (piv, nxtV odds piv rest6 i) else euc odds i f' (nxtV odds piv rest6 i) piv := by
              show (if rest6.getD i 0 = 0 then (piv, rest6) else _) = _
              rw [if_neg h0]
            refine ⟨MN b o v D a p6 i (rest6.getD i 0 / piv.getD i 0) (nxtV odds piv rest6 i) H8, ?_, ?_⟩
            · walk_at "rd"
              exact ⟨true, true, l, o, lowV piv rest6 i, odds, rfl, hl8, s8 _ _ (s6 _ _ (s05 _ _ ho)), hlow, by omega, hpos, fun H9 t9 s9 hn9 ht9 => ⟨t9, l, rfl, s9, ht9⟩⟩
            rintro σ9 H9 ⟨t9, l9, rfl, s9, ht9⟩
            have s69 := s6.trans (s8.trans s9)
            walk_at "rd"
            refine ⟨_, ht9, .int ((nxtV odds piv rest6 i).getD i 0), atI_nat (by rw [List.getElem?_map, hg3]; rfl), rfl, ?_⟩
            by_cases h9 : (nxtV odds piv rest6 i).getD i 0 = 0
            · rw [if_neg (fun h => h (by rw [h9]))]
              rw [if_pos h9] at hstep
              refine ⟨0, by omega, t9, p6, piv, nxtV odds piv rest6 i, _, _, rfl, s69, ht9, s9 _ _ (s8 _ _ hp6), hpl, hpp, hnr, by rw [if_pos h9], 0, Nat.le_refl _, ?_⟩
              rw [← hfe, hstep]
              rfl
            · rw [if_pos (fun e => h9 (by injection e))]
              rw [if_neg h9] at hstep
              refine ⟨((nxtV odds piv rest6 i).getD i 0).toNat, by omega, p6, t9, nxtV odds piv rest6 i, piv, _, _, rfl, s69, s9 _ _ (s8 _ _ hp6), ht9, hnr, by omega, hpl, by rw [if_neg (by omega)], f', by omega, ?_⟩
              rw [← hfe, hstep]
        rintro σ6 H6 ⟨t6, p6, v8, v9, rfl, s6, ht6, hp6, hfl, hfr⟩
        walk_at "rd"
        have hL6 := (hL3.same sT).same (s5.trans s6)
        obtain ⟨ds, hD6, hA6⟩ := hL6
        have hA7 := hA6.snoc hp6
        have hf1 : fin.1 ≠ [] := fun e => by rw [e, List.length_nil] at hfl; omega
        have hnD := hA7.ne hD6 (fun g hg => by
          rcases List.mem_append.mp hg with h | h
          · exact hdn g h
          · rw [List.mem_singleton.mp h]; exact hf1)
        have s06 := s05.trans s6
        have ntD : t6 ≠ D := by
          refine row_ne ht6 hD6 fun e => ?_
          have := hfr.len
          rw [e, List.length_nil] at this
          omega
        refine ⟨⟨_, hD6⟩, _, hD6, ?_, t6, fin.2, done ++ [fin.1], _, _, _, _, _, rfl, ?_, ?_, hfr, ⟨ds ++ [p6], by rw [upd_same, List.map_append]; rfl, hA7.put hnD⟩, ?_, ?_, ?_⟩
        · rw [List.length_map, hA6.1, hdl]
          exact Nat.lt_of_lt_of_le (by omega : i < 4) (by decide)
        · intro c u hb'
          rw [upd_ne (ne_some hb' hHD)]
          exact s06 _ _ hb'
        · rw [upd_ne ntD]
          exact ht6
        · rw [List.length_append, hdl]; rfl
        · intro g hg
          rcases List.mem_append.mp hg with h | h
          · exact hdn g h
          · rw [List.mem_singleton.mp h]; exact hf1
        · rw [hres3, List.drop_eq_getElem_cons hir]
          show done ++ ((euc odds i (rows[i].getD i 0).toNat rows[i] rest).1 :: withV odds (i + 1) (rows.drop (i + 1)) (euc odds i (rows[i].getD i 0).toNat rows[i] rest).2) = _
          rw [hfin]
          simp
      · rintro σ3 H3 ⟨t, rest, done, v5, v6, v7, v8, v9, rfl, s3, ht3, hr3, hL3, hdl, hdn, hres3⟩
        refine ⟨b, o, v, t, v5, v6, v7, v8, v9, rfl, s3, ?_⟩
        rw [List.length_map, hA.1, List.drop_length] at hres3
        rw [hres3]
        show LstL H3 D (done ++ [])
        rw [List.append_nil]
        exact hL3
    rintro σ3 H3 ⟨b', o', v', t', v5, v6, v7, v8, v9, rfl, s3, hL⟩
    walk_at "rd"
    exact q _ D s3 hHD hL
end

/-! ### the basis of the free shifts -/
section
variable {P : Program} {w : World} {K : PySem.W.Frag} {mg : Str → Option Value} {base : Heap}
/-- n rows of n entries of at most 1000 bits -/
structure Rows (odds : List Int) (rows : List (List Int)) : Prop where
  len : rows.length = odds.length
  row : ∀ r ∈ rows, r.length = odds.length ∧ Bnd r
  red : ∀ r ∈ rows, RedV odds r
theorem euc_ok {odds : List Int} (hp : ∀ o ∈ odds, 0 < o) (at' : Nat) : ∀ (f : Nat) (piv rest : List Int), RedV odds piv → RedV odds rest →
    RedV odds (euc odds at' f piv rest).1 ∧ RedV odds (euc odds at' f piv rest).2
  | 0, piv, rest, h1, h3 => ⟨h1, h3⟩
  | f + 1, piv, rest, h1, h3 => by
    show RedV odds (if rest.getD at' 0 = 0 then (piv, rest) else if (nxtV odds piv rest at').getD at' 0 = 0 then (piv, nxtV odds piv rest at') else euc odds at' f (nxtV odds piv rest at') piv).1 ∧ RedV odds (if rest.getD at' 0 = 0 then (piv, rest) else if (nxtV odds piv rest at').getD at' 0 = 0 then (piv, nxtV odds piv rest at') else euc odds at' f (nxtV odds piv rest at') piv).2
    have hn := nxt_red (i := at') hp h1.len h3.len
    by_cases h0 : rest.getD at' 0 = 0
    · rw [if_pos h0]; exact ⟨h1, h3⟩
    · rw [if_neg h0]
      by_cases h9 : (nxtV odds piv rest at').getD at' 0 = 0
      · rw [if_pos h9]; exact ⟨h1, hn⟩
      · rw [if_neg h9]
        exact euc_ok hp at' f _ _ hn h1
theorem withV_ok {odds : List Int} (hp : ∀ o ∈ odds, 0 < o) : ∀ (rows : List (List Int)) (at' : Nat) (rest : List Int), RedV odds rest → (∀ r ∈ rows, RedV odds r) →
    (withV odds at' rows rest).length = rows.length ∧ ∀ r ∈ withV odds at' rows rest, RedV odds r
  | [], at', rest, _, _ => ⟨rfl, fun r h => by simp [withV] at h⟩
  | row :: rows, at', rest, hr, h => by
    have h1 := h row (List.mem_cons_self ..)
    obtain ⟨e1, e3⟩ := euc_ok hp at' (row.getD at' 0).toNat row rest h1 hr
    obtain ⟨i1, i2⟩ := withV_ok hp rows (at' + 1) _ e3 (fun r hr => h r (List.mem_cons_of_mem _ hr))
    refine ⟨by show (withV odds (at' + 1) rows _).length + 1 = _; rw [i1]; rfl, fun r hm => ?_⟩
    rcases List.mem_cons.mp hm with rfl | hm
    · exact e1
    · exact i2 r hm
theorem Rows.of {odds : List Int} {rows : List (List Int)} (hb : Bnd odds) (h : rows.length = odds.length) (r : ∀ r ∈ rows, RedV odds r) : Rows odds rows := ⟨h, fun x hx => ⟨(r x hx).len, (r x hx).bnd hb⟩, r⟩
theorem Rows.withV {odds : List Int} {rows : List (List Int)} {v : List Int} (hp : ∀ o ∈ odds, 0 < o) (hb : Bnd odds) (h : Rows odds rows) (hv : v.length = odds.length) : Rows odds (withV odds 0 rows (mod2 v odds)) := by
  obtain ⟨h1, h2⟩ := withV_ok hp rows 0 (mod2 v odds) (mod2_red hv hp) h.red
  exact Rows.of hb (by rw [h1, h.len]) h2
theorem Rows.diag {odds : List Int} (hp : ∀ o ∈ odds, 0 < o) (hb : Bnd odds) : Rows odds (diagI odds) := by
  refine Rows.of hb (by unfold diagI; simp) fun r hr => ?_
  unfold diagI at hr
  obtain ⟨i, hi, rfl⟩ := List.mem_map.mp hr
  have hi' := List.mem_range.mp hi
  refine ⟨by unfold rowI; simp, fun j x o hx ho => ?_⟩
  have hop := hp o (List.mem_of_getElem? ho)
  unfold rowI at hx
  by_cases e : i = j
  · subst e
    rw [List.getElem?_set_self (by simpa using hi'), List.getD_eq_getElem?_getD, ho] at hx
    obtain rfl := Option.some.inj hx
    exact ⟨Int.le_of_lt hop, Int.le_refl o⟩
  · rw [List.getElem?_set_ne e, List.getElem?_replicate] at hx
    split at hx
    · obtain rfl := Option.some.inj hx
      omega
    · cases hx
def pivA (rows : List (List Int)) (i : Nat) : Int := (rows.getD i []).getD i 0
def pivP (rows : List (List Int)) (n : Nat) : Int := (List.range n).foldl (fun c i => c * pivA rows i) 1
theorem pivP_succ (rows : List (List Int)) (n : Nat) : pivP rows (n + 1) = pivP rows n * pivA rows n := by
  unfold pivP
  rw [List.range_succ, List.foldl_append]
  rfl
theorem pow_pos2 : (0 : Nat) < 2 ^ 1000 := Nat.pow_pos (by decide)
theorem pivA_bnd {odds : List Int} {rows : List (List Int)} (h : Rows odds rows) (i : Nat) : (pivA rows i).natAbs < 2 ^ 1000 := by
  unfold pivA
  rw [List.getD_eq_getElem?_getD, List.getD_eq_getElem?_getD]
  cases e : rows[i]? with
  | none => exact pow_pos2
  | some r =>
    cases e2 : r[i]? with
    | none => simp only [Option.getD_some, e2]; exact pow_pos2
    | some x =>
      have h1 := (h.row r (List.mem_of_getElem? e)).2 x (List.mem_of_getElem? e2)
      simpa [e2] using h1
theorem pivP_bnd {odds : List Int} {rows : List (List Int)} (h : Rows odds rows) : ∀ n : Nat, (pivP rows n).natAbs < 2 ^ (1000 * n + 1)
  | 0 => by
    show 1 < 2 ^ 1
    decide
  | n + 1 => by
    rw [pivP_succ, show 1000 * (n + 1) + 1 = (1000 * n + 1) + 1000 by omega]
    exact wide_lt (pivP_bnd h n) (pivA_bnd h n)
def sp_pivot_product (K : PySem.W.Frag) : Sp := fun vs H Q _ => ∃ (b : Addr) (odds : List Int) (rows : List (List Int)), vs = [.ref b] ∧ LstL H b rows ∧ Rows odds rows ∧ odds.length ≤ 4 ∧ ∀ H', Same H H' → Q (.int (pivP rows rows.length)) H'
theorem ok_pivot_product (T : Tx K mg) : FnOk P w K mg base CX0 1 T.f_pivot_product T.fd_pivot_product ["basis"] (sp_pivot_product K) := by
  refine T.F_pivot_product.ok sc_pivot_product (fun vs H Q E h => ?_) (fun cdv A outer s H vs Q E hr h => ?_)
  · obtain ⟨b, odds, rows, rfl, _⟩ := h; rfl
  · obtain ⟨b, odds, rows, rfl, ⟨as, hb, hA⟩, hR, h4, q⟩ := h
    refine ⟨_, (pss_cons (ps_set (i := 1) sc_pivot_product.nd rfl (Or.inl rfl) pe_int)
      (pss_cons (ps_for PassesOwn.never rfl (pi_enH (by rfl) T.n_enumerate (pa_cons (pv 0) pa_nil)) (pg_tupH (n := 2) rfl (pgs_cons (pg_name (i := 2) sc_pivot_product.nd rfl (Or.inl rfl)) (pgs_cons (pg_name (i := 3) sc_pivot_product.nd rfl (Or.inl rfl)) pgs_nil)))
        (pss_one (ps_set (i := 1) sc_pivot_product.nd rfl (Or.inl rfl) (pe_op op_mulA (pv 1) (pe_ix ix_lH (pv 3) (pv 2) (fun _ _ => rfl))))))
      (pss_one (ps_ret (pv 1))))), ?_⟩
    walk_at "rd"
    refine ⟨true, as.map V.ref, hb, fun J W => ?_⟩
    refine forr W (fun i σ H' => Same H H' ∧ ∃ v2 v3, σ = [some (V.ref b), some (V.int (pivP rows i)), v2, v3]) ⟨Same.refl _, none, none, rfl⟩ (fun i σ H' _ h => h.1 _ _ hb) ?_ ?_
    · rintro i x σ2 H2 H3 hi ⟨s2, v2, v3, rfl⟩ ⟨T0, x1, rfl, hT, rfl, hx⟩
      simp only [List.getElem?_map, Option.map_eq_some_iff] at hx
      obtain ⟨a, ha, rfl⟩ := hx
      rw [List.length_map, hA.1] at hi
      have hrow := List.getElem?_eq_getElem hi
      have har := hA.2 i a _ ha hrow
      have hrl := (hR.row _ (List.getElem_mem hi)).1
      have hir : i < rows[i].length := by rw [hrl, ← hR.len]; exact hi
      have sT := Same.new hT (o := .tup [V.int (i : Nat), V.ref a])
      walk_at "rd"
      have hp : pivA rows i = rows[i][i] := by
        unfold pivA
        have e : rows.getD i [] = rows[i] := by rw [List.getD_eq_getElem?_getD, hrow]; rfl
        rw [e, List.getD_eq_getElem?_getD, List.getElem?_eq_getElem hir]
        rfl
      refine ⟨_, sT _ _ (s2 _ _ har), _, atI_nat (by rw [List.getElem?_map, List.getElem?_eq_getElem hir]; rfl), _, rfl, ?_, s2.trans sT, ?_⟩
      · refine .inr (.inr (wide_mul (pivP_bnd hR i) (by rw [← hp]; exact pivA_bnd hR i) (by omega) ?_ ?_))
        · have := hR.len; omega
        · have := hR.len; omega
      · rw [pivP_succ, hp]
    · rintro σ2 H2 ⟨s2, v2, v3, rfl⟩
      walk_at "rd"
      rw [hA.1]
      exact q _ s2
end

section
variable {P : Program} {w : World} {K : PySem.W.Frag} {mg : Str → Option Value} {base : Heap}
def oddsI (ss : List Int) : List Int := ss.map oddI
theorem odds_pos {ss : List Int} (h : ∀ s ∈ ss, 1 ≤ s) : ∀ o ∈ oddsI ss, 0 < o := fun o ho => by
  obtain ⟨s, hs, rfl⟩ := List.mem_map.mp ho
  have h1 := h s hs
  have := odd_pos (n := s.toNat) (by omega)
  unfold oddI
  omega
theorem odds_bnd {ss : List Int} (h : ∀ s ∈ ss, s.natAbs < 2 ^ 1000) : Bnd (oddsI ss) := fun o ho => by
  obtain ⟨s, hs, rfl⟩ := List.mem_map.mp ho
  have h1 := h s hs
  have h2 : oddN s.toNat ≤ s.toNat := Nat.div_le_self _ _
  unfold oddI
  rw [Int.natAbs_natCast]
  omega
def stepB (odds g0 : List Int) (rows : List (List Int)) (g : List Int) : List (List Int) := withV odds 0 rows (mod2 (sub2 g g0) odds)
def shiftB (ss : List Int) (gs : List (List Int)) : List (List Int) := gs.foldl (stepB (oddsI ss) (gs.headD [])) (diagI (oddsI ss))
theorem fold_rows {odds g0 : List Int} (hp : ∀ o ∈ odds, 0 < o) (hb : Bnd odds) (h0 : g0.length = odds.length) : ∀ (gs : List (List Int)) (rows : List (List Int)), (∀ g ∈ gs, g.length = odds.length) → Rows odds rows → Rows odds (gs.foldl (stepB odds g0) rows)
  | [], rows, _, h => h
  | g :: gs, rows, hg, h => fold_rows hp hb h0 gs _ (fun x hx => hg x (List.mem_cons_of_mem _ hx)) (h.withV hp hb (by
      have := hg g (List.mem_cons_self ..)
      unfold sub2
      rw [List.length_zipWith, this, h0, Nat.min_self]))
theorem headD_mem {gs : List (List Int)} (h : gs ≠ []) : gs.headD [] ∈ gs := by
  cases gs with
  | nil => exact absurd rfl h
  | cons g gs => exact List.mem_cons_self ..
theorem shift_rows {ss : List Int} {gs : List (List Int)} (z : Sz ss) (hg : gs ≠ []) (hl : ∀ g ∈ gs, g.length = ss.length) : Rows (oddsI ss) (shiftB ss gs) := by
  have e : (oddsI ss).length = ss.length := by unfold oddsI; simp
  exact fold_rows (odds_pos z.pos) (odds_bnd z.bits) (by rw [e]; exact hl _ (headD_mem hg)) gs _ (fun g h => by rw [e]; exact hl g h) (Rows.diag (odds_pos z.pos) (odds_bnd z.bits))
/-- zeros ahead of the i-th entry -/
def Zer (i : Nat) (r : List Int) : Prop := ∀ j, j < i → r.getD j 0 = 0
/-- a positive i-th entry behind zeros -/
def Pv (i : Nat) (r : List Int) : Prop := Zer i r ∧ 0 < r.getD i 0
theorem getD_zw {g : Int → Int → Int} {xs ys : List Int} {j : Nat} (h1 : j < xs.length) (h2 : j < ys.length) : (List.zipWith g xs ys).getD j 0 = g (xs.getD j 0) (ys.getD j 0) := by
  rw [List.getD_eq_getElem?_getD, zw_get (List.getElem?_eq_getElem h1) (List.getElem?_eq_getElem h2), List.getD_eq_getElem?_getD, List.getD_eq_getElem?_getD, List.getElem?_eq_getElem h1, List.getElem?_eq_getElem h2]
  rfl
theorem low_zer {odds piv rest : List Int} {i : Nat} (hi : i ≤ odds.length) (h1 : piv.length = odds.length) (h2 : rest.length = odds.length) (z1 : Zer i piv) (z2 : Zer i rest) : Zer i (nxtV odds piv rest i) := fun j hj => by
  have l1 := low_len (i := i) h1 h2
  unfold nxtV mod2
  rw [getD_zw (by omega) (by omega)]
  unfold lowV
  rw [getD_zw (by omega) (by omega), z1 j hj, z2 j hj]
  simp
/-- Euclid's steps leave a positive entry in the row and zero in the rest -/
theorem euc_tri {odds : List Int} (hp : ∀ o ∈ odds, 0 < o) {i : Nat} (hi : i < odds.length) : ∀ (f : Nat) (piv rest : List Int), RedV odds piv → RedV odds rest → Zer i rest → Pv i piv → (piv.getD i 0).toNat ≤ f →
    Pv i (euc odds i f piv rest).1 ∧ Zer (i + 1) (euc odds i f piv rest).2
  | 0, piv, rest, h1, h2, z2, z1, hf => by have := z1.2; omega
  | f + 1, piv, rest, h1, h2, z2, z1, hf => by
    show Pv i (if rest.getD i 0 = 0 then (piv, rest) else if (nxtV odds piv rest i).getD i 0 = 0 then (piv, nxtV odds piv rest i) else euc odds i f (nxtV odds piv rest i) piv).1 ∧ Zer (i + 1) (if rest.getD i 0 = 0 then (piv, rest) else if (nxtV odds piv rest i).getD i 0 = 0 then (piv, nxtV odds piv rest i) else euc odds i f (nxtV odds piv rest i) piv).2
    have last : ∀ {r : List Int}, Zer i r → r.getD i 0 = 0 → Zer (i + 1) r := fun {r} z e j hj => by
      by_cases e2 : j < i
      · exact z j e2
      · have : j = i := by omega
        subst this
        exact e
    have hz := low_zer (Nat.le_of_lt hi) h1.len h2.len z1.1 z2
    by_cases h0 : rest.getD i 0 = 0
    · rw [if_pos h0]; exact ⟨z1, last z2 h0⟩
    · rw [if_neg h0]
      obtain ⟨e1, e2, e3⟩ := euc_next hi h1 h2 z1.2
      by_cases h9 : (nxtV odds piv rest i).getD i 0 = 0
      · rw [if_pos h9]; exact ⟨z1, last hz h9⟩
      · rw [if_neg h9]
        exact euc_tri hp hi f _ _ (nxt_red hp h1.len h2.len) h1 z1.1 ⟨hz, by omega⟩ (by omega)
theorem withV_tri {odds : List Int} (hp : ∀ o ∈ odds, 0 < o) : ∀ (rows : List (List Int)) (i : Nat) (rest : List Int), RedV odds rest → Zer i rest → i + rows.length = odds.length → (∀ r ∈ rows, RedV odds r) → (∀ (j : Nat) r, rows[j]? = some r → Pv (i + j) r) →
    ∀ (j : Nat) r, (withV odds i rows rest)[j]? = some r → Pv (i + j) r
  | [], i, rest, _, _, _, _, _, j, r, h => by simp [withV] at h
  | row :: rows, i, rest, hr, z, hl, hrow, hpv, j, r, h => by
    have h1 := hrow row (List.mem_cons_self ..)
    have hi : i < odds.length := by rw [← hl, List.length_cons]; omega
    obtain ⟨e1, e3⟩ := euc_ok hp i (row.getD i 0).toNat row rest h1 hr
    obtain ⟨t1, t2⟩ := euc_tri hp hi (row.getD i 0).toNat row rest h1 hr z (hpv 0 row rfl) (Nat.le_refl _)
    cases j with
    | zero =>
      obtain rfl := Option.some.inj (show some (euc odds i (row.getD i 0).toNat row rest).1 = some r from h)
      exact t1
    | succ j =>
      have := withV_tri hp rows (i + 1) _ e3 t2 (by rw [← hl, List.length_cons]; omega) (fun r hr => hrow r (List.mem_cons_of_mem _ hr)) (fun j r hj => by
        have := hpv (j + 1) r hj
        rw [show i + 1 + j = i + (j + 1) by omega]
        exact this) j r h
      rw [show i + (j + 1) = i + 1 + j by omega]
      exact this
/-- rows with positive pivots behind zeros -/
def Tri (rows : List (List Int)) : Prop := ∀ (j : Nat) r, rows[j]? = some r → Pv j r
theorem diag_tri {odds : List Int} (hp : ∀ o ∈ odds, 0 < o) : Tri (diagI odds) := fun j r h => by
  have hj : j < odds.length := by
    have := (List.getElem?_eq_some_iff.mp h).1
    unfold diagI at this
    simpa using this
  have e : (diagI odds)[j]? = some (rowI odds j) := by
    unfold diagI
    rw [List.getElem?_map, List.getElem?_range hj]
    rfl
  rw [e] at h
  obtain rfl := Option.some.inj h
  unfold rowI
  refine ⟨fun i hi => ?_, ?_⟩
  · rw [List.getD_eq_getElem?_getD, List.getElem?_set_ne (by omega), List.getElem?_replicate]
    split <;> rfl
  · rw [List.getD_eq_getElem?_getD, List.getElem?_set_self (by simpa using hj), Option.getD_some, List.getD_eq_getElem?_getD, List.getElem?_eq_getElem hj]
    exact hp _ (List.getElem_mem hj)
theorem fold_tri {odds g0 : List Int} (hp : ∀ o ∈ odds, 0 < o) (hb : Bnd odds) (h0 : g0.length = odds.length) : ∀ (gs : List (List Int)) (rows : List (List Int)), (∀ g ∈ gs, g.length = odds.length) → Rows odds rows → Tri rows → Tri (gs.foldl (stepB odds g0) rows)
  | [], rows, _, _, h => h
  | g :: gs, rows, hg, hR, h => by
    have hv : (sub2 g g0).length = odds.length := by
      have := hg g (List.mem_cons_self ..)
      unfold sub2
      rw [List.length_zipWith, this, h0, Nat.min_self]
    refine fold_tri hp hb h0 gs _ (fun x hx => hg x (List.mem_cons_of_mem _ hx)) (hR.withV hp hb hv) fun j r hj => ?_
    have := withV_tri hp rows 0 _ (mod2_red hv hp) (fun j hj => absurd hj (Nat.not_lt_zero j)) (by rw [hR.len]; omega) hR.red (fun j r hj => by rw [Nat.zero_add]; exact h j r hj) j r hj
    rw [Nat.zero_add] at this
    exact this
theorem pivA_posT {rows : List (List Int)} (h : Tri rows) {i : Nat} (hi : i < rows.length) : 0 < pivA rows i := by
  have h2 := (h i _ (List.getElem?_eq_getElem hi)).2
  unfold pivA
  rw [show rows.getD i [] = rows[i] by rw [List.getD_eq_getElem?_getD, List.getElem?_eq_getElem hi]; rfl]
  exact h2
theorem pivP_pos {rows : List (List Int)} (h : Tri rows) : ∀ n : Nat, n ≤ rows.length → 0 < pivP rows n
  | 0, _ => by show (0 : Int) < 1; decide
  | n + 1, hn => by
    rw [pivP_succ]
    have h1 := pivP_pos h n (by omega)
    have hi : n < rows.length := by omega
    have h2 := (h n _ (List.getElem?_eq_getElem hi)).2
    have e : pivA rows n = rows[n].getD n 0 := by
      unfold pivA
      rw [show rows.getD n [] = rows[n] by rw [List.getD_eq_getElem?_getD, List.getElem?_eq_getElem hi]; rfl]
    rw [e]
    exact Int.mul_pos h1 h2
theorem piv_ones {rows : List (List Int)} (h : Tri rows) : ∀ n : Nat, n ≤ rows.length → pivP rows n = 1 → ∀ i, i < n → pivA rows i = 1
  | 0, _, _, i, hi => by omega
  | n + 1, hn, e, i, hi => by
    rw [pivP_succ] at e
    have h1 := pivP_pos h n (by omega)
    have h2 := pivA_posT h (i := n) (by omega)
    have e1 := Int.eq_one_of_mul_eq_one_right (Int.le_of_lt h1) e
    have e2 := Int.eq_one_of_mul_eq_one_left (Int.le_of_lt h2) e
    by_cases c : i = n
    · subst c; exact e2
    · exact piv_ones h n (by omega) e1 i (by omega)
theorem withV_one {odds : List Int} (hp : ∀ o ∈ odds, 0 < o) : ∀ (rows : List (List Int)) (i : Nat) (rest : List Int), RedV odds rest → i + rows.length = odds.length → (∀ r ∈ rows, RedV odds r) → (∀ (j : Nat) r, rows[j]? = some r → r.getD (i + j) 0 = 1) → withV odds i rows rest = rows
  | [], _, _, _, _, _, _ => rfl
  | row :: rows, i, rest, hr, hl, hrow, h1 => by
    have hi : i < odds.length := by rw [← hl, List.length_cons]; omega
    have hrr := hrow row (List.mem_cons_self ..)
    have e1 : row.getD i 0 = 1 := h1 0 row rfl
    obtain ⟨_, e3⟩ := euc_ok hp i (row.getD i 0).toNat row rest hrr hr
    have e : (euc odds i (row.getD i 0).toNat row rest).1 = row := by
      rw [e1]
      show (if rest.getD i 0 = 0 then (row, rest) else if (nxtV odds row rest i).getD i 0 = 0 then (row, nxtV odds row rest i) else euc odds i 0 (nxtV odds row rest i) row).1 = row
      split
      · rfl
      · obtain ⟨n1, n2, n3⟩ := euc_next hi hrr hr (by omega)
        rw [if_pos (by omega)]
    show (euc odds i (row.getD i 0).toNat row rest).1 :: withV odds (i + 1) rows (euc odds i (row.getD i 0).toNat row rest).2 = _
    rw [e, withV_one hp rows (i + 1) _ e3 (by rw [← hl, List.length_cons]; omega) (fun r hr => hrow r (List.mem_cons_of_mem _ hr)) fun j r hj => by
      have := h1 (j + 1) r hj
      rw [show i + 1 + j = i + (j + 1) by omega]
      exact this]
/-- a lattice that has all vectors stays as it is -/
theorem fold_done {odds g0 : List Int} (hp : ∀ o ∈ odds, 0 < o) (h0 : g0.length = odds.length) {rows : List (List Int)} (hR : Rows odds rows) (hT : Tri rows) (h1 : pivP rows rows.length = 1) : ∀ (gs : List (List Int)), (∀ g ∈ gs, g.length = odds.length) → gs.foldl (stepB odds g0) rows = rows
  | [], _ => rfl
  | g :: gs, hg => by
    have hv : (sub2 g g0).length = odds.length := by
      have := hg g (List.mem_cons_self ..)
      unfold sub2
      rw [List.length_zipWith, this, h0, Nat.min_self]
    rw [List.foldl_cons]
    have e : stepB odds g0 rows g = rows := withV_one hp rows 0 _ (mod2_red hv hp) (by rw [hR.len]; omega) hR.red fun j r hj => by
      have hj2 := (List.getElem?_eq_some_iff.mp hj).1
      have e := piv_ones hT rows.length (Nat.le_refl _) h1 j hj2
      unfold pivA at e
      rw [List.getD_eq_getElem?_getD (l := rows), hj] at e
      rw [Nat.zero_add]
      exact e
    rw [e]
    exact fold_done hp h0 hR hT h1 gs fun x hx => hg x (List.mem_cons_of_mem _ hx)
/-- targets gs at tg -/
def TgtAt (k : Bool) (H : Hp) (tg : Addr) (gs : List (List Int)) : Prop := ∃ as : List Addr, Sqh k H tg (as.map V.ref) ∧ AsT H as gs
theorem TgtAt.same {k : Bool} {H H' : Hp} {tg : Addr} {gs : List (List Int)} (e : Same H H') (h : TgtAt k H tg gs) : TgtAt k H' tg gs := by
  obtain ⟨as, h1, h2⟩ := h
  exact ⟨as, h1.same e, h2.same e⟩
theorem ix_seq {k : Bool} {H : Hp} {p : Addr} {xs : List V} {i : Int} {v : V} {R : V → Prop} (h : Sqh k H p xs) (hv : atI xs i = some v) (q : R v) :
    (∃ xs, H p = some (HO.lst xs) ∧ ∃ v, atI xs i = some v ∧ R v) ∨ ∃ xs, H p = some (HO.tup xs) ∧ ∃ v, atI xs i = some v ∧ R v := by
  cases k with
  | true => exact .inl ⟨xs, h, v, hv, q⟩
  | false => exact .inr ⟨xs, h, v, hv, q⟩
def MS1 (z tg : Addr) (ss : List Int) (H : Hp) (σ : L2.St) (H' : Hp) : Prop := ∃ o, σ = [some (V.ref z), some (V.ref tg), some (V.ref o), none, none, none] ∧ Same H H' ∧ H' o = some (.lst ((oddsI ss).map V.int))
def MS2 (z tg o : Addr) (ss : List Int) (H : Hp) (σ : L2.St) (H' : Hp) : Prop := ∃ b, σ = [some (V.ref z), some (V.ref tg), some (V.ref o), some (V.ref b), none, none] ∧ Same H H' ∧ LstL H' b (diagI (oddsI ss))
def MS3 (z tg o : Addr) (res : List (List Int)) (H : Hp) (σ : L2.St) (H' : Hp) : Prop := ∃ b v4 v5, σ = [some (V.ref z), some (V.ref tg), some (V.ref o), some (V.ref b), v4, v5] ∧ Same H H' ∧ LstL H' b res
def MS4 (z tg o : Addr) (res : List (List Int)) (H : Hp) (σ : L2.St) (H' : Hp) : Prop := ∃ b v4 v5, σ = [some (V.ref z), some (V.ref tg), some (V.ref o), some (V.ref b), v4, v5] ∧ Same H H' ∧ LstL H' b res
def sp_shift_basis (K : PySem.W.Frag) : Sp := fun vs H Q _ => ∃ (kz k : Bool) (z tg : Addr) (ss : List Int) (gs : List (List Int)), vs = [.ref z, .ref tg] ∧ Sqh kz H z (ss.map V.int) ∧ TgtAt k H tg gs ∧ gs ≠ [] ∧ (∀ g ∈ gs, g.length = ss.length) ∧ Sz ss ∧
  ∀ H' D, Same H H' → LstL H' D (shiftB ss gs) → Q (.ref D) H'
theorem ok_shift_basis (T : Tx K mg) : FnOk P w K mg base CX0 3 T.f_shift_basis T.fd_shift_basis ["sizes", "targets"] (sp_shift_basis K) := by
  refine T.F_shift_basis.ok sc_shift_basis (fun vs H Q E h => ?_) (fun cdv A outer s H vs Q E hr h => ?_)
  · obtain ⟨kz, k, z, tg, ss, gs, rfl, _⟩ := h; rfl
  · obtain ⟨kz, k, zz, tg, ss, gs, rfl, hz, ⟨as, htg, hA⟩, hne, hgl, z, q⟩ := h
    refine ⟨_, (C8.pss_cut (ps_setLc (i := 2) (own := [("size", 5)]) (g := (gName 5)) (tt := tYes) rfl sc_shift_basis.nd rfl rfl (sw_true rfl rfl rfl (by decide +kernel)) (pi_seqH (pv 0)) (blkOk_by (own := [("size", 5)]) (N := N_shift_basis) (sc := defScope d_shift_basis) (by decide +kernel)) (fun _ _ _ _ _ => (pg_name (i := 5) sc_shift_basis.nd rfl (Or.inl rfl))) (fun _ _ _ _ _ => pts_nil) (fun _ _ _ _ _ => (pe_call (ok_odd_part T) (hr.mono (by decide)) (by rfl) T.g_odd_part T.F_odd_part.kp T.b_odd_part .nil pass0 (pa_cons (pv 5) pa_nil))))
      (C8.pss_cut (ps_set (i := 3) sc_shift_basis.nd rfl (Or.inl rfl) (pe_call (ok_diagonal T) (hr.mono (by decide)) (by rfl) T.g_diagonal T.F_diagonal.kp T.b_diagonal .nil pass0 (pa_cons (pv 2) pa_nil)))
      (C8.pss_cut (ps_for PassesOwn.never rfl (pi_seqH (pv 1)) (pg_name (i := 4) sc_shift_basis.nd rfl (Or.inl rfl))
        (C8.pss_cut (ps_set (i := 3) sc_shift_basis.nd rfl (Or.inl rfl) (pe_call (ok_with_vector T) (hr.mono (by decide)) (by rfl) T.g_with_vector T.F_with_vector.kp T.b_with_vector .nil pass0 (pa_cons (pv 3) (pa_cons (pv 2) (pa_cons (pe_call (ok_difference T) (hr.mono (by decide)) (by rfl) T.g_difference T.F_difference.kp T.b_difference .nil pass0 (pa_cons (pv 4) (pa_cons (pe_ix (IxR.or ix_lH ix_tH) (pv 1) pe_int (fun _ _ => rfl)) pa_nil))) pa_nil)))))
        (pss_one (ps_if (pt_cmpR op_eq (pe_call (ok_pivot_product T) (hr.mono (by decide)) (by rfl) T.g_pivot_product T.F_pivot_product.kp T.b_pivot_product .nil pass0 (pa_cons (pv 3) pa_nil)) pe_int (nomark _)) (pss_one (ps_ret (pv 3))) pss_nil))))
      (pss_one (ps_ret (pv 3)))))), ?_⟩
    have el : (oddsI ss).length = ss.length := by unfold oddsI; simp
    have hn4 := z.hi
    have hn1 := z.lo
    refine ⟨MS1 zz tg ss H, ?_, ?_⟩
    · walk_at "rd"
      have main : ∀ (J : It) (G : Hp → Prop), Walk J (ss.map V.int).length G (YAt (ss.map V.int)) → (∀ H', Same H H' → G H') → LcR J (gName 5) tYes (tCall (sp_odd_part K) [] E0 (tCons (tVar 5) tNil)) [5] [some (V.ref zz), some (V.ref tg), none, none, none, none] H fun x H1 => MS1 zz tg ss H [some (V.ref zz), some (V.ref tg), some x, none, none, none] H1 := by
        intro J G W hG
        refine lcr_map W ((oddsI ss).map V.int) (by rw [List.length_map, List.length_map, el]) ?_ hG (fun _ _ _ _ y => YAt.same y) ?_ fun D H3 hD s3 h3 => ⟨D, rfl, s3, h3⟩
        · rw [List.length_map]
          exact Nat.le_trans hn4 (by decide)
        · rintro i x H3 H4 y Qy hi s3 ⟨rfl, hx⟩ hr hq
          unfold oddsI at hr
          simp only [List.getElem?_map, Option.map_eq_some_iff] at hr hx
          obtain ⟨x2, hx2, rfl⟩ := hx
          obtain ⟨r, ⟨r2, hr2, rfl⟩, rfl⟩ := hr
          rw [hx2] at hr2
          obtain rfl := Option.some.inj hr2
          walk_at "rd"
          exact ⟨x2, rfl, z.pos _ (List.mem_of_getElem? hx2), Nat.lt_of_lt_of_le (z.bits _ (List.mem_of_getElem? hx2)) (Nat.pow_le_pow_right (by decide) (by decide)), hq _ (Same.refl _)⟩
      cases kz with
      | true => exact .inl ⟨_, hz, fun J W => main J _ W fun H' s => s _ _ hz⟩
      | false => exact .inr ⟨_, hz, fun J W => main J _ W fun H' s => s _ _ hz⟩
    rintro σ1 H1 ⟨o, rfl, s1, ho⟩
    refine ⟨MS2 zz tg o ss H1, ?_, ?_⟩
    · walk_at "rd"
      exact ⟨o, oddsI ss, rfl, ho, by omega, fun H2 D s2 hD hL => ⟨D, rfl, s2, hL⟩⟩
    rintro σ2 H2 ⟨b, rfl, s2, hb2⟩
    have s02 := s1.trans s2
    have ho2 := s2 _ _ ho
    refine ⟨MS3 zz tg o (shiftB ss gs) H2, ?_, ?_⟩
    · walk_at "rd"
      have htg2 := htg.same s02
      have hA2 := hA.same s02
      have h0m := headD_mem hne
      obtain ⟨a0, ha0⟩ : ∃ a0, as[0]? = some a0 := by
        have : 0 < as.length := by rw [hA.1]; exact List.length_pos_iff.mpr hne
        exact ⟨as[0], List.getElem?_eq_getElem this⟩
      have hg0 : gs[0]? = some (gs.headD []) := by
        cases gs with
        | nil => exact absurd rfl hne
        | cons g gs => rfl
      have main : ∀ (J : It) (G : Hp → Prop), Walk J (as.map V.ref).length G (YAt (as.map V.ref)) → (∀ H', Same H2 H' → G H') → ForR J (gName 4)
          (C8.tCut (tAsg (tCall (sp_with_vector K) [] E0 (tCons (tVar 3) (tCons (tVar 2) (tCons (tCall (sp_difference K) [] E0 (tCons (tVar 4) (tCons (tOp (fun x y H Q => (∃ p, x = V.ref p ∧ ∃ x, y = V.int x ∧ ∃ xs, H p = some (HO.lst xs) ∧ ∃ v, atI xs x = some v ∧ Q v H) ∨
            ∃ p, x = V.ref p ∧ ∃ x, y = V.int x ∧ ∃ xs, H p = some (HO.tup xs) ∧ ∃ v, atI xs x = some v ∧ Q v H) (tVar 1) (tC (V.int 0))) tNil))) tNil)))) (gName 3)) (tIfS (tTest (tOp rEq (tCall (sp_pivot_product K) [] E0 (tCons (tVar 3) tNil)) (tC (V.int 1)))) (tRet (tVar 3)) tNext)) { nx := MS3 zz tg o (shiftB ss gs) H2, rt := Q } [some (V.ref zz), some (V.ref tg), some (V.ref o), some (V.ref b), none, none] H2 := by
        intro J G W hG
        refine forr W (fun i σ H' => ∃ b' v4 v5, σ = [some (V.ref zz), some (V.ref tg), some (V.ref o), some (V.ref b'), v4, v5] ∧ Same H2 H' ∧ LstL H' b' ((gs.take i).foldl (stepB (oddsI ss) (gs.headD [])) (diagI (oddsI ss)))) ⟨b, none, none, rfl, Same.refl _, hb2⟩ (fun i σ H' _ h => by obtain ⟨_, _, _, _, h, _⟩ := h; exact hG _ h) ?_ ?_
        · rintro i x σ3 H3o H3 hi ⟨b', v4, v5, rfl, s3, hb3⟩ ⟨rfl, hx⟩
          simp only [List.getElem?_map, Option.map_eq_some_iff] at hx
          obtain ⟨a, ha, rfl⟩ := hx
          rw [List.length_map, hA.1] at hi
          have hg := List.getElem?_eq_getElem hi
          have hga := (hA2.same s3).2 i a _ ha hg
          have hga0 := (hA2.same s3).2 0 a0 _ ha0 hg0
          have hgl1 := hgl _ (List.getElem_mem hi)
          have hgl0 := hgl _ h0m
          have hsub : (sub2 gs[i] (gs.headD [])).length = (oddsI ss).length := by
            unfold sub2
            rw [List.length_zipWith, hgl1, hgl0, Nat.min_self, el]
          have hR := fold_rows (odds_pos z.pos) (odds_bnd z.bits) (by rw [hgl0, el]) (gs.take i) _ (fun g h => by rw [el]; exact hgl g (List.mem_of_mem_take h)) (Rows.diag (odds_pos z.pos) (odds_bnd z.bits))
          have hTr := fold_tri (odds_pos z.pos) (odds_bnd z.bits) (by rw [hgl0, el]) (gs.take i) _ (fun g h => by rw [el]; exact hgl g (List.mem_of_mem_take h)) (Rows.diag (odds_pos z.pos) (odds_bnd z.bits)) (diag_tri (odds_pos z.pos))
          have hR1 := fold_rows (odds_pos z.pos) (odds_bnd z.bits) (by rw [hgl0, el]) (gs.take (i + 1)) _ (fun g h => by rw [el]; exact hgl g (List.mem_of_mem_take h)) (Rows.diag (odds_pos z.pos) (odds_bnd z.bits))
          have hTr1 := fold_tri (odds_pos z.pos) (odds_bnd z.bits) (by rw [hgl0, el]) (gs.take (i + 1)) _ (fun g h => by rw [el]; exact hgl g (List.mem_of_mem_take h)) (Rows.diag (odds_pos z.pos) (odds_bnd z.bits)) (diag_tri (odds_pos z.pos))
          refine ⟨MS4 zz tg o ((gs.take (i + 1)).foldl (stepB (oddsI ss) (gs.headD [])) (diagI (oddsI ss))) H2, ?_, ?_⟩
          · walk_at "rd"
            have hv0 : atI (as.map V.ref) (0 : Int) = some (V.ref a0) := atI_nat (j := 0) (by rw [List.getElem?_map, ha0]; rfl)
            refine ix_seq (i := 0) (htg2.same s3) hv0 ?_
            refine ⟨false, false, a, a0, gs[i], gs.headD [], rfl, hga, hga0, by rw [hgl1, hgl0], by omega, fun H4 d s4 hd hd4 => ?_⟩
            refine ⟨b', o, d, true, _, oddsI ss, _, rfl, hb3.same s4, s4 _ _ (s3 _ _ ho2), hd4, hR.len, hsub, by omega, by omega, hR.red, fun j r hj => (hTr j r hj).2, odds_pos z.pos, odds_bnd z.bits, fun H5 D s5 hD hL => ?_⟩
            refine ⟨D, _, _, rfl, (s3.trans s4).trans s5, ?_⟩
            rw [List.take_add_one, hg, List.foldl_append]
            exact hL
          rintro σ4 H4 ⟨b4, v4, v5, rfl, s4, hb4⟩
          walk_at "rd"
          refine ⟨b4, oddsI ss, _, rfl, hb4, hR1, by omega, fun H5 s5 => ?_⟩
          walk_at "rd"
          split
          · rename_i e1
            have hfull : shiftB ss gs = (gs.take (i + 1)).foldl (stepB (oddsI ss) (gs.headD [])) (diagI (oddsI ss)) := by
              have := fold_done (odds_pos z.pos) (by rw [hgl0, el]) hR1 hTr1 e1 (gs.drop (i + 1)) fun g h => by rw [el]; exact hgl g (List.mem_of_mem_drop h)
              rw [← List.foldl_append, List.take_append_drop] at this
              exact this
            refine q _ b4 ((s02.trans s4).trans s5) ?_
            rw [hfull]
            exact hb4.same s5
          · exact ⟨s4.trans s5, hb4.same s5⟩
        · rintro σ3 H3 ⟨b', v4, v5, rfl, s3, hb3⟩
          refine ⟨b', v4, v5, rfl, s3, ?_⟩
          rw [List.length_map, hA.1, List.take_length] at hb3
          exact hb3
      cases k with
      | true => exact .inl ⟨_, htg2, fun J W => main J _ W fun H' s => s _ _ htg2⟩
      | false => exact .inr ⟨_, htg2, fun J W => main J _ W fun H' s => s _ _ htg2⟩
    rintro σ3 H3 ⟨b3, v4, v5, rfl, s3, hb3⟩
    walk_at "rd"
    exact q _ b3 (s02.trans s3) hb3
end

section
variable {P : Program} {w : World} {K : PySem.W.Frag} {mg : Str → Option Value} {base : Heap}
theorem or_seq {k : Bool} {H : Hp} {p : Addr} {xs : List V} {R : List V → Prop} (h : Sqh k H p xs) (r : R xs) : (∃ xs, H p = some (HO.lst xs) ∧ R xs) ∨ ∃ xs, H p = some (HO.tup xs) ∧ R xs := by
  cases k with
  | true => exact .inl ⟨xs, h, r⟩
  | false => exact .inr ⟨xs, h, r⟩
def sp_require_seats (K : PySem.W.Frag) : Sp := fun vs H Q _ => ∃ (kz k : Bool) (z tg : Addr) (ss : List Int) (gs : List (List Int)), vs = [.ref z, .ref tg] ∧ Sqh kz H z (ss.map V.int) ∧ TgtAt k H tg gs ∧ gs.Nodup ∧ gs.length < 60 ∧ (∀ g ∈ gs, Seat ss g) ∧ Sz ss ∧ ∀ H', Same H H' → Q .non H'
theorem ok_require_seats (T : Tx K mg) : FnOk P w K mg base CX0 2 T.f_require_seats T.fd_require_seats ["sizes", "seats"] (sp_require_seats K) := by
  refine T.F_require_seats.ok sc_require_seats (fun vs H Q E h => ?_) (fun cdv A outer s H vs Q E hr h => ?_)
  · obtain ⟨kz, k, z, tg, ss, gs, rfl, _⟩ := h; rfl
  · obtain ⟨kz, k, zz, tg, ss, gs, rfl, hz, ⟨as, htg, hA⟩, hnd, h60, hSt, z, q⟩ := h
    refine ⟨_, (pss_cons (ps_if (pt_not (pt_val (pe_callB (call_isAK (K := K) rfl) (by rfl) T.n_isinstance (by decide +kernel) (pa_cons (pv 1) (pa_cons (pe_tup (pa_cons (pe_bltn (v := .ty "list") (by rfl) T.n_list (by decide +kernel) rfl) (pa_cons (pe_bltn (v := .ty "tuple") (by rfl) T.n_tuple (by decide +kernel) rfl) pa_nil))) pa_nil))))) (pss_one ps_never) pss_nil)
      (pss_cons (ps_set (i := 2) sc_require_seats.nd rfl (Or.inl rfl) (pe_callTy0 cr_set0T (by rfl) T.n_set (by decide +kernel)))
      (pss_one (ps_for PassesOwn.never rfl (pi_enH (by rfl) T.n_enumerate (pa_cons (pv 1) pa_nil)) (pg_tupH (n := 2) rfl (pgs_cons (pg_name (i := 3) sc_require_seats.nd rfl (Or.inl rfl)) (pgs_cons (pg_name (i := 4) sc_require_seats.nd rfl (Or.inl rfl)) pgs_nil)))
        (pss_cons (ps_if (PW.pt (pw_or (pt_not (pt_val (pe_call (ok_is_seat T) (hr.mono (by decide)) (by rfl) T.g_is_seat T.F_is_seat.kp T.b_is_seat .nil pass0 (pa_cons (pv 0) (pa_cons (pv 4) pa_nil))))) (pw_or1 (pt_cmpR (op_inT hr.units) (pv 4) (pv 2) rfl)))) (pss_one ps_never) pss_nil)
        (pss_one (ps_expr (pe_addT hr.units (pv 2) (pa_cons (pv 4) pa_nil))))))))), ?_⟩
    walk_at "rd"
    intro tp htp
    have s1 := Same.new htp (o := .tup [V.ty "list", V.ty "tuple"])
    generalize upd H tp (HO.tup [V.ty "list", V.ty "tuple"]) = H1 at s1 ⊢
    refine ⟨true, ?_, ?_⟩
    · cases k with
      | true => exact isA_two (b1 := true) (b2 := false) (.base (.lst (s1 _ _ htg))) (by decide +kernel) (by decide +kernel) rfl
      | false => exact isA_two (b1 := false) (b2 := true) (.base (.tup (s1 _ _ htg))) (by decide +kernel) (by decide +kernel) rfl
    rw [if_neg (by decide)]
    refine ⟨rfl, fun S hS => ?_⟩
    have s2 := Same.new hS (o := SetTO P w S [])
    have f2 : (upd H1 S (SetTO P w S [])) S = some (SetTO P w S []) := upd_same
    generalize upd H1 S (SetTO P w S []) = H2 at s2 f2 ⊢
    have s02 := s1.trans s2
    have hHS : H S = none := by
      cases e : H S with
      | none => rfl
      | some u => rw [s1 _ _ e] at hS; cases hS
    refine ⟨k, as.map V.ref, htg.same s02, fun J W => ?_⟩
    refine forr W (fun i σ H' => Same H H' ∧ ∃ L v3 v4, σ = [some (V.ref zz), some (V.ref tg), some (V.ref S), v3, v4] ∧ H' S = some (SetTO P w S L) ∧ L.length = i ∧ (∀ p ∈ L, H p.1 = some (.tup (p.2.map V.int))) ∧ ∀ g, g ∈ L.map (·.2) ↔ g ∈ gs.take i)
      ⟨s02, [], none, none, rfl, f2, rfl, by simp, by simp⟩ (fun i σ H' _ h => htg.same h.1) ?_ ?_
    · rintro i x σ3 H3 H4 hi ⟨s3, L, v3, v4, rfl, hS3, hLl, hL, hLm⟩ ⟨T0, x1, rfl, hT, rfl, hx⟩
      simp only [List.getElem?_map, Option.map_eq_some_iff] at hx
      obtain ⟨a, ha, rfl⟩ := hx
      rw [List.length_map, hA.1] at hi
      have hg := List.getElem?_eq_getElem hi
      have haH := hA.2 i a _ ha hg
      have hSg := hSt _ (List.getElem_mem hi)
      have sT := Same.new hT (o := .tup [V.int (i : Nat), V.ref a])
      walk_at "rd"
      generalize upd H3 T0 (HO.tup [V.int (i : Nat), V.ref a]) = H4 at sT ⊢
      have s04 := s3.trans sT
      refine ⟨kz, zz, ss, .ref a, true, rfl, hz.same s04, hSg.b z (s04 _ _ haH), fun H5 s5 => ⟨true, rfl, ?_⟩⟩
      rw [if_neg (by decide)]
      have s05 := s04.trans s5
      have hS5 := s5 _ _ (sT _ _ hS3)
      have hgn : gs[i] ∉ gs.take i := by
        intro hm
        obtain ⟨j, hj, e⟩ := List.getElem_of_mem hm
        rw [List.length_take] at hj
        rw [List.getElem_take] at e
        exact absurd e (List.pairwise_iff_getElem.mp hnd j i (by omega) hi (by omega))
      have hgL : gs[i] ∉ L.map (·.2) := fun h => hgn ((hLm _).mp h)
      refine ⟨a, S, gs[i], L, rfl, rfl, s05 _ _ haH, hS5, fun p hp => s05 _ _ (hL p hp), ?_⟩
      refine ⟨_, rfl, ?_⟩
      rw [if_neg Bool.false_ne_true, decide_eq_false hgL, if_neg Bool.false_ne_true]
      simp only [tAddT]
      walk_at "rd"
      refine ⟨⟨L, hS5⟩, a, S, gs[i], L, rfl, rfl, s05 _ _ haH, hS5, fun p hp => s05 _ _ (hL p hp), by omega, fun L' _ hperm => ?_⟩
      have hp := hperm hgL
      refine ⟨fun c u hc => by rw [upd_ne (ne_some hc hHS)]; exact s05 _ _ hc, L', upd_same, by rw [hp.length_eq, List.length_cons, hLl], fun p hpm => ?_, fun g => ?_⟩
      · rcases List.mem_cons.mp (hp.mem_iff.mp hpm) with rfl | h
        · exact haH
        · exact hL p h
      · rw [(hp.map _).mem_iff, List.map_cons, List.mem_cons, hLm]
        have e : gs.take (i + 1) = gs.take i ++ [gs[i]] := by rw [List.take_add_one, hg]; rfl
        rw [e, List.mem_append, List.mem_singleton]
        exact Or.comm
    · rintro σ3 H3 ⟨s3, L, v3, v4, rfl, hS3, hLl, hL, hLm⟩
      exact q _ s3
def sp_require_targets (K : PySem.W.Frag) : Sp := fun vs H Q _ => ∃ (kz k : Bool) (z tg : Addr) (ss : List Int) (gs : List (List Int)), vs = [.ref z, .ref tg] ∧ Sqh kz H z (ss.map V.int) ∧ TgtAt k H tg gs ∧ gs ≠ [] ∧ gs.Nodup ∧ gs.length < 60 ∧ (∀ g ∈ gs, Seat ss g) ∧ Sz ss ∧ ∀ H', Same H H' → Q .non H'
theorem ok_require_targets (T : Tx K mg) : FnOk P w K mg base CX0 3 T.f_require_targets T.fd_require_targets ["sizes", "targets"] (sp_require_targets K) := by
  refine T.F_require_targets.ok sc_require_targets (fun vs H Q E h => ?_) (fun cdv A outer s H vs Q E hr h => ?_)
  · obtain ⟨kz, k, z, tg, ss, gs, rfl, _⟩ := h; rfl
  · obtain ⟨kz, k, zz, tg, ss, gs, rfl, hz, hG, hne, hnd, h60, hSt, z, q⟩ := h
    refine ⟨_, (pss_cons (ps_expr (pe_call (ok_require_seats T) (hr.mono (by decide)) (by rfl) T.g_require_seats T.F_require_seats.kp T.b_require_seats .nil pass0 (pa_cons (pv 0) (pa_cons (pv 1) pa_nil))))
      (pss_one (ps_if (pt_cmpR op_eq (pe_callB len_H (by rfl) T.n_len PySem.boot_len (pa_cons (pv 1) pa_nil)) pe_int (nomark _)) (pss_one ps_never) pss_nil))), ?_⟩
    walk_at "rd"
    refine ⟨kz, k, zz, tg, ss, gs, rfl, hz, hG, hnd, h60, hSt, z, fun H1 s1 => ?_⟩
    obtain ⟨as, htg, hA⟩ := hG.same s1
    have hl0 : 0 < as.length := by rw [hA.1]; exact List.length_pos_iff.mpr hne
    refine or_seq htg ?_
    rw [if_neg (by rw [List.length_map]; omega)]
    exact q _ s1
end

section
variable {P : Program} {w : World} {K : PySem.W.Frag} {mg : Str → Option Value} {base : Heap}
def cosetI (ss : List Int) (gs : List (List Int)) : Int := pivP (shiftB ss gs) ss.length
/-- valid targets -/
structure Tgts (ss : List Int) (gs : List (List Int)) : Prop where
  ne : gs ≠ []
  nd : gs.Nodup
  few : gs.length < 60
  ok : ∀ g ∈ gs, Seat ss g
def sp_coset_count (K : PySem.W.Frag) (C : Addr) : Sp := fun vs H Q _ => ∃ (k : Bool) (a tg : Addr) (ss : List Int) (gs : List (List Int)), vs = [.ref a, .ref tg] ∧ TabAt C H a ss ∧ TgtAt k H tg gs ∧ Tgts ss gs ∧ Sz ss ∧ ∀ H', Same H H' → Q (.int (cosetI ss gs)) H'
theorem ok_coset_count (T : Tx K mg) : FnOk P w K mg base CX0 4 T.f_coset_count T.fd_coset_count ["table", "targets"] (sp_coset_count K T.c_Table) := by
  refine T.F_coset_count.ok sc_coset_count (fun vs H Q E h => ?_) (fun cdv A outer s H vs Q E hr h => ?_)
  · obtain ⟨k, a, tg, ss, gs, rfl, _⟩ := h; rfl
  · obtain ⟨k, a, tg, ss, gs, rfl, hT, hG, hgs, z, q⟩ := h
    refine ⟨_, (pss_cons (ps_set (i := 2) sc_coset_count.nd rfl (Or.inl rfl) (pe_call (ok_sizes_of T) (hr.mono (by decide)) (by rfl) T.g_sizes_of T.F_sizes_of.kp T.b_sizes_of .nil pass0 (pa_cons (pv 0) pa_nil)))
      (pss_cons (ps_expr (pe_call (ok_require_targets T) (hr.mono (by decide)) (by rfl) T.g_require_targets T.F_require_targets.kp T.b_require_targets .nil pass0 (pa_cons (pv 2) (pa_cons (pv 1) pa_nil))))
      (pss_one (ps_ret (pe_call (ok_pivot_product T) (hr.mono (by decide)) (by rfl) T.g_pivot_product T.F_pivot_product.kp T.b_pivot_product .nil pass0 (pa_cons (pe_call (ok_shift_basis T) (hr.mono (by decide)) (by rfl) T.g_shift_basis T.F_shift_basis.kp T.b_shift_basis .nil pass0 (pa_cons (pv 2) (pa_cons (pv 1) pa_nil))) pa_nil)))))), ?_⟩
    walk_at "rd"
    refine ⟨a, ss, rfl, hT, fun t ht => ⟨false, k, t, tg, ss, gs, rfl, ht, hG, hgs.ne, hgs.nd, hgs.few, hgs.ok, z, fun H1 s1 => ?_⟩⟩
    have hlen : ∀ g ∈ gs, g.length = ss.length := fun g hg => (hgs.ok g hg).len
    refine ⟨false, k, t, tg, ss, gs, rfl, s1 _ _ ht, hG.same s1, hgs.ne, hlen, z, fun H2 D s2 hL => ?_⟩
    have hR := shift_rows z hgs.ne hlen
    have hn := hR.len
    have el : (oddsI ss).length = ss.length := by unfold oddsI; simp
    refine ⟨D, oddsI ss, shiftB ss gs, rfl, hL, hR, by have := z.hi; omega, fun H3 s3 => ?_⟩
    rw [hn, el]
    exact q _ ((s1.trans s2).trans s3)
theorem shift_tri {ss : List Int} {gs : List (List Int)} (z : Sz ss) (hg : gs ≠ []) (hl : ∀ g ∈ gs, g.length = ss.length) : Tri (shiftB ss gs) := by
  have e : (oddsI ss).length = ss.length := by unfold oddsI; simp
  exact fold_tri (odds_pos z.pos) (odds_bnd z.bits) (by rw [e]; exact hl _ (headD_mem hg)) gs _ (fun g h => by rw [e]; exact hl g h) (Rows.diag (odds_pos z.pos) (odds_bnd z.bits)) (diag_tri (odds_pos z.pos))
end

section
variable {P : Program} {w : World} {K : PySem.W.Frag} {mg : Str → Option Value} {base : Heap}
theorem walk_itc {lo c : Int} {n : Nat} : Walk (Itc lo c n) n (fun _ => True) (YFn fun i => .int (lo + (i : Nat) * c)) := by
  refine ⟨fun i _ hi _ => hi, fun _ _ => Nat.le_refl _, fun i H v H' _ _ y => y⟩
def BW (B : Nat) (w : List Int) : Prop := ∀ x ∈ w, x.natAbs < 2 ^ B
theorem dot_bnd {a b : Nat} : ∀ (xs ys : List Int), (∀ x ∈ xs, x.natAbs < 2 ^ a) → (∀ y ∈ ys, y.natAbs < 2 ^ b) → (dot xs ys).natAbs < 2 ^ (a + b) * (xs.length + 1)
  | [], _, _, _ => by
    have : 0 < 2 ^ (a + b) := Nat.pow_pos (by decide)
    simpa [dot] using this
  | x :: xs, [], _, _ => by
    have h : 0 < 2 ^ (a + b) := Nat.pow_pos (by decide)
    have : 0 < 2 ^ (a + b) * ((x :: xs).length + 1) := Nat.mul_pos h (Nat.succ_pos _)
    simpa [dot] using this
  | x :: xs, y :: ys, hx, hy => by
    have h1 : (x * y).natAbs < 2 ^ (a + b) := wide_lt (hx x (List.mem_cons_self ..)) (hy y (List.mem_cons_self ..))
    have h2 := dot_bnd xs ys (fun x h => hx x (List.mem_cons_of_mem _ h)) (fun y h => hy y (List.mem_cons_of_mem _ h))
    have h3 : (dot (x :: xs) (y :: ys)).natAbs ≤ (x * y).natAbs + (dot xs ys).natAbs := Int.natAbs_add_le _ _
    rw [List.length_cons, Nat.mul_succ]
    omega
def wstep (rows : List (List Int)) (i : Nat) (w : List Int) : List Int := w.set i (-(dot (rows.getD i []) w) / pivA rows i)
def invC (rows : List (List Int)) (m : Int) (c : Nat) (k : Nat) : List Int := (List.range k).foldl (fun w j => wstep rows (c - 1 - j) w) ((List.replicate rows.length (0 : Int)).set c (m / pivA rows c))
theorem invC_succ (rows : List (List Int)) (m : Int) (c k : Nat) : invC rows m c (k + 1) = wstep rows (c - 1 - k) (invC rows m c k) := by
  unfold invC
  rw [List.range_succ, List.foldl_append]
  rfl
theorem invC_len (rows : List (List Int)) (m : Int) (c : Nat) : ∀ k, (invC rows m c k).length = rows.length
  | 0 => by unfold invC; simp
  | k + 1 => by rw [invC_succ]; unfold wstep; rw [List.length_set, invC_len rows m c k]
theorem row_at {odds : List Int} {rows : List (List Int)} (h : Rows odds rows) {i : Nat} (hi : i < rows.length) : rows.getD i [] = rows[i] ∧ rows[i].length = odds.length ∧ Bnd rows[i] := by
  refine ⟨by rw [List.getD_eq_getElem?_getD, List.getElem?_eq_getElem hi]; rfl, h.row _ (List.getElem_mem hi)⟩
theorem invC_bnd {odds : List Int} {rows : List (List Int)} (h : Rows odds rows) (h4 : odds.length ≤ 4) {m : Int} (hm : m.natAbs < 2 ^ 4001) (c : Nat) : ∀ k, BW (4001 + 1003 * k) (invC rows m c k)
  | 0 => fun x hx => by
    unfold invC at hx
    rcases List.mem_or_eq_of_mem_set hx with h1 | h1
    · rw [(List.mem_replicate.mp h1).2]
      exact Nat.pow_pos (by decide)
    · rw [h1]
      exact Nat.lt_of_le_of_lt (Int.natAbs_ediv_le_natAbs _ _) hm
  | k + 1 => fun x hx => by
    have ih := invC_bnd h h4 hm c k
    rw [invC_succ] at hx
    unfold wstep at hx
    have hmono : 2 ^ (4001 + 1003 * k) ≤ 2 ^ (4001 + 1003 * (k + 1)) := Nat.pow_le_pow_right (by decide) (by omega)
    rcases List.mem_or_eq_of_mem_set hx with h1 | h1
    · exact Nat.lt_of_lt_of_le (ih x h1) hmono
    · rw [h1]
      refine Nat.lt_of_le_of_lt (Int.natAbs_ediv_le_natAbs _ _) ?_
      rw [Int.natAbs_neg]
      have hrow : (∀ x ∈ rows.getD (c - 1 - k) [], x.natAbs < 2 ^ 1000) ∧ (rows.getD (c - 1 - k) []).length ≤ 4 := by
        rw [List.getD_eq_getElem?_getD]
        cases e : rows[c - 1 - k]? with
        | none => simp
        | some r =>
          obtain ⟨h5, h6⟩ := h.row r (List.mem_of_getElem? e)
          exact ⟨h6, by rw [Option.getD_some, h5]; exact h4⟩
      have h7 := dot_bnd (a := 1000) (b := 4001 + 1003 * k) _ _ hrow.1 ih
      have h8 : 2 ^ (1000 + (4001 + 1003 * k)) * ((rows.getD (c - 1 - k) []).length + 1) ≤ 2 ^ (1000 + (4001 + 1003 * k)) * 8 := Nat.mul_le_mul_left _ (by omega)
      have h9 : 2 ^ (1000 + (4001 + 1003 * k)) * 8 = 2 ^ (4001 + 1003 * (k + 1)) := by
        rw [show (8 : Nat) = 2 ^ 3 by rfl, ← Nat.pow_add]
        congr 1
        omega
      omega
theorem wide_mono {x : Int} {a b : Nat} (h : x.natAbs < 2 ^ a) (hab : a ≤ b) : x.natAbs < 2 ^ b := Nat.lt_of_lt_of_le h (Nat.pow_le_pow_right (by decide) hab)
def MI1 (b : Addr) (m : Int) (c : Nat) (n : Nat) (H : Hp) (σ : L2.St) (H' : Hp) : Prop := ∃ D, σ = [some (V.ref b), some (V.int m), some (V.int (c : Nat)), some (V.ref D), none] ∧ Same H H' ∧ H D = none ∧ H' D = some (.lst ((List.replicate n (0 : Int)).map V.int))
def MI2 (b D : Addr) (m : Int) (c : Nat) (w : List Int) (H : Hp) (σ : L2.St) (H' : Hp) : Prop := ∃ v4, σ = [some (V.ref b), some (V.int m), some (V.int (c : Nat)), some (V.ref D), v4] ∧ Same H H' ∧ H' D = some (.lst (w.map V.int))
def sp_inverse_column (K : PySem.W.Frag) : Sp := fun vs H Q _ => ∃ (b : Addr) (m : Int) (c : Nat) (odds : List Int) (rows : List (List Int)), vs = [.ref b, .int m, .int (c : Nat)] ∧ LstL H b rows ∧ Rows odds rows ∧ Tri rows ∧ odds.length ≤ 4 ∧ c < rows.length ∧ m.natAbs < 2 ^ 4001 ∧
  ∀ H' D, Same H H' → H D = none → H' D = some (.lst ((invC rows m c c).map V.int)) → Q (.ref D) H'
theorem ok_inverse_column (T : Tx K mg) : FnOk P w K mg base CX0 2 T.f_inverse_column T.fd_inverse_column ["basis", "modulus", "column"] (sp_inverse_column K) := by
  refine T.F_inverse_column.ok sc_inverse_column (fun vs H Q E h => ?_) (fun cdv A outer s H vs Q E hr h => ?_)
  · obtain ⟨b, m, c, odds, rows, rfl, _⟩ := h; rfl
  · obtain ⟨b, m, c, odds, rows, rfl, ⟨as, hb, hA⟩, hR, hTr, h4, hc, hm, q⟩ := h
    refine ⟨_, (C8.pss_cut (ps_set (i := 3) sc_inverse_column.nd rfl (Or.inl rfl) (pe_op op_rep (pe_lst (pa_cons pe_int pa_nil)) (pe_callB len_H (by rfl) T.n_len PySem.boot_len (pa_cons (pv 0) pa_nil))))
      (C8.pss_cut (ps_asg (pe_op op_fdivW (pv 1) (pe_ix ix_lH (pe_ix ix_lH (pv 0) (pv 2) (fun _ _ => rfl)) (pv 2) (fun _ _ => rfl))) (pg_sub (pv 3) (pv 2) set_lH))
      (C8.pss_cut (ps_for PassesOwn.never rfl (pi_revR (by rfl) T.n_reversed (prg_1 (by rfl) T.n_range (pv 2))) (pg_name (i := 4) sc_inverse_column.nd rfl (Or.inl rfl))
        (pss_one (ps_asg (pe_op op_fdivW (pe_un un_neg (pe_call (ok_weighted_sum T) (hr.mono (by decide)) (by rfl) T.g_weighted_sum T.F_weighted_sum.kp T.b_weighted_sum .nil pass0 (pa_cons (pe_ix ix_lH (pv 0) (pv 4) (fun _ _ => rfl)) (pa_cons (pv 3) pa_nil)))) (pe_ix ix_lH (pe_ix ix_lH (pv 0) (pv 4) (fun _ _ => rfl)) (pv 4) (fun _ _ => rfl))) (pg_sub (pv 3) (pv 4) set_lH))))
      (pss_one (ps_ret (pv 3)))))), ?_⟩
    have hrn := hR.len
    have rowr : ∀ {G : Hp} {i : Nat}, Same H G → (hi : i < rows.length) → ∃ a, as[i]? = some a ∧ G b = some (.lst (as.map V.ref)) ∧ G a = some (.lst (rows[i].map V.int)) := fun {G i} s hi => by
      have hia : i < as.length := by rw [hA.1]; exact hi
      exact ⟨as[i], List.getElem?_eq_getElem hia, s _ _ hb, s _ _ (hA.2 i _ _ (List.getElem?_eq_getElem hia) (List.getElem?_eq_getElem hi))⟩
    have pivr : ∀ {i : Nat} (hi : i < rows.length), rows[i][i]? = some (pivA rows i) ∧ 0 < pivA rows i := fun {i} hi => by
      obtain ⟨e1, e2, e3⟩ := row_at hR hi
      have hii : i < rows[i].length := by rw [e2]; omega
      have hp := (hTr i _ (List.getElem?_eq_getElem hi)).2
      have e : pivA rows i = rows[i].getD i 0 := by unfold pivA; rw [e1]
      refine ⟨?_, by rw [e]; exact hp⟩
      rw [e, List.getD_eq_getElem?_getD, List.getElem?_eq_getElem hii]
      rfl
    refine ⟨MI1 b m c rows.length H, ?_, ?_⟩
    · walk_at "rd"
      intro p hp
      have sp := Same.new hp (o := .lst [V.int 0])
      have fp : (upd H p (.lst [V.int 0])) p = some (.lst [V.int 0]) := upd_same
      generalize upd H p (HO.lst [V.int 0]) = H1 at sp fp ⊢
      refine .inl ⟨_, sp _ _ hb, p, (rows.length : Int), [V.int 0], rfl, by rw [List.length_map, hA.1], fp, by omega, by omega, ?_, fun r hr => ?_⟩
      · rw [Int.toNat_natCast]
        exact Nat.le_trans (by simp; omega : [V.int 0].length * rows.length ≤ 4) (by decide)
      · rw [Int.toNat_natCast, flat0]
        have hr3 : H r = none := by
          cases e2 : H r with
          | none => rfl
          | some o => rw [sp _ _ e2] at hr; cases hr
        exact ⟨r, rfl, sp.trans (Same.new hr), hr3, upd_same⟩
    rintro σ1 H1 ⟨D, rfl, s1, hD, hD1⟩
    refine ⟨MI2 b D m c (invC rows m c 0) H, ?_, ?_⟩
    · walk_at "rd"
      obtain ⟨a, ha, hb1, har⟩ := rowr s1 hc
      obtain ⟨e1, e2⟩ := pivr hc
      refine ⟨_, hb1, .ref a, atI_nat (by rw [List.getElem?_map, ha]; rfl), a, rfl, _, har, .int (pivA rows c), atI_nat (by rw [List.getElem?_map, e1]; rfl), _, rfl, wide_div (b := 1000) e2 (pivA_bnd hR c) (by decide) (by decide), _, hD1, c, ixN_in (by rw [List.length_map, List.length_replicate]; exact hc), none, rfl, ?_, ?_⟩
      · intro x o hx
        rw [upd_ne (ne_some hx hD)]
        exact s1 _ _ hx
      · rw [upd_same]
        unfold invC
        rw [List.range_zero, List.foldl_nil, List.map_set]
    rintro σ2 H2 ⟨v4, rfl, s2, hD2⟩
    refine ⟨MI2 b D m c (invC rows m c c) H, ?_, ?_⟩
    · walk_at "rd"
      refine ⟨by omega, by omega, ?_⟩
      rw [show ((c : Int) - 0).toNat = c by omega]
      refine forr walk_itc (fun i σ H' => ∃ v4, σ = [some (V.ref b), some (V.int m), some (V.int (c : Nat)), some (V.ref D), v4] ∧ Same H H' ∧ H' D = some (.lst ((invC rows m c i).map V.int))) ⟨v4, rfl, s2, hD2⟩ (fun _ _ _ _ _ => trivial) ?_ ?_
      · rintro i x σ3 H3o H3 hi ⟨v4, rfl, s3, hD3⟩ ⟨rfl, hx⟩
        have hj : c - 1 - i < rows.length := by omega
        have hx2 : x = V.int ((c - 1 - i : Nat) : Int) := by
          rw [hx]
          show V.int (0 + (c : Int) - 1 + (i : Nat) * -1) = _
          congr 1
          omega
        subst hx2
        obtain ⟨a, ha, hb3, har⟩ := rowr s3 hj
        obtain ⟨e1, e2⟩ := pivr hj
        obtain ⟨r1, r2, r3⟩ := row_at hR hj
        have hw := invC_len rows m c i
        have hwb := invC_bnd hR h4 hm c i
        walk_at "rd"
        refine ⟨_, hb3, .ref a, atI_nat (by rw [List.getElem?_map, ha]; rfl), ?_⟩
        refine ⟨true, true, a, D, rows[c - 1 - i], invC rows m c i, rfl, har, hD3, by rw [r2, hw, hrn], by omega, fun j x y hx hy => ?_, fun H4 s4 => ?_⟩
        · exact .inr (.inr (wide_mul (a := 1000) (b := 4001 + 1003 * i) (r3 x (List.mem_of_getElem? hx)) (hwb y (List.mem_of_getElem? hy)) (by decide) (by omega) (by omega)))
        obtain ⟨a', ha', hb4, har4⟩ := rowr (s3.trans s4) hj
        refine ⟨_, rfl, _, hb4, .ref a', atI_nat (by rw [List.getElem?_map, ha']; rfl), a', rfl, _, har4, .int (pivA rows (c - 1 - i)), atI_nat (by rw [List.getElem?_map, e1]; rfl), _, rfl, wide_div (b := 1000) e2 (pivA_bnd hR _) (by decide) (by decide), _, s4 _ _ hD3, c - 1 - i, ixN_in (by rw [List.length_map, hw]; exact hj), ?_, ?_⟩
        · intro x o hx
          rw [upd_ne (ne_some hx hD)]
          exact s4 _ _ (s3 _ _ hx)
        · rw [invC_succ]
          unfold wstep
          rw [List.map_set, r1]
      · rintro σ3 H3 ⟨v4, rfl, s3, hD3⟩
        exact ⟨v4, rfl, s3, hD3⟩
    rintro σ3 H3 ⟨v4, rfl, s3, hD3⟩
    walk_at "rd"
    exact q _ D s3 hD hD3
end

section
variable {P : Program} {w : World} {K : PySem.W.Frag} {mg : Str → Option Value} {base : Heap}
def gcdW (m : Int) (ws : List Int) : Int := ws.foldl (fun c x => ((Nat.gcd c.natAbs x.natAbs : Nat) : Int)) m
def smallW (m : Int) (ws : List Int) : Int := m / gcdW m ws
def redW (m : Int) (ws : List Int) : List Int := ws.map fun x => x / gcdW m ws % smallW m ws
theorem gcdW_dvd : ∀ (ws : List Int) (m : Int), 0 < m → 0 < gcdW m ws ∧ gcdW m ws ∣ m ∧ ∀ x ∈ ws, gcdW m ws ∣ x
  | [], m, h => ⟨h, Int.dvd_refl _, by simp⟩
  | x :: ws, m, h => by
    have hg : 0 < Nat.gcd m.natAbs x.natAbs := Nat.gcd_pos_of_pos_left _ (by omega)
    obtain ⟨h1, h2, h3⟩ := gcdW_dvd ws ((Nat.gcd m.natAbs x.natAbs : Nat) : Int) (by omega)
    have g1 : ((Nat.gcd m.natAbs x.natAbs : Nat) : Int) ∣ m := by
      rw [← Int.natAbs_dvd_natAbs, Int.natAbs_natCast]; exact Nat.gcd_dvd_left _ _
    have g2 : ((Nat.gcd m.natAbs x.natAbs : Nat) : Int) ∣ x := by
      rw [← Int.natAbs_dvd_natAbs, Int.natAbs_natCast]; exact Nat.gcd_dvd_right _ _
    refine ⟨h1, Int.dvd_trans h2 g1, fun y hy => ?_⟩
    rcases List.mem_cons.mp hy with rfl | hy
    · exact Int.dvd_trans h2 g2
    · exact h3 y hy
theorem smallW_pos {ws : List Int} {m : Int} (h : 0 < m) : 0 < smallW m ws := by
  obtain ⟨h1, h2, _⟩ := gcdW_dvd ws m h
  unfold smallW
  exact Int.ediv_pos_of_pos_of_dvd h (by omega) h2
def sp_common_divisor (K : PySem.W.Frag) : Sp := fun vs H Q _ => ∃ (k : Bool) (m : Int) (a : Addr) (ws : List Int), vs = [.int m, .ref a] ∧ Sqh k H a (ws.map V.int) ∧ Q (.int (gcdW m ws)) H
theorem ok_common_divisor (T : Tx K mg) : FnOk P w K mg base CX0 1 T.f_common_divisor T.fd_common_divisor ["modulus", "weights"] (sp_common_divisor K) := by
  refine T.F_common_divisor.ok sc_common_divisor (fun vs H Q E h => ?_) (fun cdv A outer s H vs Q E hr h => ?_)
  · obtain ⟨k, m, a, ws, rfl, _⟩ := h; rfl
  · obtain ⟨k, m, a, ws, rfl, ha, q⟩ := h
    refine ⟨_, (pss_cons (ps_set (i := 2) sc_common_divisor.nd rfl (Or.inl rfl) (pv 0))
      (pss_cons (ps_for PassesOwn.never rfl (pi_seqH (pv 1)) (pg_name (i := 3) sc_common_divisor.nd rfl (Or.inl rfl))
        (pss_one (ps_set (i := 2) sc_common_divisor.nd rfl (Or.inl rfl) (pe_callBfun cr_gcd (by rfl) T.b_gcd (pa_cons (pv 2) (pa_cons (pv 3) pa_nil))))))
      (pss_one (ps_ret (pv 2))))), ?_⟩
    walk_at "rd"
    have fin : ∀ (J : It) (G : Hp → Prop), Walk J (ws.map V.int).length G (YAt (ws.map V.int)) → G H → ForR J (gName 3) (tAsg (tCB rGcd (tCons (tVar 2) (tCons (tVar 3) tNil))) (gName 2)) { nx := fun σ' H' => tRet (tVar 2) { nx := fun _ H' => Q V.non H', rt := Q } σ' H', rt := Q } [some (V.int m), some (V.ref a), some (V.int m), none] H := by
      intro J G W hG
      refine forr W (fun i σ H' => H' = H ∧ ∃ v3, σ = [some (V.int m), some (V.ref a), some (V.int (gcdW m (ws.take i))), v3]) ⟨rfl, none, rfl⟩ (fun i σ H' _ h => by rw [h.1]; exact hG) ?_ ?_
      · rintro i x σ2 H2o H2 hi ⟨rfl, v4, rfl⟩ ⟨rfl, hx⟩
        simp only [List.getElem?_map, Option.map_eq_some_iff] at hx
        obtain ⟨y, hy, rfl⟩ := hx
        walk_at "rd"
        have e : gcdW m (ws.take (i + 1)) = ((Nat.gcd (gcdW m (ws.take i)).natAbs y.natAbs : Nat) : Int) := by
          unfold gcdW
          rw [List.take_add_one, hy, List.foldl_append]
          rfl
        rw [e]
      · rintro σ2 H2 ⟨rfl, v4, rfl⟩
        rw [List.length_map, List.take_length]
        walk_at "rd"
        exact q
    cases k with
    | true => exact .inl ⟨_, ha, fun J W => fin J _ W ha⟩
    | false => exact .inr ⟨_, ha, fun J W => fin J _ W ha⟩
def MH2 (m : Int) (a t : Addr) (c : Int) (H : Hp) (σ : L2.St) (H' : Hp) : Prop := σ = [some (V.int m), some (V.ref a), some (V.ref t), some (V.int c), none, none, none] ∧ H' = H
def MH2b (m : Int) (a t : Addr) (c s : Int) (H : Hp) (σ : L2.St) (H' : Hp) : Prop := σ = [some (V.int m), some (V.ref a), some (V.ref t), some (V.int c), some (V.int s), none, none] ∧ H' = H
def MH3 (m : Int) (a t : Addr) (c s : Int) (red : List Int) (H : Hp) (σ : L2.St) (H' : Hp) : Prop := ∃ r, σ = [some (V.int m), some (V.ref a), some (V.ref t), some (V.int c), some (V.int s), some (V.ref r), none] ∧ Same H H' ∧ H' r = some (.tup (red.map V.int))
def sp_short_witness (K : PySem.W.Frag) : Sp := fun vs H Q _ => ∃ (k : Bool) (m : Int) (a t : Addr) (ws gt : List Int), vs = [.int m, .ref a, .ref t] ∧ 0 < m ∧ m.natAbs < 2 ^ 4001 ∧ H a = some (.lst (ws.map V.int)) ∧ Sqh k H t (gt.map V.int) ∧ ws.length = gt.length ∧ ws.length ≤ 64 ∧ BW 9000 ws ∧ BW 9000 gt ∧
  ∀ H' D r, Same H H' → H' D = some (.tup [V.int (smallW m ws), .ref r, .int (dot (redW m ws) gt % smallW m ws)]) → H' r = some (.tup ((redW m ws).map V.int)) → Q (.ref D) H'
theorem ok_short_witness (T : Tx K mg) : FnOk P w K mg base CX0 2 T.f_short_witness T.fd_short_witness ["modulus", "weights", "target"] (sp_short_witness K) := by
  refine T.F_short_witness.ok sc_short_witness (fun vs H Q E h => ?_) (fun cdv A outer s H vs Q E hr h => ?_)
  · obtain ⟨k, m, a, t, ws, gt, rfl, _⟩ := h; rfl
  · obtain ⟨k, m, a, t, ws, gt, rfl, hm, hmb, ha, ht, hl, h64, hwb, hgb, q⟩ := h
    refine ⟨_, (C8.pss_cut (ps_set (i := 3) sc_short_witness.nd rfl (Or.inr rfl) (pe_call (ok_common_divisor T) (hr.mono (by decide)) (by rfl) T.g_common_divisor T.F_common_divisor.kp T.b_common_divisor .nil pass0 (pa_cons (pv 0) (pa_cons (pv 1) pa_nil))))
      (C8.pss_cut (ps_set (i := 4) sc_short_witness.nd rfl (Or.inr rfl) (pe_op op_fdivW (pv 0) (pv 3)))
      (C8.pss_cut (ps_set (i := 5) sc_short_witness.nd rfl (Or.inl rfl) (pe_callTy tuple_H (by rfl) T.n_tuple (by decide +kernel) (pa_cons (pe_lc (own := [("weight", 6)]) (g := (gName 6)) (tt := tYes) rfl sc_short_witness.nd (pi_seqH (pv 1)) (blkOk_by (own := [("weight", 6)]) (N := N_short_witness) (sc := defScope d_short_witness) (by decide +kernel)) (fun _ _ _ _ _ => (pg_name (i := 6) sc_short_witness.nd rfl (Or.inl rfl))) (fun _ _ _ _ _ => pts_nil) (fun _ _ _ _ _ => (pe_op op_mod (pe_op op_fdivW (pv 6) (pv 3)) (pv 4)))) pa_nil)))
      (pss_one (ps_ret (pe_tup (pa_cons (pv 4) (pa_cons (pv 5) (pa_cons (pe_op op_mod (pe_call (ok_weighted_sum T) (hr.mono (by decide)) (by rfl) T.g_weighted_sum T.F_weighted_sum.kp T.b_weighted_sum .nil pass0 (pa_cons (pv 5) (pa_cons (pv 2) pa_nil))) (pv 4)) pa_nil))))))))), ?_⟩
    obtain ⟨g1, g2, g3⟩ := gcdW_dvd ws m hm
    have gs := smallW_pos (ws := ws) hm
    have hgc : (gcdW m ws).natAbs < 2 ^ 4001 := by
      have := Int.le_of_dvd hm g2
      omega
    refine ⟨MH2 m a t (gcdW m ws) H, ?_, ?_⟩
    · walk_at "rd"
      exact ⟨true, m, a, ws, rfl, ha, rfl, rfl⟩
    rintro σ2 H2 ⟨rfl, rfl⟩
    refine ⟨MH2b m a t (gcdW m ws) (smallW m ws) H2, ?_, ?_⟩
    · walk_at "rd"
      exact ⟨wide_div (b := 4001) g1 hgc (by decide) (by decide), rfl, rfl⟩
    rintro σ3 H3 ⟨rfl, rfl⟩
    refine ⟨MH3 m a t (gcdW m ws) (smallW m ws) (redW m ws) H3, ?_, ?_⟩
    · walk_at "rd"
      refine .inl ⟨_, ha, fun J W => ?_⟩
      refine lcr_map W ((redW m ws).map V.int) (by unfold redW; simp) (by rw [List.length_map]; exact Nat.le_trans h64 (by decide)) (fun H4 s4 => s4 _ _ ha) (fun _ _ _ _ y => YAt.same y) ?_ fun D H4 hD s4 h4 => ⟨D, rfl, .inl ⟨_, h4, fun r hr => ⟨r, rfl, s4.trans (Same.new hr), upd_same⟩⟩⟩
      rintro i x H4 H5 y Qy hi s4 ⟨rfl, hx⟩ hr hq
      unfold redW at hr
      simp only [List.getElem?_map, Option.map_eq_some_iff] at hr hx
      obtain ⟨x2, hx2, rfl⟩ := hx
      obtain ⟨r, ⟨r2, hr2, rfl⟩, rfl⟩ := hr
      rw [hx2] at hr2
      obtain rfl := Option.some.inj hr2
      walk_at "rd"
      exact ⟨wide_div (b := 4001) g1 hgc (by decide) (by decide), gs, hq _ (Same.refl _)⟩
    rintro σ4 H4 ⟨r, rfl, s4, hr4⟩
    walk_at "rd"
    have hrl : (redW m ws).length = ws.length := by unfold redW; simp
    refine ⟨false, k, r, t, redW m ws, gt, rfl, hr4, ht.same s4, by rw [hrl, hl], by omega, fun i x y hx hy => ?_, fun H5 s5 => ?_⟩
    · have hx0 : 0 ≤ x ∧ x < smallW m ws := by
        have hxm := List.mem_of_getElem? hx
        unfold redW at hxm
        obtain ⟨u, _, rfl⟩ := List.mem_map.mp hxm
        exact ⟨Int.emod_nonneg _ (by omega), Int.emod_lt_of_pos _ gs⟩
      have hsm : smallW m ws ≤ m := by
        unfold smallW
        exact Int.ediv_le_self _ (by omega)
      exact .inr (.inr (wide_mul (a := 4001) (b := 9000) (by omega) (hgb y (List.mem_of_getElem? hy)) (by decide) (by decide) (by decide)))
    · refine ⟨_, rfl, gs, fun D hD => ?_⟩
      have sD := Same.new hD (o := .tup [V.int (smallW m ws), V.ref r, V.int (dot (redW m ws) gt % smallW m ws)])
      exact q _ D r ((s4.trans s5).trans sD) upd_same (sD _ _ (s5 _ _ hr4))
/-! reach -/
/-- the first column whose weights tell the shift from the lattice -/
def colF (rows : List (List Int)) (n : Nat) (v : List Int) (c : Nat) : Bool := !decide (dot (invC rows (pivP rows n) c c) v % pivP rows n = 0)
def reachI (ss : List Int) (gs : List (List Int)) (p : List Int) : Option Nat := (List.range ss.length).find? (colF (shiftB ss gs) ss.length (sub2 p (gs.headD [])))
/-- what reach answers, at D -/
def RchAt (H : Hp) (D : Addr) (ss : List Int) (gs : List (List Int)) (p : List Int) : Prop := (reachI ss gs p = none ∧ H D = some (.tup [.str "reachable"])) ∨
  ∃ (c : Nat) (u r : Addr), reachI ss gs p = some c ∧ H D = some (.tup [.str "unreachable", .ref u]) ∧ H u = some (.tup [.int (smallW (cosetI ss gs) (invC (shiftB ss gs) (cosetI ss gs) c c)), .ref r, .int (dot (redW (cosetI ss gs) (invC (shiftB ss gs) (cosetI ss gs) c c)) (gs.headD []) % smallW (cosetI ss gs) (invC (shiftB ss gs) (cosetI ss gs) c c))]) ∧
    H r = some (.tup ((redW (cosetI ss gs) (invC (shiftB ss gs) (cosetI ss gs) c c)).map V.int))
def MR1 (a tg p : Addr) (ss : List Int) (H : Hp) (σ : L2.St) (H' : Hp) : Prop := ∃ t, σ = [some (V.ref a), some (V.ref tg), some (V.ref p), some (V.ref t), none, none, none, none, none] ∧ Same H H' ∧ H' t = some (.tup (ss.map V.int))
def MR2 (a tg p t : Addr) (H : Hp) (σ : L2.St) (H' : Hp) : Prop := σ = [some (V.ref a), some (V.ref tg), some (V.ref p), some (V.ref t), none, none, none, none, none] ∧ Same H H'
def MR3 (a tg p t : Addr) (rows : List (List Int)) (H : Hp) (σ : L2.St) (H' : Hp) : Prop := ∃ b, σ = [some (V.ref a), some (V.ref tg), some (V.ref p), some (V.ref t), some (V.ref b), none, none, none, none] ∧ Same H H' ∧ LstL H' b rows
def MR4 (a tg p t b : Addr) (v : List Int) (H : Hp) (σ : L2.St) (H' : Hp) : Prop := ∃ d, σ = [some (V.ref a), some (V.ref tg), some (V.ref p), some (V.ref t), some (V.ref b), some (V.ref d), none, none, none] ∧ Same H H' ∧ H' d = some (.lst (v.map V.int))
def MR5 (a tg p t b d : Addr) (m : Int) (H : Hp) (σ : L2.St) (H' : Hp) : Prop := σ = [some (V.ref a), some (V.ref tg), some (V.ref p), some (V.ref t), some (V.ref b), some (V.ref d), some (V.int m), none, none] ∧ Same H H'
def MR6 (N : Prop) (H : Hp) (σ : L2.St) (H' : Hp) : Prop := σ.length = 9 ∧ Same H H' ∧ N
def MR7 (a tg p t b d : Addr) (m : Int) (c : Nat) (w : List Int) (H : Hp) (σ : L2.St) (H' : Hp) : Prop := ∃ u, σ = [some (V.ref a), some (V.ref tg), some (V.ref p), some (V.ref t), some (V.ref b), some (V.ref d), some (V.int m), some (V.int (c : Nat)), some (V.ref u)] ∧ Same H H' ∧ H' u = some (.lst (w.map V.int))
def sp_reach (K : PySem.W.Frag) (C : Addr) : Sp := fun vs H Q _ => ∃ (k : Bool) (a tg p : Addr) (ss : List Int) (gs : List (List Int)) (ps : List Int), vs = [.ref a, .ref tg, .ref p] ∧ TabAt C H a ss ∧ TgtAt k H tg gs ∧ Tgts ss gs ∧ Sz ss ∧ H p = some (.tup (ps.map V.int)) ∧ Seat ss ps ∧
  ∀ H' D, Same H H' → RchAt H' D ss gs ps → Q (.ref D) H'
theorem ok_reach (T : Tx K mg) : FnOk P w K mg base CX0 4 T.f_reach T.fd_reach ["table", "targets", "seat"] (sp_reach K T.c_Table) := by
  refine T.F_reach.ok sc_reach (fun vs H Q E h => ?_) (fun cdv A outer s H vs Q E hr h => ?_)
  · obtain ⟨k, a, tg, p, ss, gs, ps, rfl, _⟩ := h; rfl
  · obtain ⟨k, a, tg, p, ss, gs, ps, rfl, hT, hG, hgs, z, hp, hS, q⟩ := h
    refine ⟨_, (C8.pss_cut (ps_set (i := 3) sc_reach.nd rfl (Or.inl rfl) (pe_call (ok_sizes_of T) (hr.mono (by decide)) (by rfl) T.g_sizes_of T.F_sizes_of.kp T.b_sizes_of .nil pass0 (pa_cons (pv 0) pa_nil)))
      (C8.pss_cut (ps_expr (pe_call (ok_require_targets T) (hr.mono (by decide)) (by rfl) T.g_require_targets T.F_require_targets.kp T.b_require_targets .nil pass0 (pa_cons (pv 3) (pa_cons (pv 1) pa_nil))))
      (C8.pss_cut (ps_expr (pe_call (ok_require_seat T) (hr.mono (by decide)) (by rfl) T.g_require_seat T.F_require_seat.kp T.b_require_seat .nil pass0 (pa_cons (pv 3) (pa_cons (pv 2) pa_nil))))
      (C8.pss_cut (ps_set (i := 4) sc_reach.nd rfl (Or.inl rfl) (pe_call (ok_shift_basis T) (hr.mono (by decide)) (by rfl) T.g_shift_basis T.F_shift_basis.kp T.b_shift_basis .nil pass0 (pa_cons (pv 3) (pa_cons (pv 1) pa_nil))))
      (C8.pss_cut (ps_set (i := 5) sc_reach.nd rfl (Or.inl rfl) (pe_call (ok_difference T) (hr.mono (by decide)) (by rfl) T.g_difference T.F_difference.kp T.b_difference .nil pass0 (pa_cons (pv 2) (pa_cons (pe_ix (IxR.or ix_lH ix_tH) (pv 1) pe_int (fun _ _ => rfl)) pa_nil))))
      (C8.pss_cut (ps_set (i := 6) sc_reach.nd rfl (Or.inl rfl) (pe_call (ok_pivot_product T) (hr.mono (by decide)) (by rfl) T.g_pivot_product T.F_pivot_product.kp T.b_pivot_product .nil pass0 (pa_cons (pv 4) pa_nil)))
      (C8.pss_cut (ps_for PassesOwn.never rfl (pi_range1H (by rfl) T.n_range (pa_cons (pe_callB len_H (by rfl) T.n_len PySem.boot_len (pa_cons (pv 3) pa_nil)) pa_nil)) (pg_name (i := 7) sc_reach.nd rfl (Or.inl rfl))
        (C8.pss_cut (ps_set (i := 8) sc_reach.nd rfl (Or.inl rfl) (pe_call (ok_inverse_column T) (hr.mono (by decide)) (by rfl) T.g_inverse_column T.F_inverse_column.kp T.b_inverse_column .nil pass0 (pa_cons (pv 4) (pa_cons (pv 6) (pa_cons (pv 7) pa_nil)))))
        (pss_one (ps_if (pt_cmpR op_ne (pe_op op_mod (pe_call (ok_weighted_sum T) (hr.mono (by decide)) (by rfl) T.g_weighted_sum T.F_weighted_sum.kp T.b_weighted_sum .nil pass0 (pa_cons (pv 8) (pa_cons (pv 5) pa_nil))) (pv 6)) pe_int (nomark _)) (pss_one (ps_ret (pe_tup (pa_cons pe_str (pa_cons (pe_call (ok_short_witness T) (hr.mono (by decide)) (by rfl) T.g_short_witness T.F_short_witness.kp T.b_short_witness .nil pass0 (pa_cons (pv 6) (pa_cons (pv 8) (pa_cons (pe_ix (IxR.or ix_lH ix_tH) (pv 1) pe_int (fun _ _ => rfl)) pa_nil)))) pa_nil))))) pss_nil))))
      (pss_one (ps_ret (pe_tup (pa_cons pe_str pa_nil))))))))))), ?_⟩
    have hlen : ∀ g ∈ gs, g.length = ss.length := fun g hg => (hgs.ok g hg).len
    have hR := shift_rows z hgs.ne hlen
    have hTr := shift_tri z hgs.ne hlen
    have el : (oddsI ss).length = ss.length := by unfold oddsI; simp
    have hn := hR.len
    have h4 := z.hi
    have hmp : 0 < cosetI ss gs := pivP_pos hTr _ (by omega)
    have hmb : (cosetI ss gs).natAbs < 2 ^ 4001 := by
      have := pivP_bnd hR ss.length
      exact wide_mono this (by omega)
    have h0m := headD_mem hgs.ne
    have h0l := hlen _ h0m
    refine ⟨MR1 a tg p ss H, ?_, ?_⟩
    · walk_at "rd"
      exact ⟨a, ss, rfl, hT, fun t ht => ⟨t, rfl, Same.refl _, ht⟩⟩
    rintro σ1 H1 ⟨t, rfl, s1, ht⟩
    refine ⟨MR2 a tg p t H1, ?_, ?_⟩
    · walk_at "rd"
      exact ⟨false, k, t, tg, ss, gs, rfl, ht, hG.same s1, hgs.ne, hgs.nd, hgs.few, hgs.ok, z, fun H2 s2 => ⟨rfl, s2⟩⟩
    rintro σ2 H2 ⟨rfl, s2⟩
    refine ⟨MR2 a tg p t H2, ?_, ?_⟩
    · walk_at "rd"
      exact ⟨false, t, ss, .ref p, rfl, s2 _ _ ht, hS.b z (s2 _ _ (s1 _ _ hp)), fun H3 s3 => ⟨rfl, s3⟩⟩
    rintro σ3 H3 ⟨rfl, s3⟩
    have s03 := (s1.trans s2).trans s3
    refine ⟨MR3 a tg p t (shiftB ss gs) H3, ?_, ?_⟩
    · walk_at "rd"
      exact ⟨false, k, t, tg, ss, gs, rfl, s3 _ _ (s2 _ _ ht), hG.same s03, hgs.ne, hlen, z, fun H4 D s4 hL => ⟨D, rfl, s4, hL⟩⟩
    rintro σ4 H4 ⟨b, rfl, s4, hb⟩
    have s04 := s03.trans s4
    obtain ⟨as, htg, hA⟩ := id hG
    obtain ⟨a0, ha0⟩ : ∃ a0, as[0]? = some a0 := by
      have : 0 < as.length := by rw [hA.1]; exact List.length_pos_iff.mpr hgs.ne
      exact ⟨as[0], List.getElem?_eq_getElem this⟩
    have hg0 : gs[0]? = some (gs.headD []) := by
      cases e : gs with
      | nil => exact absurd e hgs.ne
      | cons g gs => rfl
    have hv0 : atI (as.map V.ref) (0 : Int) = some (V.ref a0) := atI_nat (j := 0) (by rw [List.getElem?_map, ha0]; rfl)
    have ha0H := hA.2 0 a0 _ ha0 hg0
    refine ⟨MR4 a tg p t b (sub2 ps (gs.headD [])) H4, ?_, ?_⟩
    · walk_at "rd"
      refine ix_seq (i := 0) (htg.same s04) hv0 ?_
      exact ⟨false, false, p, a0, ps, gs.headD [], rfl, s04 _ _ hp, s04 _ _ ha0H, by rw [hS.len, h0l], by rw [hS.len]; omega, fun H5 D s5 hD hL => ⟨D, rfl, s5, hL⟩⟩
    rintro σ5 H5 ⟨d, rfl, s5, hd⟩
    have s05 := s04.trans s5
    have hb5 := hb.same s5
    refine ⟨MR5 a tg p t b d (cosetI ss gs) H5, ?_, ?_⟩
    · walk_at "rd"
      refine ⟨b, oddsI ss, shiftB ss gs, rfl, hb5, hR, by omega, fun H6 s6 => ?_⟩
      rw [hn, el]
      exact ⟨rfl, s6⟩
    rintro σ6 H6 ⟨rfl, s6⟩
    have s06 := s05.trans s6
    have hvl : (sub2 ps (gs.headD [])).length = ss.length := by unfold sub2; rw [List.length_zipWith, hS.len, h0l, Nat.min_self]
    refine ⟨MR6 (reachI ss gs ps = none) H6, ?_, ?_⟩
    · walk_at "rd"
      have ht6 := (((s2.trans s3).trans s4).trans (s5.trans s6)) _ _ ht
      have hd6 := s6 _ _ hd
      have hb6 := hb5.same s6
      have g0b : BW 1000 (gs.headD []) := fun x hx => by
        obtain ⟨j, hj, rfl⟩ := List.getElem_of_mem hx
        have hj2 : j < ss.length := by rw [← h0l]; exact hj
        obtain ⟨h1, h2⟩ := (hgs.ok _ h0m).ok j _ _ (List.getElem?_eq_getElem hj) (List.getElem?_eq_getElem hj2)
        have := z.bits _ (List.getElem_mem hj2)
        omega
      have hvb : BW 1001 (sub2 ps (gs.headD [])) := fun x hx => by
        obtain ⟨j, hj, rfl⟩ := List.getElem_of_mem hx
        have hj2 : j < ss.length := by rw [← hvl]; exact hj
        have hj3 : j < ps.length := by rw [hS.len]; exact hj2
        have hj4 : j < (gs.headD []).length := by rw [h0l]; exact hj2
        obtain ⟨h1, h2⟩ := (hgs.ok _ h0m).ok j _ _ (List.getElem?_eq_getElem hj4) (List.getElem?_eq_getElem hj2)
        obtain ⟨h5, h6⟩ := hS.ok j _ _ (List.getElem?_eq_getElem hj3) (List.getElem?_eq_getElem hj2)
        have hb := z.bits _ (List.getElem_mem hj2)
        have e : (sub2 ps (gs.headD []))[j] = ps[j] - (gs.headD [])[j] := by
          have := zw_get (g := fun x y => x - y) (List.getElem?_eq_getElem hj3) (List.getElem?_eq_getElem hj4)
          rw [show List.zipWith (fun x y => x - y) ps (gs.headD []) = sub2 ps (gs.headD []) from rfl, List.getElem?_eq_getElem hj] at this
          exact Option.some.inj this
        rw [e]
        have hpow : (2 : Nat) ^ 1001 = 2 ^ 1000 * 2 := Nat.pow_succ 2 1000
        omega
      have hl64 : (((ss.map V.int).length : Nat) : Int).toNat = ss.length := by simp
      refine .inr ⟨_, ht6, by omega, by rw [List.length_map]; omega, fun J W => ?_⟩
      rw [hl64] at W
      refine forr W (fun i σ H' => ∃ v7 v8, σ = [some (V.ref a), some (V.ref tg), some (V.ref p), some (V.ref t), some (V.ref b), some (V.ref d), some (V.int (cosetI ss gs)), v7, v8] ∧ Same H6 H' ∧ ∀ c, c < i → colF (shiftB ss gs) ss.length (sub2 ps (gs.headD [])) c = false) ⟨none, none, rfl, Same.refl _, fun c hc => absurd hc (Nat.not_lt_zero c)⟩ (fun _ _ _ _ _ => trivial) ?_ ?_
      · rintro i x σ8 H8o H8 hi ⟨v7, v8, rfl, s8, hno⟩ ⟨rfl, rfl⟩
        refine ⟨MR7 a tg p t b d (cosetI ss gs) i (invC (shiftB ss gs) (cosetI ss gs) i i) H8, ?_, ?_⟩
        · walk_at "rd"
          exact ⟨b, cosetI ss gs, i, oddsI ss, shiftB ss gs, rfl, hb6.same s8, hR, hTr, by omega, by omega, hmb, fun H9 D s9 hD hd9 => ⟨D, rfl, s9, hd9⟩⟩
        rintro σ9 H9 ⟨u, rfl, s9, hu⟩
        have s69 := s8.trans s9
        have s09 := s06.trans s69
        have hwl := invC_len (shiftB ss gs) (cosetI ss gs) i i
        have hwb := invC_bnd hR (by omega) hmb i i
        walk_at "rd"
        refine ⟨true, true, u, d, invC (shiftB ss gs) (cosetI ss gs) i i, sub2 ps (gs.headD []), rfl, hu, s69 _ _ hd6, by rw [hwl, hvl]; omega, by omega, fun j x y hx hy => ?_, fun H10 s10 => ?_⟩
        · exact .inr (.inr (wide_mul (a := 4001 + 1003 * i) (b := 1001) (hwb x (List.mem_of_getElem? hx)) (hvb y (List.mem_of_getElem? hy)) (by omega) (by decide) (by omega)))
        refine ⟨_, rfl, hmp, ?_⟩
        by_cases hz : dot (invC (shiftB ss gs) (cosetI ss gs) i i) (sub2 ps (gs.headD [])) % cosetI ss gs = 0
        · rw [if_neg (fun h => h hz)]
          refine ⟨s69.trans s10, fun c hc => ?_⟩
          by_cases e : c < i
          · exact hno c e
          · obtain rfl : c = i := by omega
            unfold colF
            rw [show pivP (shiftB ss gs) ss.length = cosetI ss gs from rfl, decide_eq_true hz]
            rfl
        · rw [if_pos hz]
          have s010 := s09.trans s10
          refine ix_seq (i := 0) (htg.same s010) hv0 ?_
          refine ⟨false, cosetI ss gs, u, a0, invC (shiftB ss gs) (cosetI ss gs) i i, gs.headD [], rfl, hmp, hmb, s10 _ _ hu, s010 _ _ ha0H, by rw [hwl, h0l]; omega, by omega, fun x hx => wide_mono (hwb x hx) (by omega), fun x hx => wide_mono (g0b x hx) (by decide), fun H11 D r s11 hD hr => fun p2 hp2 => ?_⟩
          have s12 := Same.new hp2 (o := .tup [V.str "unreachable", V.ref D])
          have hi2 : colF (shiftB ss gs) ss.length (sub2 ps (gs.headD [])) i = true := by
            unfold colF
            rw [show pivP (shiftB ss gs) ss.length = cosetI ss gs from rfl, decide_eq_false hz]
            rfl
          exact q _ p2 ((s010.trans s11).trans s12) (.inr ⟨i, D, r, find_range _ hi hi2 hno, upd_same, s12 _ _ hD, s12 _ _ hr⟩)
      · rintro σ8 H8 ⟨v7, v8, rfl, s8, hno⟩
        exact ⟨rfl, s8, find_range_none _ hno⟩
    rintro σ7 H7 ⟨_, s7, hno⟩
    walk_at "rd"
    intro D hD
    exact q _ D (s06.trans (s7.trans (Same.new hD))) (.inl ⟨hno, upd_same⟩)
end

/-! ### odd parts -/
theorem cd_of {n : Nat} {z : Int} (h : n ∣ z.natAbs) : ((n : Nat) : Int) ∣ z := Int.natAbs_dvd_natAbs.mp (by rw [Int.natAbs_natCast]; exact h)
theorem cd_to {n : Nat} {z : Int} (h : ((n : Nat) : Int) ∣ z) : n ∣ z.natAbs := by
  have := Int.natAbs_dvd_natAbs.mpr h
  rwa [Int.natAbs_natCast] at this
theorem oddI_pos {s : Int} (h : 1 ≤ s) : 0 < oddI s := by
  have := odd_pos (n := s.toNat) (by omega)
  unfold oddI
  omega
theorem oddI_split {s : Int} (h : 1 ≤ s) : ∃ k : Nat, s = oddI s * 2 ^ k ∧ oddI s % 2 = 1 := by
  obtain ⟨k, e1, e2⟩ := odd_split s.toNat (by omega)
  refine ⟨k, ?_, by unfold oddI; omega⟩
  have : (s.toNat : Int) = ((oddN s.toNat * 2 ^ k : Nat) : Int) := by rw [← e1]
  rw [Int.natCast_mul, Int.natCast_pow] at this
  unfold oddI
  rw [Int.toNat_of_nonneg (by omega)] at this
  exact this
theorem odd_dvd {e x : Int} {k : Nat} (he : e % 2 = 1) (h : e ∣ x * 2 ^ k) : e ∣ x := by
  have hc : Nat.Coprime e.natAbs (2 ^ k) := by
    refine Nat.Coprime.pow_right k ?_
    have h2 : e.natAbs % 2 = 1 := by omega
    show Nat.gcd e.natAbs 2 = 1
    rw [Nat.gcd_comm, Nat.gcd_rec, h2]
    rfl
  have h1 := Int.natAbs_dvd_natAbs.mpr h
  rw [Int.natAbs_mul, Int.natAbs_pow] at h1
  exact Int.natAbs_dvd_natAbs.mp (hc.dvd_of_dvd_mul_right h1)
theorem dvd_odd {e o : Int} (h : e ∣ o) (ho : o % 2 = 1) : e % 2 = 1 := by
  obtain ⟨c, rfl⟩ := h
  have h12 : e % 2 = 0 ∨ e % 2 = 1 := by omega
  rcases h12 with h | h
  · exfalso
    rw [Int.mul_emod, h] at ho
    simp at ho
  · exact h
theorem oddI_dvd {s : Int} (h : 1 ≤ s) : oddI s ∣ s := by
  obtain ⟨k, e, _⟩ := oddI_split h
  exact ⟨2 ^ k, e⟩

/-! ### one target -/
theorem getD_getD {α : Type} (l : List α) (i : Nat) (d : α) : l.getD i d = (l[i]?).getD d := by rw [List.getD_eq_getElem?_getD]
/-- rows are left where the rest is zero -/
theorem withV_zero {odds rest : List Int} (h : ∀ j, rest.getD j 0 = 0) : ∀ (rows : List (List Int)) (i : Nat), withV odds i rows rest = rows
  | [], _ => rfl
  | row :: rows, i => by
    have e : euc odds i (row.getD i 0).toNat row rest = (row, rest) := euc_zero (h i) _
    show (euc odds i (row.getD i 0).toNat row rest).1 :: withV odds (i + 1) rows (euc odds i (row.getD i 0).toNat row rest).2 = _
    rw [e, withV_zero h rows (i + 1)]
theorem self_zero (t odds : List Int) (j : Nat) : (mod2 (sub2 t t) odds).getD j 0 = 0 := by
  rw [getD_getD]
  unfold mod2 sub2
  rw [List.getElem?_zipWith, List.getElem?_zipWith]
  cases h1 : t[j]? with
  | none => rfl
  | some x =>
    cases h2 : odds[j]? with
    | none => rfl
    | some o => simp
theorem shift_single (ss t : List Int) : shiftB ss [t] = diagI (oddsI ss) := by
  show withV (oddsI ss) 0 (diagI (oddsI ss)) (mod2 (sub2 t t) (oddsI ss)) = _
  exact withV_zero (self_zero t _) _ _
theorem diag_row {es : List Int} {i : Nat} (h : i < es.length) : (diagI es).getD i [] = rowI es i := by
  unfold diagI
  rw [getD_getD, List.getElem?_map, List.getElem?_range h]
  rfl
theorem row_get {es : List Int} {i j : Nat} (h : i < es.length) : (rowI es i).getD j 0 = if j = i then es.getD i 0 else 0 := by
  unfold rowI
  rw [getD_getD]
  by_cases e : j = i
  · subst e
    rw [List.getElem?_set_self (by simpa using h), if_pos rfl]
    rfl
  · rw [List.getElem?_set_ne (fun x => e x.symm), if_neg e, List.getElem?_replicate]
    split <;> rfl
theorem piv_diag {es : List Int} {i : Nat} (h : i < es.length) : pivA (diagI es) i = es.getD i 0 := by
  unfold pivA
  rw [diag_row h, row_get h, if_pos rfl]
theorem pivP_diag {es : List Int} : ∀ k : Nat, k ≤ es.length → pivP (diagI es) k = prodI (es.take k)
  | 0, _ => rfl
  | k + 1, h => by
    have hk : k < es.length := by omega
    rw [pivP_succ, pivP_diag k (by omega), prodI_take (List.getElem?_eq_getElem hk), piv_diag hk, getD_getD, List.getElem?_eq_getElem hk]
    rfl
theorem coset_single {ss t : List Int} : cosetI ss [t] = prodI (oddsI ss) := by
  unfold cosetI
  have el : (oddsI ss).length = ss.length := by unfold oddsI; simp
  rw [shift_single, ← el, pivP_diag _ (Nat.le_refl _), List.take_length]
theorem dot_unit : ∀ (r w : List Int) (i : Nat), (∀ j, j ≠ i → r.getD j 0 = 0 ∨ w.getD j 0 = 0) → r.length = w.length → dot r w = r.getD i 0 * w.getD i 0
  | [], [], i, _, _ => by simp [dot]
  | x :: r, y :: w, i, h, hl => by
    show x * y + dot r w = _
    cases i with
    | zero =>
      have e : dot r w = 0 := by
        have := dot_unit r w r.length (fun j _ => h (j + 1) (by omega)) (by simpa using hl)
        rw [this, getD_getD, List.getElem?_eq_none (Nat.le_refl _)]
        simp
      rw [e]
      simp
    | succ i =>
      have e0 : x * y = 0 := by
        rcases h 0 (by omega) with h0 | h0
        · rw [show x = 0 from h0, Int.zero_mul]
        · rw [show y = 0 from h0, Int.mul_zero]
      rw [e0, Int.zero_add]
      exact dot_unit r w i (fun j hj => h (j + 1) (by omega)) (by simpa using hl)
/-- the weights of one column -/
def unitV (n c : Nat) (x : Int) : List Int := (List.replicate n (0 : Int)).set c x
theorem unit_get {n c j : Nat} {x : Int} (h : c < n) : (unitV n c x).getD j 0 = if j = c then x else 0 := by
  unfold unitV
  rw [getD_getD]
  by_cases e : j = c
  · subst e
    rw [List.getElem?_set_self (by simpa using h), if_pos rfl]
    rfl
  · rw [List.getElem?_set_ne (fun x => e x.symm), if_neg e, List.getElem?_replicate]
    split <;> rfl
theorem unit_len {n c : Nat} {x : Int} : (unitV n c x).length = n := by unfold unitV; simp
theorem diag_len {es : List Int} : (diagI es).length = es.length := by unfold diagI; simp
theorem inv_diag {es : List Int} {m : Int} {c : Nat} (h : c < es.length) : ∀ k, k ≤ c → invC (diagI es) m c k = unitV es.length c (m / es.getD c 0)
  | 0, _ => by
    show ((List.replicate (diagI es).length (0 : Int)).set c (m / pivA (diagI es) c)) = _
    rw [diag_len, piv_diag h]
    rfl
  | k + 1, hk => by
    rw [invC_succ, inv_diag h k (by omega)]
    have hi : c - 1 - k < es.length := by omega
    have hne : c - 1 - k ≠ c := by omega
    unfold wstep
    rw [diag_row hi, dot_unit _ _ (c - 1 - k) (fun j hj => .inl (by rw [row_get hi, if_neg hj])) (by unfold rowI; rw [unit_len]; simp), unit_get h, if_neg hne, Int.mul_zero, Int.neg_zero, Int.zero_ediv]
    unfold unitV
    rw [List.set_comm _ _ hne.symm]
    congr 1
    refine List.ext_getElem (by simp) fun i h1 h2 => ?_
    rw [List.getElem_set]
    split
    · simp
    · rfl
theorem dot_unitV {n c : Nat} {x : Int} {v : List Int} (h : c < n) (hv : v.length = n) : dot (unitV n c x) v = x * v.getD c 0 := by
  rw [dot_unit _ _ c (fun j hj => .inl (by rw [unit_get h, if_neg hj])) (by rw [unit_len, hv]), unit_get h, if_pos rfl]
theorem prodI_dvd : ∀ {es : List Int} {c : Nat}, c < es.length → es.getD c 0 ∣ prodI es := by
  intro es c h
  have key : ∀ k, c < k → k ≤ es.length → es.getD c 0 ∣ prodI (es.take k) := by
    intro k
    induction k with
    | zero => intro h; omega
    | succ k ih =>
      intro h1 h2
      rw [prodI_take (List.getElem?_eq_getElem (by omega : k < es.length))]
      by_cases e : c = k
      · subst e
        rw [getD_getD, List.getElem?_eq_getElem (by omega : c < es.length)]
        exact Int.dvd_mul_left _ _
      · exact Int.dvd_trans (ih (by omega) (by omega)) (Int.dvd_mul_right _ _)
  have := key es.length h (Nat.le_refl _)
  rwa [List.take_length] at this
theorem prodI_pos : ∀ {es : List Int}, (∀ e ∈ es, 0 < e) → 0 < prodI es := by
  intro es h
  have key : ∀ k, k ≤ es.length → 0 < prodI (es.take k) := by
    intro k
    induction k with
    | zero => intro _; show (0 : Int) < 1; decide
    | succ k ih =>
      intro h2
      rw [prodI_take (List.getElem?_eq_getElem (by omega : k < es.length))]
      exact Int.mul_pos (ih (by omega)) (h _ (List.getElem_mem _))
  have := key es.length (Nat.le_refl _)
  rwa [List.take_length] at this
/-- a column tells whether the odd part divides the entry -/
theorem col_diag {es v : List Int} {c : Nat} (hp : ∀ e ∈ es, 0 < e) (h : c < es.length) (hv : v.length = es.length) : colF (diagI es) es.length v c = !decide (es.getD c 0 ∣ v.getD c 0) := by
  unfold colF
  have hP := prodI_pos hp
  have hd := prodI_dvd h
  rw [pivP_diag _ (Nat.le_refl _), List.take_length, inv_diag h c (Nat.le_refl _), dot_unitV h hv]
  generalize prodI es = m at *
  have ho : 0 < es.getD c 0 := by
    rw [getD_getD, List.getElem?_eq_getElem h]
    exact hp _ (List.getElem_mem h)
  generalize es.getD c 0 = o at *
  generalize v.getD c 0 = x
  obtain ⟨q, rfl⟩ := hd
  have hq : 0 < q := by
    rcases Int.lt_trichotomy q 0 with h | h | h
    · have := Int.mul_neg_of_pos_of_neg ho h; omega
    · subst h; simp at hP
    · exact h
  rw [Int.mul_ediv_cancel_left _ (by omega)]
  congr 1
  apply decide_eq_decide.mpr
  rw [← Int.dvd_iff_emod_eq_zero, Int.mul_comm o q]
  exact Int.mul_dvd_mul_iff_left (by omega)
theorem reach_single {ss t p : List Int} (hp : ∀ s ∈ oddsI ss, 0 < s) (ht : t.length = ss.length) (hl : p.length = ss.length) : (reachI ss [t] p).isNone = true ↔ ∀ c, c < ss.length → oddI (ss.getD c 0) ∣ p.getD c 0 - t.getD c 0 := by
  have el : (oddsI ss).length = ss.length := by unfold oddsI; simp
  have hv : (sub2 p t).length = (oddsI ss).length := by unfold sub2; rw [List.length_zipWith, ht, hl, Nat.min_self, el]
  unfold reachI
  rw [shift_single, show ([t] : List (List Int)).headD [] = t from rfl, ← el, Option.isNone_iff_eq_none, List.find?_eq_none]
  have hc : ∀ c, c < (oddsI ss).length → (¬ colF (diagI (oddsI ss)) (oddsI ss).length (sub2 p t) c = true ↔ oddI (ss.getD c 0) ∣ p.getD c 0 - t.getD c 0) := fun c h => by
    rw [col_diag hp h hv]
    have e1 : (oddsI ss).getD c 0 = oddI (ss.getD c 0) := by
      have h2 : c < ss.length := by rw [← el]; exact h
      unfold oddsI
      rw [getD_getD, getD_getD, List.getElem?_map, List.getElem?_eq_getElem h2]
      rfl
    have e2 : (sub2 p t).getD c 0 = p.getD c 0 - t.getD c 0 := getD_zw (by omega) (by omega)
    rw [e1, e2]
    simp
  exact ⟨fun h c hlt => (hc c hlt).mp (h c (List.mem_range.mpr hlt)), fun h c hm => (hc c (List.mem_range.mp hm)).mpr (h c (List.mem_range.mp hm))⟩

/-! ### groups of vectors -/
def fv (l : List Int) : Nat → Int := fun i => l.getD i 0
def eU (j : Nat) (x : Int) : Nat → Int := fun i => if i = j then x else 0
structure Grp (S : (Nat → Int) → Prop) : Prop where
  zero : S fun _ => 0
  add : ∀ (u v : Nat → Int) (c : Int), S u → S v → S fun i => u i + c * v i
theorem fv_out {l : List Int} {i : Nat} (h : l.length ≤ i) : fv l i = 0 := by
  unfold fv
  rw [getD_getD, List.getElem?_eq_none h]
  rfl
theorem fv_zw {g : Int → Int → Int} {xs ys : List Int} (hl : xs.length = ys.length) (h0 : g 0 0 = 0) : fv (List.zipWith g xs ys) = fun i => g (fv xs i) (fv ys i) := by
  funext i
  by_cases h : i < xs.length
  · exact getD_zw h (by omega)
  · rw [fv_out (by rw [List.length_zipWith]; omega), fv_out (by omega), fv_out (by omega), h0]
theorem grp_red_one {S : (Nat → Int) → Prop} (G : Grp S) {n k : Nat} {o q v w : Nat → Int} (ho : ∀ j, k < j → j < n → S (eU j (o j))) (hw : ∀ i, i < n → w i = v i - q i * o i) (h1 : ∀ i, i ≤ k → w i = v i) (h2 : ∀ i, n ≤ i → w i = v i) (h : S v) : S w := by
  have key : ∀ t, t ≤ n → S fun i => if i < t then w i else v i := by
    intro t
    induction t with
    | zero => intro _; simpa using h
    | succ t ih =>
      intro ht
      have h3 := ih (by omega)
      by_cases hk : t ≤ k
      · have e : (fun i => if i < t + 1 then w i else v i) = fun i => if i < t then w i else v i := by
          funext i
          by_cases e : i = t
          · subst e; rw [if_pos (by omega), if_neg (by omega), h1 i hk]
          · by_cases e2 : i < t
            · rw [if_pos (by omega), if_pos e2]
            · rw [if_neg (by omega), if_neg e2]
        rw [e]; exact h3
      · have h4 := G.add _ _ (-q t) h3 (ho t (by omega) (by omega))
        have e : (fun i => if i < t + 1 then w i else v i) = fun i => (if i < t then w i else v i) + -q t * eU t (o t) i := by
          funext i
          unfold eU
          by_cases e : i = t
          · subst e
            rw [if_pos (by omega), if_neg (by omega), if_pos rfl, hw i (by omega), Int.neg_mul]
            omega
          · rw [if_neg e, Int.mul_zero, Int.add_zero]
            by_cases e2 : i < t
            · rw [if_pos (by omega), if_pos e2]
            · rw [if_neg (by omega), if_neg e2]
        rw [e]; exact h4
  have h5 := key n (Nat.le_refl _)
  have e : (fun i => if i < n then w i else v i) = w := by
    funext i
    by_cases e : i < n
    · rw [if_pos e]
    · rw [if_neg e, h2 i (by omega)]
  rw [e] at h5
  exact h5
theorem grp_red {S : (Nat → Int) → Prop} (G : Grp S) {n k : Nat} {o q v w : Nat → Int} (ho : ∀ j, k < j → j < n → S (eU j (o j))) (hw : ∀ i, i < n → w i = v i - q i * o i) (h1 : ∀ i, i ≤ k → w i = v i) (h2 : ∀ i, n ≤ i → w i = v i) : S v ↔ S w :=
  ⟨grp_red_one G ho hw h1 h2, grp_red_one G (q := fun i => -q i) ho (fun i hi => by rw [hw i hi, Int.neg_mul]; omega) (fun i hi => (h1 i hi).symm) fun i hi => (h2 i hi).symm⟩
/-- reduced by all odd parts -/
theorem grp_mod {S : (Nat → Int) → Prop} (G : Grp S) {odds v : List Int} (hl : v.length = odds.length) (ho : ∀ j, j < odds.length → S (eU j (odds.getD j 0))) : S (fv v) ↔ S (fv (mod2 v odds)) := by
  have e : fv (mod2 v odds) = fun i => fv v i % fv odds i := fv_zw hl (by simp)
  rw [e]
  by_cases h0 : 0 < odds.length
  · have key : ∀ (w w2 : Nat → Int) (q : Nat → Int), (∀ i, i < odds.length → w2 i = w i - q i * fv odds i) → (∀ i, odds.length ≤ i → w2 i = w i) → S w → S w2 := by
      intro w w2 q hq h2 hw
      -- the first entry by hand
      have h3 := G.add _ _ (-q 0) hw (ho 0 h0)
      refine (grp_red G (n := odds.length) (k := 0) (o := fv odds) (q := fun i => if i = 0 then 0 else q i) (v := fun i => w i + -q 0 * eU 0 (odds.getD 0 0) i) (w := w2) (fun j _ h => ho j h) (fun i hi => ?_) (fun i hi => ?_) fun i hi => ?_).mp h3
      · by_cases e : i = 0
        · subst e
          rw [if_pos rfl, hq 0 hi]
          unfold eU fv
          rw [if_pos rfl, Int.neg_mul]
          omega
        · rw [if_neg e, hq i hi]
          unfold eU
          rw [if_neg e]
          omega
      · have : i = 0 := by omega
        subst this
        rw [hq 0 h0]
        unfold eU fv
        rw [if_pos rfl, Int.neg_mul]
        omega
      · rw [h2 i hi]
        unfold eU
        rw [if_neg (by omega)]
        omega
    have hmod : ∀ i, fv v i % fv odds i = fv v i - (fv v i / fv odds i) * fv odds i := fun i => by
      have := Int.emod_add_mul_ediv (fv v i) (fv odds i)
      rw [Int.mul_comm (fv v i / fv odds i)]
      omega
    have hout : ∀ i, odds.length ≤ i → fv v i % fv odds i = fv v i := fun i hi => by
      rw [fv_out (l := v) (by omega)]
      simp
    refine ⟨key _ _ (fun i => fv v i / fv odds i) (fun i _ => hmod i) hout, key _ _ (fun i => -(fv v i / fv odds i)) (fun i _ => ?_) fun i hi => (hout i hi).symm⟩
    rw [hmod i, Int.neg_mul]
    omega
  · have e2 : v = [] := List.eq_nil_of_length_eq_zero (by omega)
    subst e2
    have : (fun i => fv [] i % fv odds i) = fv [] := by funext i; simp [fv]
    rw [this]
theorem low_fv {piv rest : List Int} {i : Nat} (hl : piv.length = rest.length) : fv (lowV piv rest i) = fun j => fv rest j - (rest.getD i 0 / piv.getD i 0) * fv piv j := by
  unfold lowV
  exact fv_zw (g := fun p u => p - (rest.getD i 0 / piv.getD i 0) * u) hl.symm (by simp)
/-- one step leaves the group that is spanned -/
theorem nxt_grp {odds : List Int} {S : (Nat → Int) → Prop} (G : Grp S) {i : Nat} (hi : i < odds.length) (hod : ∀ j, i < j → j < odds.length → S (eU j (odds.getD j 0))) {piv rest : List Int} (h1 : RedV odds piv) (h2 : RedV odds rest) (z2 : Zer i rest) (z1 : Pv i piv) :
    ((S (fv piv) ∧ S (fv rest)) ↔ (S (fv piv) ∧ S (fv (nxtV odds piv rest i)))) := by
  obtain ⟨e1, e2, e3⟩ := euc_next hi h1 h2 z1.2
  have l1 := low_len (i := i) h1.len h2.len
  have hlow := low_fv (piv := piv) (rest := rest) (i := i) (by rw [h1.len, h2.len])
  have hm : fv (nxtV odds piv rest i) = fun j => fv (lowV piv rest i) j % fv odds j := fv_zw l1 (by simp)
  have hred : S (fv (lowV piv rest i)) ↔ S (fv (nxtV odds piv rest i)) := by
    refine grp_red G (n := odds.length) (k := i) (o := fv odds) (q := fun j => fv (lowV piv rest i) j / fv odds j) hod (fun j hj => ?_) (fun j hj => ?_) fun j hj => ?_
    · rw [hm]
      have := Int.emod_add_mul_ediv (fv (lowV piv rest i) j) (fv odds j)
      show fv (lowV piv rest i) j % fv odds j = _
      rw [Int.mul_comm (fv (lowV piv rest i) j / fv odds j)]
      omega
    · by_cases e : j < i
      · rw [hm]
        show fv (lowV piv rest i) j % fv odds j = _
        have : fv (lowV piv rest i) j = 0 := by
          rw [hlow]
          show fv rest j - _ * fv piv j = 0
          rw [show fv piv j = 0 from z1.1 j e, show fv rest j = 0 from z2 j e]
          simp
        rw [this]; simp
      · have : j = i := by omega
        subst this
        have e4 : fv (lowV piv rest j) j = rest.getD j 0 % piv.getD j 0 := by
          rw [hlow]
          show rest.getD j 0 - rest.getD j 0 / piv.getD j 0 * piv.getD j 0 = _
          have := Int.emod_add_mul_ediv (rest.getD j 0) (piv.getD j 0)
          rw [Int.mul_comm (rest.getD j 0 / piv.getD j 0)]
          omega
        rw [e4]
        exact e1
    · rw [hm]
      show fv (lowV piv rest i) j % fv odds j = _
      rw [fv_out (l := lowV piv rest i) (by omega)]
      simp
  rw [← hred, hlow]
  constructor
  · rintro ⟨a, b⟩
    refine ⟨a, ?_⟩
    have := G.add _ _ (-(rest.getD i 0 / piv.getD i 0)) b a
    have e : (fun j => fv rest j - (rest.getD i 0 / piv.getD i 0) * fv piv j) = fun j => fv rest j + -(rest.getD i 0 / piv.getD i 0) * fv piv j := by
      funext j; rw [Int.neg_mul]; omega
    rw [e]; exact this
  · rintro ⟨a, b⟩
    refine ⟨a, ?_⟩
    have := G.add _ _ (rest.getD i 0 / piv.getD i 0) b a
    have e : fv rest = fun j => fv rest j - (rest.getD i 0 / piv.getD i 0) * fv piv j + (rest.getD i 0 / piv.getD i 0) * fv piv j := by
      funext j; omega
    rw [e]; exact this
/-- Euclid's steps leave the group that is spanned -/
theorem euc_grp {odds : List Int} (hp : ∀ o ∈ odds, 0 < o) {S : (Nat → Int) → Prop} (G : Grp S) {i : Nat} (hi : i < odds.length) (hod : ∀ j, i < j → j < odds.length → S (eU j (odds.getD j 0))) : ∀ (f : Nat) (piv rest : List Int), RedV odds piv → RedV odds rest → Zer i rest → Pv i piv →
    ((S (fv piv) ∧ S (fv rest)) ↔ (S (fv (euc odds i f piv rest).1) ∧ S (fv (euc odds i f piv rest).2)))
  | 0, piv, rest, _, _, _, _ => Iff.rfl
  | f + 1, piv, rest, h1, h2, z2, z1 => by
    show _ ↔ (S (fv (if rest.getD i 0 = 0 then (piv, rest) else if (nxtV odds piv rest i).getD i 0 = 0 then (piv, nxtV odds piv rest i) else euc odds i f (nxtV odds piv rest i) piv).1) ∧ S (fv (if rest.getD i 0 = 0 then (piv, rest) else if (nxtV odds piv rest i).getD i 0 = 0 then (piv, nxtV odds piv rest i) else euc odds i f (nxtV odds piv rest i) piv).2))
    by_cases h0 : rest.getD i 0 = 0
    · rw [if_pos h0]
    · rw [if_neg h0]
      obtain ⟨e1, e2, e3⟩ := euc_next hi h1 h2 z1.2
      have hg := nxt_grp G hi hod h1 h2 z2 z1
      by_cases h9 : (nxtV odds piv rest i).getD i 0 = 0
      · rw [if_pos h9]; exact hg
      · rw [if_neg h9, ← euc_grp hp G hi hod f _ _ (nxt_red hp h1.len h2.len) h1 z1.1 ⟨low_zer (Nat.le_of_lt hi) h1.len h2.len z1.1 z2, by omega⟩, hg]
        exact And.comm
/-- the odd parts behind k are spanned by the rows behind k -/
def Hod (odds : List Int) (i : Nat) (rows : List (List Int)) : Prop := ∀ S : (Nat → Int) → Prop, Grp S → ∀ k, (∀ r ∈ rows.drop k, S (fv r)) → ∀ j, i + k ≤ j → j < odds.length → S (eU j (odds.getD j 0))
theorem withV_grp {odds : List Int} (hp : ∀ o ∈ odds, 0 < o) : ∀ (rows : List (List Int)) (i : Nat) (rest : List Int), RedV odds rest → Zer i rest → i + rows.length = odds.length → (∀ r ∈ rows, RedV odds r) → (∀ (j : Nat) r, rows[j]? = some r → Pv (i + j) r) → Hod odds i rows →
    (∀ S : (Nat → Int) → Prop, Grp S → (((∀ r ∈ rows, S (fv r)) ∧ S (fv rest)) ↔ ∀ r ∈ withV odds i rows rest, S (fv r))) ∧ Hod odds i (withV odds i rows rest)
  | [], i, rest, hr, z, hl, hrow, hpv, hod => by
    refine ⟨fun S G => ⟨fun _ r h => by simp [withV] at h, fun _ => ⟨by simp, ?_⟩⟩, fun S G k _ j h1 h2 => ?_⟩
    · have e : fv rest = fun _ => 0 := by
        funext j
        by_cases h : j < rest.length
        · exact z j (by have := hr.len; simp at hl; omega)
        · exact fv_out (by omega)
      rw [e]; exact G.zero
    · simp at hl; omega
  | row :: rows, i, rest, hr, z, hl, hrow, hpv, hod => by
    have h1 := hrow row (List.mem_cons_self ..)
    have hi : i < odds.length := by rw [← hl, List.length_cons]; omega
    obtain ⟨e1, e3⟩ := euc_ok hp i (row.getD i 0).toNat row rest h1 hr
    have hpr := hpv 0 row rfl
    rw [Nat.add_zero] at hpr
    obtain ⟨t1, t2⟩ := euc_tri hp hi (row.getD i 0).toNat row rest h1 hr z hpr (Nat.le_refl _)
    have hod' : Hod odds (i + 1) rows := fun S G k hS j hj1 hj2 => hod S G (k + 1) (by rw [List.drop_succ_cons]; exact hS) j (by omega) hj2
    obtain ⟨ih1, ih2⟩ := withV_grp hp rows (i + 1) (euc odds i (row.getD i 0).toNat row rest).2 e3 t2 (by rw [← hl, List.length_cons]; omega) (fun r hr => hrow r (List.mem_cons_of_mem _ hr)) (fun j r hj => by
      have := hpv (j + 1) r hj
      rw [show i + 1 + j = i + (j + 1) by omega]
      exact this) hod'
    have main : ∀ S : (Nat → Int) → Prop, Grp S → (((∀ r ∈ row :: rows, S (fv r)) ∧ S (fv rest)) ↔ ∀ r ∈ withV odds i (row :: rows) rest, S (fv r)) := by
      intro S G
      show _ ↔ ∀ r ∈ (euc odds i (row.getD i 0).toNat row rest).1 :: withV odds (i + 1) rows (euc odds i (row.getD i 0).toNat row rest).2, S (fv r)
      rw [List.forall_mem_cons, List.forall_mem_cons, ← ih1 S G]
      constructor
      · rintro ⟨⟨a, b⟩, c⟩
        obtain ⟨d1, d2⟩ := (euc_grp hp G hi (fun j hj1 hj2 => hod' S G 0 (by simpa using b) j (by omega) hj2) (row.getD i 0).toNat row rest h1 hr z hpr).mp ⟨a, c⟩
        exact ⟨d1, b, d2⟩
      · rintro ⟨a, b, c⟩
        obtain ⟨d1, d2⟩ := (euc_grp hp G hi (fun j hj1 hj2 => hod' S G 0 (by simpa using b) j (by omega) hj2) (row.getD i 0).toNat row rest h1 hr z hpr).mpr ⟨a, c⟩
        exact ⟨⟨d1, b⟩, d2⟩
    refine ⟨main, fun S G k hS j hj1 hj2 => ?_⟩
    cases k with
    | zero => exact hod S G 0 (by simpa using ((main S G).mpr (by simpa using hS)).1) j hj1 hj2
    | succ k => exact ih2 S G k hS j (by omega) hj2
theorem row_fv {odds : List Int} {j : Nat} (h : j < odds.length) : fv (rowI odds j) = eU j (odds.getD j 0) := by
  funext i
  exact row_get h
theorem diag_at {odds : List Int} {j : Nat} (h : j < odds.length) : (diagI odds)[j]? = some (rowI odds j) := by
  unfold diagI
  rw [List.getElem?_map, List.getElem?_range h]
  rfl
theorem hod_diag (odds : List Int) : Hod odds 0 (diagI odds) := fun S G k hS j h1 h2 => by
  rw [← row_fv h2]
  refine hS _ (List.mem_of_getElem? (i := j - k) ?_)
  rw [List.getElem?_drop, show k + (j - k) = j by omega]
  exact diag_at h2
theorem step_all {odds g0 : List Int} (hp : ∀ o ∈ odds, 0 < o) (hb : Bnd odds) (h0 : g0.length = odds.length) : ∀ (gs : List (List Int)) (rows : List (List Int)), (∀ g ∈ gs, g.length = odds.length) → Rows odds rows → Tri rows → Hod odds 0 rows →
    (∀ S : (Nat → Int) → Prop, Grp S → ((∀ r ∈ gs.foldl (stepB odds g0) rows, S (fv r)) ↔ (∀ r ∈ rows, S (fv r)) ∧ ∀ g ∈ gs, S (fv (sub2 g g0)))) ∧ Hod odds 0 (gs.foldl (stepB odds g0) rows)
  | [], rows, _, _, _, hod => ⟨fun S G => by simp, hod⟩
  | g :: gs, rows, hg, hR, hT, hod => by
    have hgl := hg g (List.mem_cons_self ..)
    have hv : (sub2 g g0).length = odds.length := by
      unfold sub2
      rw [List.length_zipWith, hgl, h0, Nat.min_self]
    have hred := mod2_red hv hp
    have hz : Zer 0 (mod2 (sub2 g g0) odds) := fun j hj => absurd hj (Nat.not_lt_zero j)
    have htri : ∀ (j : Nat) r, rows[j]? = some r → Pv (0 + j) r := fun j r hj => by rw [Nat.zero_add]; exact hT j r hj
    obtain ⟨a1, a2⟩ := withV_grp hp rows 0 _ hred hz (by rw [hR.len]; omega) hR.red htri hod
    have hT2 : Tri (stepB odds g0 rows g) := fun j r hj => by
      have := withV_tri hp rows 0 _ hred hz (by rw [hR.len]; omega) hR.red htri j r hj
      rw [Nat.zero_add] at this
      exact this
    obtain ⟨b1, b2⟩ := step_all hp hb h0 gs (stepB odds g0 rows g) (fun x hx => hg x (List.mem_cons_of_mem _ hx)) (hR.withV hp hb hv) hT2 a2
    refine ⟨fun S G => ?_, b2⟩
    rw [List.foldl_cons, b1 S G, List.forall_mem_cons]
    have e : (∀ r ∈ stepB odds g0 rows g, S (fv r)) ↔ (∀ r ∈ rows, S (fv r)) ∧ S (fv (mod2 (sub2 g g0) odds)) := (a1 S G).symm
    rw [e]
    constructor
    · rintro ⟨⟨c1, c2⟩, c3⟩
      exact ⟨c1, (grp_mod G hv fun j hj => hod S G 0 (by simpa using c1) j (by omega) hj).mpr c2, c3⟩
    · rintro ⟨c1, c2, c3⟩
      exact ⟨⟨c1, (grp_mod G hv fun j hj => hod S G 0 (by simpa using c1) j (by omega) hj).mp c2⟩, c3⟩
/-- what the free shifts are spanned by -/
def Gen (ss : List Int) (gs : List (List Int)) (S : (Nat → Int) → Prop) : Prop := (∀ j, j < ss.length → S (eU j (oddI (ss.getD j 0)))) ∧ ∀ g ∈ gs, S (fv (sub2 g (gs.headD [])))
theorem odds_get {ss : List Int} {j : Nat} (h : j < ss.length) : (oddsI ss).getD j 0 = oddI (ss.getD j 0) := by
  unfold oddsI
  rw [getD_getD, getD_getD, List.getElem?_map, List.getElem?_eq_getElem h]
  rfl
theorem odds_len {ss : List Int} : (oddsI ss).length = ss.length := by unfold oddsI; simp
theorem shift_grp {ss : List Int} {gs : List (List Int)} (z : Sz ss) (hg : gs ≠ []) (hl : ∀ g ∈ gs, g.length = ss.length) : (∀ S : (Nat → Int) → Prop, Grp S → ((∀ r ∈ shiftB ss gs, S (fv r)) ↔ Gen ss gs S)) ∧ Hod (oddsI ss) 0 (shiftB ss gs) := by
  have el : (oddsI ss).length = ss.length := odds_len
  obtain ⟨a, b⟩ := step_all (g0 := gs.headD []) (odds_pos z.pos) (odds_bnd z.bits) (by rw [el]; exact hl _ (headD_mem hg)) gs (diagI (oddsI ss)) (fun g h => by rw [el]; exact hl g h) (Rows.diag (odds_pos z.pos) (odds_bnd z.bits)) (diag_tri (odds_pos z.pos)) (hod_diag _)
  refine ⟨fun S G => ?_, b⟩
  unfold shiftB Gen
  rw [a S G]
  refine and_congr ⟨fun h j hj => ?_, fun h r hr => ?_⟩ Iff.rfl
  · have := hod_diag (oddsI ss) S G 0 (by simpa using h) j (by omega) (by omega)
    rw [odds_get hj] at this
    exact this
  · obtain ⟨j, hj, e⟩ := List.getElem_of_mem hr
    rw [diag_len] at hj
    have e2 := diag_at hj
    rw [List.getElem?_eq_getElem (by rw [diag_len]; exact hj), e] at e2
    rw [Option.some.inj e2, row_fv hj, odds_get (by omega)]
    exact h j (by omega)
/-! ### the weights of the columns -/
def dotF (w v : Nat → Int) : Nat → Int
  | 0 => 0
  | n + 1 => dotF w v n + w n * v n
theorem dotF_succ (w v : Nat → Int) : ∀ n, dotF w v (n + 1) = w 0 * v 0 + dotF (fun i => w (i + 1)) (fun i => v (i + 1)) n
  | 0 => by simp [dotF]
  | n + 1 => by
    show dotF w v (n + 1) + w (n + 1) * v (n + 1) = w 0 * v 0 + (dotF (fun i => w (i + 1)) (fun i => v (i + 1)) n + w (n + 1) * v (n + 1))
    rw [dotF_succ w v n]
    omega
theorem dot_F : ∀ (xs ys : List Int), xs.length = ys.length → dot xs ys = dotF (fv xs) (fv ys) xs.length
  | [], [], _ => rfl
  | x :: xs, y :: ys, h => by
    rw [List.length_cons, dotF_succ]
    show x * y + dot xs ys = _
    rw [dot_F xs ys (by simpa using h)]
    rfl
theorem dotF_add (w u v : Nat → Int) (c : Int) : ∀ n, dotF w (fun i => u i + c * v i) n = dotF w u n + c * dotF w v n
  | 0 => by simp [dotF]
  | n + 1 => by
    show dotF w (fun i => u i + c * v i) n + w n * (u n + c * v n) = (dotF w u n + w n * u n) + c * (dotF w v n + w n * v n)
    rw [dotF_add w u v c n, Int.mul_add, Int.mul_add, Int.mul_left_comm]
    omega
theorem dotF_zero (w : Nat → Int) : ∀ n, dotF w (fun _ => 0) n = 0
  | 0 => rfl
  | n + 1 => by
    show dotF w (fun _ => 0) n + w n * 0 = 0
    rw [dotF_zero w n]
    simp
theorem dotF_unit (w : Nat → Int) (j : Nat) (x : Int) : ∀ n, dotF w (eU j x) n = if j < n then w j * x else 0
  | 0 => by simp [dotF]
  | n + 1 => by
    show dotF w (eU j x) n + w n * eU j x n = _
    rw [dotF_unit w j x n]
    unfold eU
    by_cases e : n = j
    · subst e; rw [if_neg (by omega), if_pos rfl, if_pos (by omega)]; omega
    · rw [if_neg e, Int.mul_zero, Int.add_zero]
      by_cases e2 : j < n
      · rw [if_pos e2, if_pos (by omega)]
      · rw [if_neg e2, if_neg (by omega)]
theorem grp_dot (w : Nat → Int) (m : Int) (n : Nat) : Grp fun v => m ∣ dotF w v n :=
  ⟨by rw [dotF_zero]; exact Int.dvd_zero _, fun u v c h1 h2 => by rw [dotF_add]; exact Int.dvd_add h1 (Int.dvd_mul_of_dvd_right h2)⟩
theorem dot_set : ∀ (r w : List Int) (i : Nat) (x : Int), i < w.length → r.length = w.length → dot r (w.set i x) = dot r w + r.getD i 0 * (x - w.getD i 0)
  | [], [], i, x, h, _ => by simp at h
  | a :: r, b :: w, i, x, h, hl => by
    cases i with
    | zero =>
      show a * x + dot r w = a * b + dot r w + a * (x - b)
      rw [Int.mul_sub]
      omega
    | succ i =>
      show a * b + dot r (w.set i x) = a * b + dot r w + r.getD i 0 * (x - w.getD i 0)
      rw [dot_set r w i x (by simpa using h) (by simpa using hl)]
      omega
theorem set_get (w : List Int) (i j : Nat) (x : Int) (h : i < w.length) : (w.set i x).getD j 0 = if j = i then x else w.getD j 0 := by
  rw [getD_getD, getD_getD]
  by_cases e : j = i
  · subst e
    rw [List.getElem?_set_self h, if_pos rfl]
    rfl
  · rw [List.getElem?_set_ne (fun x => e x.symm), if_neg e]
theorem pivP_dvd (rows : List (List Int)) (i j : Nat) (h : i ≤ j) : pivP rows i ∣ pivP rows j := by
  induction j with
  | zero =>
    have : i = 0 := by omega
    subst this
    exact Int.dvd_refl _
  | succ j ih =>
    by_cases e : i = j + 1
    · subst e; exact Int.dvd_refl _
    · rw [pivP_succ]
      exact Int.dvd_trans (ih (by omega)) (Int.dvd_mul_right _ _)
theorem dvd_dot {p : Int} : ∀ (r w : List Int), (∀ j, p ∣ w.getD j 0) → p ∣ dot r w
  | [], _, _ => by simp [dot]
  | _ :: _, [], _ => by simp [dot]
  | a :: r, b :: w, h => by
    show p ∣ a * b + dot r w
    exact Int.dvd_add (Int.dvd_mul_of_dvd_right (h 0)) (dvd_dot r w fun j => h (j + 1))
structure InvW (rows : List (List Int)) (m : Int) (c t : Nat) (w : List Int) : Prop where
  len : w.length = rows.length
  out : ∀ j, c < j ∨ j < c - t → w.getD j 0 = 0
  top : w.getD c 0 = m / pivA rows c
  dvd : ∀ j, pivP rows (c - t) ∣ w.getD j 0
  nul : ∀ i, c - t ≤ i → i < c → dot (rows.getD i []) w = 0
theorem invW {odds : List Int} {rows : List (List Int)} (hR : Rows odds rows) (hT : Tri rows) {c : Nat} (hc : c < rows.length) : ∀ t, t ≤ c → InvW rows (pivP rows rows.length) c t (invC rows (pivP rows rows.length) c t)
  | 0, _ => by
    have hpp : ∀ i, i < rows.length → 0 < pivA rows i := fun i hi => by
      have h1 := (hT i _ (List.getElem?_eq_getElem hi)).2
      unfold pivA
      rw [(row_at hR hi).1]
      exact h1
    have hw : ∀ j, ((List.replicate rows.length (0 : Int)).set c (pivP rows rows.length / pivA rows c)).getD j 0 = if j = c then pivP rows rows.length / pivA rows c else 0 := fun j => by
      rw [set_get _ _ _ _ (by simpa using hc)]
      by_cases e : j = c
      · rw [if_pos e, if_pos e]
      · rw [if_neg e, if_neg e, getD_getD, List.getElem?_replicate]
        split <;> rfl
    refine ⟨by show ((List.replicate rows.length (0 : Int)).set c _).length = _; simp, fun j hj => ?_, ?_, fun j => ?_, fun i h1 h2 => by omega⟩
    · show ((List.replicate rows.length (0 : Int)).set c (pivP rows rows.length / pivA rows c)).getD j 0 = 0
      rw [hw, if_neg (by omega)]
    · show ((List.replicate rows.length (0 : Int)).set c (pivP rows rows.length / pivA rows c)).getD c 0 = _
      rw [hw, if_pos rfl]
    · show pivP rows (c - 0) ∣ ((List.replicate rows.length (0 : Int)).set c (pivP rows rows.length / pivA rows c)).getD j 0
      rw [hw, Nat.sub_zero]
      split
      · obtain ⟨q, hq⟩ := pivP_dvd rows (c + 1) rows.length (by omega)
        rw [hq, pivP_succ]
        have := hpp c hc
        rw [Int.mul_right_comm, Int.mul_ediv_cancel _ (by omega)]
        exact Int.dvd_mul_right _ _
      · exact Int.dvd_zero _
  | t + 1, ht => by
    have ih := invW hR hT hc t (by omega)
    rw [invC_succ]
    generalize invC rows (pivP rows rows.length) c t = w at ih
    have hi : c - 1 - t < rows.length := by omega
    have ei : c - t = (c - 1 - t) + 1 := by omega
    have ei2 : c - (t + 1) = c - 1 - t := by omega
    have hpos : 0 < pivA rows (c - 1 - t) := by
      have h1 := (hT _ _ (List.getElem?_eq_getElem hi)).2
      unfold pivA
      rw [(row_at hR hi).1]
      exact h1
    have hd := dvd_dot (rows.getD (c - 1 - t) []) w ih.dvd
    rw [ei, pivP_succ] at hd
    obtain ⟨q, hq⟩ := hd
    have hx : -(dot (rows.getD (c - 1 - t) []) w) / pivA rows (c - 1 - t) = -(pivP rows (c - 1 - t) * q) := by
      rw [hq, Int.mul_right_comm, ← Int.neg_mul, Int.mul_ediv_cancel _ (by omega)]
    have hw0 := ih.out (c - 1 - t) (.inr (by omega))
    have hlw : c - 1 - t < w.length := by rw [ih.len]; exact hi
    have hg : ∀ j, (wstep rows (c - 1 - t) w).getD j 0 = if j = c - 1 - t then -(pivP rows (c - 1 - t) * q) else w.getD j 0 := fun j => by
      unfold wstep
      rw [hx, set_get _ _ _ _ hlw]
    refine ⟨by unfold wstep; rw [List.length_set]; exact ih.len, fun j hj => ?_, ?_, fun j => ?_, fun i h1 h2 => ?_⟩
    · rw [hg, if_neg (by omega)]
      exact ih.out j (by omega)
    · rw [hg, if_neg (by omega)]
      exact ih.top
    · rw [hg, ei2]
      split
      · exact Int.dvd_neg.mpr (Int.dvd_mul_right _ _)
      · refine Int.dvd_trans ?_ (ih.dvd j)
        exact pivP_dvd rows _ _ (by omega)
    · rw [ei2] at h1
      have hil : i < rows.length := by omega
      have hrl : (rows.getD i []).length = w.length := by rw [(row_at hR hil).1, (row_at hR hil).2.1, ih.len, hR.len]
      unfold wstep
      rw [dot_set _ _ _ _ hlw hrl, hx, hw0, Int.sub_zero]
      by_cases e : i = c - 1 - t
      · subst e
        rw [hq]
        show pivP rows (c - 1 - t) * pivA rows (c - 1 - t) * q + pivA rows (c - 1 - t) * -(pivP rows (c - 1 - t) * q) = 0
        rw [Int.mul_neg, ← Int.mul_assoc, Int.mul_comm (pivA rows (c - 1 - t))]
        omega
      · rw [ih.nul i (by omega) h2]
        have hz := (hT i _ (List.getElem?_eq_getElem hil)).1 (c - 1 - t) (by omega)
        rw [(row_at hR hil).1, hz]
        simp
/-- the rows under the weights of a column -/
theorem dual {odds : List Int} {rows : List (List Int)} (hR : Rows odds rows) (hT : Tri rows) {c k : Nat} (hc : c < rows.length) (hk : k < rows.length) : dot (rows.getD k []) (invC rows (pivP rows rows.length) c c) = if k = c then pivP rows rows.length else 0 := by
  have h := invW hR hT hc c (Nat.le_refl _)
  generalize invC rows (pivP rows rows.length) c c = w at h
  have hrl : (rows.getD k []).length = w.length := by rw [(row_at hR hk).1, (row_at hR hk).2.1, h.len, hR.len]
  have hz := (hT k _ (List.getElem?_eq_getElem hk)).1
  rw [← (row_at hR hk).1] at hz
  by_cases hkc : k < c
  · rw [if_neg (by omega)]
    exact h.nul k (by omega) hkc
  · rw [dot_unit _ _ k (fun j hj => ?_) hrl]
    · by_cases e : k = c
      · subst e
        rw [if_pos rfl, h.top]
        show pivA rows k * (pivP rows rows.length / pivA rows k) = _
        refine Int.mul_ediv_cancel' ?_
        refine Int.dvd_trans ?_ (pivP_dvd rows (k + 1) rows.length (by omega))
        rw [pivP_succ]
        exact Int.dvd_mul_left _ _
      · rw [if_neg e, h.out k (.inl (by omega))]
        simp
    · by_cases e : j < k
      · exact .inl (hz j e)
      · exact .inr (h.out j (.inl (by omega)))

/-- v is told from the lattice by no column: it is in it -/
theorem col_mem {odds : List Int} {rows : List (List Int)} (hR : Rows odds rows) (hT : Tri rows) {v : List Int} (hv : v.length = rows.length) (h : ∀ c, c < rows.length → pivP rows rows.length ∣ dot (invC rows (pivP rows rows.length) c c) v) {S : (Nat → Int) → Prop} (G : Grp S) (hS : ∀ r ∈ rows, S (fv r)) : S (fv v) := by
  have hm := pivP_pos hT rows.length (Nat.le_refl _)
  have hwl : ∀ c, (invC rows (pivP rows rows.length) c c).length = rows.length := fun c => invC_len _ _ _ _
  have hdot : ∀ c, dot (invC rows (pivP rows rows.length) c c) v = dotF (fv (invC rows (pivP rows rows.length) c c)) (fv v) rows.length := fun c => by rw [dot_F _ _ (by rw [hwl, hv]), hwl]
  have hrow : ∀ c k, c < rows.length → k < rows.length → dotF (fv (invC rows (pivP rows rows.length) c c)) (fv (rows.getD k [])) rows.length = if k = c then pivP rows rows.length else 0 := fun c k hc hk => by
    have e := dual hR hT hc hk
    have hl : (rows.getD k []).length = rows.length := by rw [(row_at hR hk).1, (row_at hR hk).2.1, hR.len]
    have comm : ∀ (a b : Nat → Int) n, dotF a b n = dotF b a n := fun a b n => by
      induction n with
      | zero => rfl
      | succ n ih => show dotF a b n + a n * b n = dotF b a n + b n * a n; rw [ih, Int.mul_comm]
    rw [dot_F _ _ (by rw [hl, hwl]), hl] at e
    rw [comm]
    exact e
  generalize hW : (fun c => fv (invC rows (pivP rows rows.length) c c)) = W at *
  have hWc : ∀ c, fv (invC rows (pivP rows rows.length) c c) = W c := fun c => by rw [← hW]
  have hout : ∀ c, c < rows.length → ∀ j, c < j → W c j = 0 := fun c hc j hj => by
    rw [← hWc]
    exact (invW hR hT hc c (Nat.le_refl _)).out j (.inl hj)
  have htop : ∀ c, c < rows.length → W c c ≠ 0 := fun c hc => by
    rw [← hWc]
    have e := (invW hR hT hc c (Nat.le_refl _)).top
    rw [show fv (invC rows (pivP rows rows.length) c c) c = _ from e]
    obtain ⟨q, hq⟩ := pivP_dvd rows (c + 1) rows.length (by omega)
    rw [pivP_succ] at hq
    have hp0 : pivA rows c ≠ 0 := fun e => by rw [e] at hq; simp at hq; omega
    rw [hq, Int.mul_right_comm, Int.mul_ediv_cancel _ hp0]
    intro e2
    rw [Int.mul_right_comm, e2, Int.zero_mul] at hq
    omega
  simp only [hWc] at hdot hrow h
  have hq : ∀ c, c < rows.length → ∃ q, dotF (W c) (fv v) rows.length = pivP rows rows.length * q := fun c hc => by
    have := h c hc
    rw [hdot] at this
    exact this
  obtain ⟨a, ha⟩ : ∃ a : Nat → Int, ∀ c, c < rows.length → dotF (W c) (fv v) rows.length = pivP rows rows.length * a c := by
    refine ⟨fun c => dotF (W c) (fv v) rows.length / pivP rows rows.length, fun c hc => ?_⟩
    obtain ⟨q, e⟩ := hq c hc
    show _ = _ * (dotF (W c) (fv v) rows.length / pivP rows rows.length)
    rw [e, Int.mul_ediv_cancel_left _ (by omega)]
  let U : Nat → Nat → Int := fun k => Nat.rec (fv v) (fun k u i => u i + -a k * fv (rows.getD k []) i) k
  have hU0 : U 0 = fv v := rfl
  have hUs : ∀ k, U (k + 1) = fun i => U k i + -a k * fv (rows.getD k []) i := fun _ => rfl
  have hdU : ∀ k, k ≤ rows.length → ∀ c, c < rows.length → dotF (W c) (U k) rows.length = if c < k then 0 else pivP rows rows.length * a c := by
    intro k
    induction k with
    | zero => intro _ c hc; rw [hU0, if_neg (by omega)]; exact ha c hc
    | succ k ih =>
      intro hk c hc
      rw [hUs, dotF_add, ih (by omega) c hc, hrow c k hc (by omega)]
      by_cases e : k = c
      · subst e
        rw [if_pos rfl, if_neg (by omega), if_pos (by omega), Int.neg_mul, Int.mul_comm (a k)]
        omega
      · rw [if_neg e, Int.mul_zero, Int.add_zero]
        by_cases e2 : c < k
        · rw [if_pos e2, if_pos (by omega)]
        · rw [if_neg e2, if_neg (by omega)]
  have hUo : ∀ k, k ≤ rows.length → ∀ j, rows.length ≤ j → U k j = 0 := by
    intro k
    induction k with
    | zero => intro _ j hj; rw [hU0]; exact fv_out (by omega)
    | succ k ih =>
      intro hk j hj
      rw [hUs]
      show U k j + -a k * fv (rows.getD k []) j = 0
      rw [ih (by omega) j hj, fv_out (by rw [(row_at hR (by omega)).1, (row_at hR (by omega)).2.1, ← hR.len]; exact hj)]
      simp
  have hz : ∀ c, c < rows.length → U rows.length c = 0 := by
    intro c
    induction c using Nat.strongRecOn with
    | ind c ih =>
      intro hc
      have e := hdU rows.length (Nat.le_refl _) c hc
      rw [if_pos hc] at e
      have key : ∀ n, dotF (W c) (U rows.length) n = if c < n then W c c * U rows.length c else 0 := by
        intro n
        induction n with
        | zero => rfl
        | succ n ihn =>
          show dotF (W c) (U rows.length) n + W c n * U rows.length n = _
          rw [ihn]
          by_cases e1 : n = c
          · subst e1; rw [if_neg (by omega), if_pos (by omega)]; omega
          · by_cases e2 : c < n
            · rw [if_pos e2, if_pos (by omega), hout c hc n e2]; simp
            · rw [if_neg e2, if_neg (by omega), ih n (by omega) (by omega)]; simp
      rw [key, if_pos hc] at e
      rcases Int.mul_eq_zero.mp e with h1 | h1
      · exact absurd h1 (htop c hc)
      · exact h1
  have hUn : U rows.length = fun _ => 0 := by
    funext j
    by_cases h : j < rows.length
    · exact hz j h
    · exact hUo _ (Nat.le_refl _) j (by omega)
  have back : ∀ k, k ≤ rows.length → S (U (rows.length - k)) := by
    intro k
    induction k with
    | zero => intro _; rw [Nat.sub_zero, hUn]; exact G.zero
    | succ k ih =>
      intro hk
      have e1 : rows.length - k = (rows.length - (k + 1)) + 1 := by omega
      have h1 := ih (by omega)
      rw [e1, hUs] at h1
      generalize hi : rows.length - (k + 1) = i at h1 ⊢
      have hin : i < rows.length := by omega
      have hr := hS rows[i] (List.getElem_mem hin)
      rw [← (row_at hR hin).1] at hr
      have h2 := G.add _ _ (a i) h1 hr
      have e3 : (fun j => U i j + -a i * fv (rows.getD i []) j + a i * fv (rows.getD i []) j) = U i := by
        funext j
        rw [Int.neg_mul]
        omega
      rw [e3] at h2
      exact h2
  have := back rows.length (Nat.le_refl _)
  rw [Nat.sub_self] at this
  exact this
/-- the free shifts: what is in every group that holds what spans them -/
def Free (ss : List Int) (gs : List (List Int)) (v : Nat → Int) : Prop := ∀ S : (Nat → Int) → Prop, Grp S → Gen ss gs S → S v
structure LatW (ss : List Int) (gs : List (List Int)) (m : Int) (w : List Int) : Prop where
  len : w.length = ss.length
  odd : ∀ j, j < ss.length → m ∣ w.getD j 0 * oddI (ss.getD j 0)
  dif : ∀ g ∈ gs, m ∣ dot w (sub2 g (gs.headD []))
theorem lat_w {ss : List Int} {gs : List (List Int)} (z : Sz ss) (hg : gs ≠ []) (hl : ∀ g ∈ gs, g.length = ss.length) {c : Nat} (hc : c < ss.length) : LatW ss gs (cosetI ss gs) (invC (shiftB ss gs) (cosetI ss gs) c c) ∧ Gen ss gs fun v => cosetI ss gs ∣ dotF (fv (invC (shiftB ss gs) (cosetI ss gs) c c)) v ss.length := by
  have hR := shift_rows z hg hl
  have hT := shift_tri z hg hl
  have hn : (shiftB ss gs).length = ss.length := by rw [hR.len, odds_len]
  obtain ⟨hspan, _⟩ := shift_grp z hg hl
  have e : cosetI ss gs = pivP (shiftB ss gs) (shiftB ss gs).length := by unfold cosetI; rw [hn]
  have hwl := invC_len (shiftB ss gs) (cosetI ss gs) c c
  have hgen : Gen ss gs fun v => cosetI ss gs ∣ dotF (fv (invC (shiftB ss gs) (cosetI ss gs) c c)) v ss.length := by
    refine (hspan _ (grp_dot _ _ _)).mp fun r hr => ?_
    obtain ⟨k, hk, er⟩ := List.getElem_of_mem hr
    have hd := dual hR hT (by omega : c < (shiftB ss gs).length) hk
    have comm : ∀ (a b : Nat → Int) n, dotF a b n = dotF b a n := fun a b n => by
      induction n with
      | zero => rfl
      | succ n ih => show dotF a b n + a n * b n = dotF b a n + b n * a n; rw [ih, Int.mul_comm]
    have hrl : r.length = ss.length := by rw [← er, (row_at hR hk).2.1, odds_len]
    rw [(row_at hR hk).1, er, ← e] at hd
    rw [comm, ← hrl, ← dot_F _ _ (by rw [hwl, hrl, hn]), hd]
    split
    · exact Int.dvd_refl _
    · exact Int.dvd_zero _
  refine ⟨⟨by rw [hwl, hn], fun j hj => ?_, fun g hgm => ?_⟩, hgen⟩
  · have h1 : cosetI ss gs ∣ dotF (fv (invC (shiftB ss gs) (cosetI ss gs) c c)) (eU j (oddI (ss.getD j 0))) ss.length := hgen.1 j hj
    rw [dotF_unit, if_pos hj] at h1
    exact h1
  · have := hgen.2 g hgm
    have hsl : (sub2 g (gs.headD [])).length = ss.length := by
      unfold sub2
      rw [List.length_zipWith, hl g hgm, hl _ (headD_mem hg), Nat.min_self]
    rw [dot_F _ _ (by rw [hwl, hsl, hn]), hwl, hn]
    exact this
theorem reach_free {ss : List Int} {gs : List (List Int)} (z : Sz ss) (hg : gs ≠ []) (hl : ∀ g ∈ gs, g.length = ss.length) {p : List Int} (hp : p.length = ss.length) : reachI ss gs p = none ↔ Free ss gs (fv (sub2 p (gs.headD []))) := by
  have hR := shift_rows z hg hl
  have hT := shift_tri z hg hl
  have hn : (shiftB ss gs).length = ss.length := by rw [hR.len, odds_len]
  have e : cosetI ss gs = pivP (shiftB ss gs) (shiftB ss gs).length := by unfold cosetI; rw [hn]
  have hsl : (sub2 p (gs.headD [])).length = ss.length := by
    unfold sub2
    rw [List.length_zipWith, hp, hl _ (headD_mem hg), Nat.min_self]
  obtain ⟨hspan, _⟩ := shift_grp z hg hl
  have hcol : ∀ c, c < ss.length → (¬ colF (shiftB ss gs) ss.length (sub2 p (gs.headD [])) c = true ↔ cosetI ss gs ∣ dot (invC (shiftB ss gs) (cosetI ss gs) c c) (sub2 p (gs.headD []))) := fun c hc => by
    unfold colF
    rw [show pivP (shiftB ss gs) ss.length = cosetI ss gs from rfl, Int.dvd_iff_emod_eq_zero]
    simp
  unfold reachI
  rw [List.find?_eq_none]
  constructor
  · intro h S G hgen
    refine col_mem hR hT (by rw [hsl, hn]) (fun c hc => ?_) G ((hspan S G).mpr hgen)
    rw [← e]
    exact (hcol c (by omega)).mp (h c (List.mem_range.mpr (by omega)))
  · intro h c hm
    have hc := List.mem_range.mp hm
    refine (hcol c hc).mpr ?_
    have hwl := invC_len (shiftB ss gs) (cosetI ss gs) c c
    have := h _ (grp_dot _ _ _) (lat_w z hg hl hc).2
    rw [dot_F _ _ (by rw [hwl, hsl, hn]), hwl, hn]
    exact this

/-! ### pivots -/
theorem dotF_comm (a b : Nat → Int) : ∀ n, dotF a b n = dotF b a n
  | 0 => rfl
  | n + 1 => by
    show dotF a b n + a n * b n = dotF b a n + b n * a n
    rw [dotF_comm a b n, Int.mul_comm]
theorem pivA_eq {odds : List Int} {rows : List (List Int)} (hR : Rows odds rows) {k : Nat} (hk : k < rows.length) : pivA rows k = fv (rows.getD k []) k := rfl
theorem pivA_pos {odds : List Int} {rows : List (List Int)} (hR : Rows odds rows) (hT : Tri rows) {k : Nat} (hk : k < rows.length) : 0 < pivA rows k := by
  have h1 := (hT k _ (List.getElem?_eq_getElem hk)).2
  unfold pivA
  rw [(row_at hR hk).1]
  exact h1
/-- what is spanned and has zeros ahead of k is divided by the pivot there -/
theorem span_piv {odds : List Int} {rows : List (List Int)} (hR : Rows odds rows) (hT : Tri rows) {v : Nat → Int} (h : ∀ S : (Nat → Int) → Prop, Grp S → (∀ r ∈ rows, S (fv r)) → S v) {k : Nat} (hk : k < rows.length) (hz : ∀ j, j < k → v j = 0) : pivA rows k ∣ v k := by
  have hwl := invC_len rows (pivP rows rows.length) k k
  have hW := invW hR hT hk k (Nat.le_refl _)
  have h1 := h _ (grp_dot (fv (invC rows (pivP rows rows.length) k k)) (pivP rows rows.length) rows.length) fun r hr => by
    obtain ⟨i, hi, er⟩ := List.getElem_of_mem hr
    have hd := dual hR hT hk hi
    have hrl : r.length = rows.length := by rw [← er, (row_at hR hi).2.1, hR.len]
    rw [(row_at hR hi).1, er, dot_F _ _ (by rw [hrl, hwl]), hrl] at hd
    rw [dotF_comm, hd]
    split
    · exact Int.dvd_refl _
    · exact Int.dvd_zero _
  have key : ∀ n, dotF (fv (invC rows (pivP rows rows.length) k k)) v n = if k < n then (pivP rows rows.length / pivA rows k) * v k else 0 := by
    intro n
    induction n with
    | zero => rfl
    | succ n ih =>
      show dotF _ v n + fv (invC rows (pivP rows rows.length) k k) n * v n = _
      rw [ih]
      by_cases e1 : n = k
      · subst e1
        rw [if_neg (by omega), if_pos (by omega), show fv (invC rows (pivP rows rows.length) n n) n = _ from hW.top]
        omega
      · by_cases e2 : k < n
        · rw [if_pos e2, if_pos (by omega), show fv (invC rows (pivP rows rows.length) k k) n = 0 from hW.out n (.inl e2)]
          omega
        · rw [if_neg e2, if_neg (by omega), hz n (by omega)]
          omega
  rw [key, if_pos hk] at h1
  have hp := pivA_pos hR hT hk
  have hm := pivP_pos hT rows.length (Nat.le_refl _)
  obtain ⟨q, hq⟩ : pivA rows k ∣ pivP rows rows.length := Int.dvd_trans (by rw [pivP_succ]; exact Int.dvd_mul_left _ _) (pivP_dvd rows (k + 1) rows.length (by omega))
  rw [hq, Int.mul_ediv_cancel_left _ (by omega)] at h1
  rw [hq] at hm
  have hq0 : q ≠ 0 := fun e => by rw [e] at hm; simp at hm
  rw [Int.mul_comm (pivA rows k)] at h1
  exact Int.dvd_of_mul_dvd_mul_left hq0 h1
theorem pivP_dvd_of {rows rows' : List (List Int)} : ∀ n, (∀ k, k < n → pivA rows' k ∣ pivA rows k) → pivP rows' n ∣ pivP rows n
  | 0, _ => Int.dvd_refl _
  | n + 1, h => by
    rw [pivP_succ, pivP_succ]
    exact Int.mul_dvd_mul (pivP_dvd_of n fun k hk => h k (by omega)) (h n (by omega))
theorem piv_all_eq {rows rows' : List (List Int)} : ∀ n, (∀ k, k < n → 0 < pivA rows k ∧ 0 < pivA rows' k ∧ pivA rows' k ∣ pivA rows k) → pivP rows' n = pivP rows n → ∀ k, k < n → pivA rows' k = pivA rows k
  | 0, _, _ => fun k hk => absurd hk (Nat.not_lt_zero k)
  | n + 1, h, e => by
    rw [pivP_succ, pivP_succ] at e
    have hpos : ∀ n', n' ≤ n → 0 < pivP rows n' ∧ 0 < pivP rows' n' := by
      intro n'
      induction n' with
      | zero => intro _; exact ⟨by show (0 : Int) < 1; decide, by show (0 : Int) < 1; decide⟩
      | succ j ih =>
        intro hj
        obtain ⟨a, b⟩ := ih (by omega)
        obtain ⟨c, d, _⟩ := h j (by omega)
        rw [pivP_succ, pivP_succ]
        exact ⟨Int.mul_pos a c, Int.mul_pos b d⟩
    obtain ⟨p1, p2⟩ := hpos n (Nat.le_refl _)
    obtain ⟨c, d, hd⟩ := h n (by omega)
    have hP := Int.le_of_dvd p1 (pivP_dvd_of n fun k hk => (h k (by omega)).2.2)
    have hq := Int.le_of_dvd c hd
    have e1 : pivP rows' n = pivP rows n := by
      by_cases hlt : pivP rows' n < pivP rows n
      · have h1 : pivP rows' n * pivA rows' n ≤ pivP rows' n * pivA rows n := Int.mul_le_mul_of_nonneg_left hq (by omega)
        have h2 : pivP rows' n * pivA rows n < pivP rows n * pivA rows n := Int.mul_lt_mul_of_pos_right hlt c
        omega
      · omega
    have e2 : pivA rows' n = pivA rows n := by
      rw [e1] at e
      exact Int.eq_of_mul_eq_mul_left (by omega) e
    intro k hk
    by_cases ek : k = n
    · subst ek; exact e2
    · exact piv_all_eq n (fun k hk => h k (by omega)) e1 k (by omega)
/-- a vector of one lattice is in a smaller one with the same pivots -/
theorem span_back {odds : List Int} {rows rows' : List (List Int)} (hR : Rows odds rows) (hT : Tri rows) (hR' : Rows odds rows') (hT' : Tri rows') (heq : ∀ k, k < rows.length → pivA rows' k = pivA rows k) {S : (Nat → Int) → Prop} (G : Grp S) (hS : ∀ r ∈ rows, S (fv r))
    (hsub : ∀ S : (Nat → Int) → Prop, Grp S → (∀ r ∈ rows', S (fv r)) → ∀ r ∈ rows, S (fv r)) : ∀ (d k : Nat) (v : Nat → Int), k + d = rows.length → (∀ j, rows.length ≤ j → v j = 0) → (∀ j, j < k → v j = 0) → (∀ S : (Nat → Int) → Prop, Grp S → (∀ r ∈ rows', S (fv r)) → S v) → S v
  | 0, k, v, hd, ho, hz, h => by
    have : v = fun _ => 0 := by
      funext j
      by_cases e : j < k
      · exact hz j e
      · exact ho j (by omega)
    rw [this]; exact G.zero
  | d + 1, k, v, hd, ho, hz, h => by
    have hk : k < rows.length := by omega
    have hn : rows'.length = rows.length := by rw [hR.len, hR'.len]
    have h1 := span_piv hR' hT' h (by omega : k < rows'.length) hz
    rw [heq k hk] at h1
    obtain ⟨q, hq⟩ := h1
    have hrow := hS rows[k] (List.getElem_mem hk)
    have hrk := (row_at hR hk).1
    have hzk := (hT k _ (List.getElem?_eq_getElem hk)).1
    have hv : S fun i => v i + -q * fv rows[k] i := by
      refine span_back hR hT hR' hT' heq G hS hsub d (k + 1) _ (by omega) (fun j hj => ?_) (fun j hj => ?_) fun S' G' hS' => ?_
      · show v j + -q * fv rows[k] j = 0
        rw [ho j hj, fv_out (by rw [(row_at hR hk).2.1, ← hR.len]; exact hj)]
        simp
      · show v j + -q * fv rows[k] j = 0
        by_cases e : j = k
        · subst e
          have : fv rows[j] j = pivA rows j := by unfold pivA; rw [hrk]; rfl
          rw [hq, this, Int.neg_mul, Int.mul_comm]
          omega
        · rw [hz j (by omega), show fv rows[k] j = 0 from hzk j (by omega)]
          simp
      · exact G'.add _ _ _ (h S' G' hS') (hsub S' G' hS' _ (List.getElem_mem hk))
    have h2 := G.add _ _ q hv hrow
    have e3 : (fun i => v i + -q * fv rows[k] i + q * fv rows[k] i) = v := by
      funext i
      rw [Int.neg_mul]
      omega
    rw [e3] at h2
    exact h2
section
variable {ss : List Int} {gs hs : List (List Int)} (z : Sz ss) (hg : gs ≠ []) (hl : ∀ g ∈ gs, g.length = ss.length)
include z hg hl
theorem coset_pos : 0 < cosetI ss gs := pivP_pos (shift_tri z hg hl) _ (by rw [(shift_rows z hg hl).len, odds_len]; exact Nat.le_refl _)
theorem coset_dvd_prod : cosetI ss gs ∣ prodI (oddsI ss) := by
  have hR := shift_rows z hg hl
  have hT := shift_tri z hg hl
  have hn : (shiftB ss gs).length = ss.length := by rw [hR.len, odds_len]
  obtain ⟨hspan, _⟩ := shift_grp z hg hl
  have key : ∀ k, k ≤ ss.length → pivP (shiftB ss gs) k ∣ prodI ((oddsI ss).take k) := by
    intro k
    induction k with
    | zero => intro _; exact Int.dvd_refl _
    | succ k ih =>
      intro hk
      have hko : k < (oddsI ss).length := by rw [odds_len]; omega
      rw [pivP_succ, prodI_take (List.getElem?_eq_getElem hko)]
      refine Int.mul_dvd_mul (ih (by omega)) ?_
      have h1 := span_piv hR hT (v := eU k (oddI (ss.getD k 0))) (fun S G hS => ((hspan S G).mp hS).1 k (by omega)) (by omega : k < (shiftB ss gs).length) (fun j hj => by unfold eU; rw [if_neg (by omega)])
      have e : (oddsI ss)[k] = oddI (ss.getD k 0) := by
        rw [← odds_get (by omega), getD_getD, List.getElem?_eq_getElem hko]
        rfl
      rw [e]
      unfold eU at h1
      rw [if_pos rfl] at h1
      exact h1
  have := key ss.length (Nat.le_refl _)
  rw [← odds_len (ss := ss), List.take_length, odds_len] at this
  exact this
theorem coset_odd : cosetI ss gs % 2 = 1 := by
  refine dvd_odd (coset_dvd_prod z hg hl) ?_
  have key : ∀ k, k ≤ (oddsI ss).length → prodI ((oddsI ss).take k) % 2 = 1 := by
    intro k
    induction k with
    | zero => intro _; rfl
    | succ k ih =>
      intro hk
      have hko : k < (oddsI ss).length := by omega
      rw [prodI_take (List.getElem?_eq_getElem hko), Int.mul_emod, ih (by omega)]
      have hks : k < ss.length := by rw [← odds_len (ss := ss)]; exact hko
      have e : (oddsI ss)[k] = oddI ss[k] := List.getElem_map oddI
      rw [e]
      obtain ⟨_, _, h⟩ := oddI_split (z.pos _ (List.getElem_mem hks))
      rw [h]
      rfl
  have := key _ (Nat.le_refl _)
  rwa [List.take_length] at this
variable (hh : hs ≠ []) (hhl : ∀ g ∈ hs, g.length = ss.length) (hsub : ∀ S : (Nat → Int) → Prop, Grp S → Gen ss hs S → Gen ss gs S)
include hh hhl hsub
/-- more targets: fewer sets -/
theorem coset_dvd : cosetI ss hs ∣ cosetI ss gs := by
  have hR := shift_rows z hg hl
  have hT := shift_tri z hg hl
  have hR' := shift_rows z hh hhl
  have hT' := shift_tri z hh hhl
  have hn : (shiftB ss gs).length = ss.length := by rw [hR.len, odds_len]
  have hn' : (shiftB ss hs).length = ss.length := by rw [hR'.len, odds_len]
  refine pivP_dvd_of _ fun k hk => ?_
  have hr : fv ((shiftB ss gs).getD k []) k = pivA (shiftB ss gs) k := rfl
  rw [← hr]
  refine span_piv hR' hT' (fun S G hS => ?_) (by omega) fun j hj => ?_
  · have h1 := ((shift_grp z hg hl).1 S G).mpr (hsub S G (((shift_grp z hh hhl).1 S G).mp hS))
    rw [(row_at hR (by omega)).1]
    exact h1 _ (List.getElem_mem (by omega))
  · rw [(row_at hR (by omega)).1]
    exact (hT k _ (List.getElem?_eq_getElem (by omega))).1 j hj
/-- as many sets: the same free shifts -/
theorem coset_same (e : cosetI ss hs = cosetI ss gs) {v : Nat → Int} (hv : ∀ j, ss.length ≤ j → v j = 0) (h : Free ss hs v) : Free ss gs v := by
  have hR := shift_rows z hg hl
  have hT := shift_tri z hg hl
  have hR' := shift_rows z hh hhl
  have hT' := shift_tri z hh hhl
  have hn : (shiftB ss gs).length = ss.length := by rw [hR.len, odds_len]
  have hn' : (shiftB ss hs).length = ss.length := by rw [hR'.len, odds_len]
  have hrows : ∀ S : (Nat → Int) → Prop, Grp S → (∀ r ∈ shiftB ss hs, S (fv r)) → ∀ r ∈ shiftB ss gs, S (fv r) := fun S G hS => ((shift_grp z hg hl).1 S G).mpr (hsub S G (((shift_grp z hh hhl).1 S G).mp hS))
  have hpd : ∀ k, k < ss.length → pivA (shiftB ss hs) k ∣ pivA (shiftB ss gs) k := fun k hk => by
    have hr : fv ((shiftB ss gs).getD k []) k = pivA (shiftB ss gs) k := rfl
    rw [← hr]
    refine span_piv hR' hT' (fun S G hS => ?_) (by omega) fun j hj => ?_
    · rw [(row_at hR (by omega)).1]
      exact hrows S G hS _ (List.getElem_mem (by omega))
    · rw [(row_at hR (by omega)).1]
      exact (hT k _ (List.getElem?_eq_getElem (by omega))).1 j hj
  have hpe := piv_all_eq ss.length (fun k hk => ⟨pivA_pos hR hT (by omega), pivA_pos hR' hT' (by omega), hpd k hk⟩) e
  intro S G hgen
  refine span_back hR hT hR' hT' (fun k hk => hpe k (by omega)) G (((shift_grp z hg hl).1 S G).mpr hgen) hrows (shiftB ss gs).length 0 v (by omega) (fun j hj => hv j (by omega)) (fun j hj => absurd hj (Nat.not_lt_zero j)) fun S' G' hS' => ?_
  exact h S' G' (((shift_grp z hh hhl).1 S' G').mp hS')
end
/-! ### witnesses -/
/-- a witness: modulus, weights, residue -/
structure Wit (ss : List Int) (m : Int) (ws : List Int) (r : Int) : Prop where
  len : ws.length = ss.length
  three : 3 ≤ m
  odd : m % 2 = 1
  rng : ∀ x ∈ ws, 0 ≤ x ∧ x < m
  fit : ∀ (i : Nat) x s, ws[i]? = some x → ss[i]? = some s → x * s % m = 0
  res : 0 ≤ r ∧ r < m
theorem dot_mod {d sm : Int} (hd : d ≠ 0) : ∀ (ws xs : List Int), (∀ x ∈ ws, d ∣ x) → d * sm ∣ dot ws xs - d * dot (ws.map fun x => x / d % sm) xs
  | [], xs, _ => by simp [dot]
  | x :: ws, [], _ => by simp [dot]
  | x :: ws, y :: xs, h => by
    obtain ⟨u, rfl⟩ := h x (List.mem_cons_self ..)
    have ih := dot_mod (sm := sm) hd ws xs (fun x hx => h x (List.mem_cons_of_mem _ hx))
    show d * sm ∣ d * u * y + dot ws xs - d * (d * u / d % sm * y + dot (ws.map fun x => x / d % sm) xs)
    rw [Int.mul_ediv_cancel_left _ hd]
    have e : d * u * y + dot ws xs - d * (u % sm * y + dot (ws.map fun x => x / d % sm) xs) = d * sm * (u / sm * y) + (dot ws xs - d * dot (ws.map fun x => x / d % sm) xs) := by
      have h1 : u = u % sm + sm * (u / sm) := by have := Int.emod_add_mul_ediv u sm; omega
      have h2 : d * u * y = d * (u % sm * y) + d * sm * (u / sm * y) := by
        conv => lhs; rw [h1]
        rw [Int.mul_add, Int.add_mul]
        congr 1
        · rw [Int.mul_assoc]
        · rw [← Int.mul_assoc, Int.mul_assoc (d * sm)]
      rw [h2, Int.mul_add]
      omega
    rw [e]
    exact Int.dvd_add (Int.dvd_mul_right _ _) ih
theorem dot_sub2 : ∀ (w a b : List Int), w.length = a.length → a.length = b.length → dot w (sub2 a b) = dot w a - dot w b
  | [], _, _, _, _ => by simp [dot]
  | x :: w, a :: as, b :: bs, h1, h2 => by
    show x * (a - b) + dot w (sub2 as bs) = (x * a + dot w as) - (x * b + dot w bs)
    rw [dot_sub2 w as bs (by simpa using h1) (by simpa using h2), Int.mul_sub]
    omega
  | x :: w, [], _, h1, _ => by simp at h1
  | x :: w, a :: as, [], _, h2 => by simp at h2
theorem emod_eq_iff {m a b : Int} : a % m = b % m ↔ m ∣ a - b := by
  rw [Int.emod_eq_emod_iff_emod_sub_eq_zero, Int.dvd_iff_emod_eq_zero]
theorem red_dvd {m : Int} {w x : List Int} (hm : 0 < m) : smallW m w ∣ dot (redW m w) x ↔ m ∣ dot w x := by
  obtain ⟨g1, g2, g3⟩ := gcdW_dvd w m hm
  have hms : m = gcdW m w * smallW m w := by
    unfold smallW
    rw [Int.mul_ediv_cancel' g2]
  have h1 := dot_mod (d := gcdW m w) (sm := smallW m w) (by omega) w x g3
  rw [← hms] at h1
  have e : (w.map fun x => x / gcdW m w % smallW m w) = redW m w := rfl
  rw [e] at h1
  constructor
  · rintro ⟨q, hq⟩
    have h2 : m ∣ gcdW m w * dot (redW m w) x := by
      rw [hq, ← Int.mul_assoc, ← hms]
      exact Int.dvd_mul_right _ _
    have := Int.dvd_add h1 h2
    rw [Int.sub_add_cancel] at this
    exact this
  · intro h
    have h2 := Int.dvd_sub h h1
    rw [show dot w x - (dot w x - gcdW m w * dot (redW m w) x) = gcdW m w * dot (redW m w) x by omega] at h2
    have h3 : gcdW m w * smallW m w ∣ gcdW m w * dot (redW m w) x := by rw [← hms]; exact h2
    exact Int.dvd_of_mul_dvd_mul_left (by omega) h3
/-- what reach answers is a witness: all targets have its residue, the seat has not -/
theorem reach_wit {ss : List Int} {gs : List (List Int)} (z : Sz ss) (hg : gs ≠ []) (hl : ∀ g ∈ gs, g.length = ss.length) {p : List Int} (hp : p.length = ss.length) {c : Nat} (h : reachI ss gs p = some c) :
    Wit ss (smallW (cosetI ss gs) (invC (shiftB ss gs) (cosetI ss gs) c c)) (redW (cosetI ss gs) (invC (shiftB ss gs) (cosetI ss gs) c c)) (dot (redW (cosetI ss gs) (invC (shiftB ss gs) (cosetI ss gs) c c)) (gs.headD []) % smallW (cosetI ss gs) (invC (shiftB ss gs) (cosetI ss gs) c c)) ∧
    (∀ g ∈ gs, dot (redW (cosetI ss gs) (invC (shiftB ss gs) (cosetI ss gs) c c)) g % smallW (cosetI ss gs) (invC (shiftB ss gs) (cosetI ss gs) c c) = dot (redW (cosetI ss gs) (invC (shiftB ss gs) (cosetI ss gs) c c)) (gs.headD []) % smallW (cosetI ss gs) (invC (shiftB ss gs) (cosetI ss gs) c c)) ∧
    dot (redW (cosetI ss gs) (invC (shiftB ss gs) (cosetI ss gs) c c)) p % smallW (cosetI ss gs) (invC (shiftB ss gs) (cosetI ss gs) c c) ≠ dot (redW (cosetI ss gs) (invC (shiftB ss gs) (cosetI ss gs) c c)) (gs.headD []) % smallW (cosetI ss gs) (invC (shiftB ss gs) (cosetI ss gs) c c) := by
  unfold reachI at h
  have hcol := List.find?_some h
  have hc := List.mem_range.mp (List.mem_of_find?_eq_some h)
  unfold colF at hcol
  rw [show pivP (shiftB ss gs) ss.length = cosetI ss gs from rfl] at hcol
  have hcol : ¬ cosetI ss gs ∣ dot (invC (shiftB ss gs) (cosetI ss gs) c c) (sub2 p (gs.headD [])) := by
    rw [Int.dvd_iff_emod_eq_zero]
    simpa using hcol
  have hL := (lat_w z hg hl hc).1
  have hm := coset_pos z hg hl
  have hodd := coset_odd z hg hl
  generalize invC (shiftB ss gs) (cosetI ss gs) c c = w at *
  generalize cosetI ss gs = m at *
  have hs := smallW_pos (ws := w) hm
  have hrl : (redW m w).length = ss.length := by unfold redW; rw [List.length_map]; exact hL.len
  have hg0 := hl _ (headD_mem hg)
  have hx : ∀ x : List Int, x.length = ss.length → (dot (redW m w) x % smallW m w = dot (redW m w) (gs.headD []) % smallW m w ↔ m ∣ dot w (sub2 x (gs.headD []))) := fun x hxl => by
    rw [emod_eq_iff, ← dot_sub2 _ _ _ (by rw [hrl, hxl]) (by rw [hxl, hg0]), red_dvd hm]
  obtain ⟨g1, g2, g3⟩ := gcdW_dvd w m hm
  have hms : m = gcdW m w * smallW m w := by
    unfold smallW
    rw [Int.mul_ediv_cancel' g2]
  have hne : dot (redW m w) p % smallW m w ≠ dot (redW m w) (gs.headD []) % smallW m w := fun e => hcol ((hx p hp).mp e)
  have ho : smallW m w % 2 = 1 := dvd_odd ⟨gcdW m w, by rw [Int.mul_comm]; exact hms⟩ hodd
  have h1 : smallW m w ≠ 1 := fun e => by
    rw [e] at hne
    simp at hne
  refine ⟨⟨hrl, by omega, ho, fun x hx => ?_, fun i x s h1 h2 => ?_, Int.emod_nonneg _ (by omega), Int.emod_lt_of_pos _ hs⟩, fun g hgm => (hx g (hl g hgm)).mpr (hL.dif g hgm), hne⟩
  · unfold redW at hx
    obtain ⟨u, _, rfl⟩ := List.mem_map.mp hx
    exact ⟨Int.emod_nonneg _ (by omega), Int.emod_lt_of_pos _ hs⟩
  · unfold redW at h1
    rw [List.getElem?_map, Option.map_eq_some_iff] at h1
    obtain ⟨u, hu, rfl⟩ := h1
    have hi : i < ss.length := (List.getElem?_eq_some_iff.mp h2).1
    have h3 := hL.odd i hi
    rw [getD_getD, hu, getD_getD, h2, Option.getD_some, Option.getD_some] at h3
    obtain ⟨v, rfl⟩ := g3 u (List.mem_of_getElem? hu)
    have hos := oddI_dvd (z.pos s (List.mem_of_getElem? h2))
    rw [Int.mul_ediv_cancel_left _ (by omega : gcdW m w ≠ 0)]
    have h4 : gcdW m w * smallW m w ∣ gcdW m w * (v * oddI s) := by rw [← hms, ← Int.mul_assoc]; exact h3
    have h5 := Int.dvd_of_mul_dvd_mul_left (by omega : gcdW m w ≠ 0) h4
    have h6 : smallW m w ∣ v * s := Int.dvd_trans h5 (Int.mul_dvd_mul (Int.dvd_refl _) hos)
    have h7 := Int.dvd_iff_emod_eq_zero.mp h6
    rw [Int.mul_emod] at h7
    rw [Int.mul_emod, Int.emod_emod_of_dvd _ (Int.dvd_refl _), h7]

/-! ### more targets, other orders -/
theorem fv_sub {a b : List Int} (h : a.length = b.length) : fv (sub2 a b) = fun i => fv a i - fv b i := fv_zw h (by decide)
/-- from one base to another -/
theorem grp_base {S : (Nat → Int) → Prop} (G : Grp S) {n : Nat} {a b c : List Int} (ha : a.length = n) (hb : b.length = n) (hc : c.length = n) (h1 : S (fv (sub2 a c))) (h2 : S (fv (sub2 b c))) : S (fv (sub2 a b)) := by
  rw [fv_sub (by omega)] at h1 h2 ⊢
  have h3 := G.add _ _ (-1) h1 h2
  have e : (fun i => fv a i - fv c i + -1 * (fv b i - fv c i)) = fun i => fv a i - fv b i := by
    funext i
    omega
  rw [e] at h3
  exact h3
theorem grp_add {S : (Nat → Int) → Prop} (G : Grp S) {n : Nat} {a b c : List Int} (ha : a.length = n) (hb : b.length = n) (hc : c.length = n) (h1 : S (fv (sub2 a b))) (h2 : S (fv (sub2 b c))) : S (fv (sub2 a c)) := by
  rw [fv_sub (by omega)] at h1 h2 ⊢
  have h3 := G.add _ _ 1 h1 h2
  have e : (fun i => fv a i - fv b i + 1 * (fv b i - fv c i)) = fun i => fv a i - fv c i := by
    funext i
    omega
  rw [e] at h3
  exact h3
theorem grp_neg {S : (Nat → Int) → Prop} (G : Grp S) {a b : List Int} (h : a.length = b.length) (h1 : S (fv (sub2 a b))) : S (fv (sub2 b a)) := by
  rw [fv_sub (by omega)] at h1 ⊢
  have h3 := G.add _ _ (-1) G.zero h1
  have e : (fun i => 0 + -1 * (fv a i - fv b i)) = fun i => fv b i - fv a i := by
    funext i
    omega
  rw [e] at h3
  exact h3
section
variable {ss : List Int} {gs hs : List (List Int)} (z : Sz ss) (hg : gs ≠ []) (hl : ∀ g ∈ gs, g.length = ss.length) (hh : hs ≠ []) (hhl : ∀ g ∈ hs, g.length = ss.length)
include z hg hl hh hhl
theorem gen_sub (hsub : ∀ g ∈ gs, g ∈ hs) (S : (Nat → Int) → Prop) (G : Grp S) (h : Gen ss hs S) : Gen ss gs S := by
  refine ⟨h.1, fun g hgm => ?_⟩
  have h0 := headD_mem hg
  exact grp_base G (hl g hgm) (hl _ h0) (hhl _ (headD_mem hh)) (h.2 g (hsub g hgm)) (h.2 _ (hsub _ h0))
theorem free_sub (hsub : ∀ g ∈ gs, g ∈ hs) {p : List Int} (hp : p.length = ss.length) (h : Free ss gs (fv (sub2 p (gs.headD [])))) : Free ss hs (fv (sub2 p (hs.headD []))) := fun S G hgen =>
  grp_add G hp (hl _ (headD_mem hg)) (hhl _ (headD_mem hh)) (h S G (gen_sub z hg hl hh hhl hsub S G hgen)) (hgen.2 _ (hsub _ (headD_mem hg)))
/-- what is reachable stays so with more targets -/
theorem reach_sub (hsub : ∀ g ∈ gs, g ∈ hs) {p : List Int} (hp : p.length = ss.length) (h : reachI ss gs p = none) : reachI ss hs p = none :=
  (reach_free z hh hhl hp).mpr (free_sub z hg hl hh hhl hsub hp ((reach_free z hg hl hp).mp h))
theorem coset_sub (hsub : ∀ g ∈ gs, g ∈ hs) : cosetI ss hs ∣ cosetI ss gs := coset_dvd z hg hl hh hhl (gen_sub z hg hl hh hhl hsub)
/-- as many sets: what is reachable for more targets is so for fewer -/
theorem reach_back (hsub : ∀ g ∈ gs, g ∈ hs) (e : cosetI ss gs = cosetI ss hs) {p : List Int} (hp : p.length = ss.length) (h : reachI ss hs p = none) : reachI ss gs p = none := by
  refine (reach_free z hg hl hp).mpr ?_
  have h1 := (reach_free z hh hhl hp).mp h
  have h0 := headD_mem hg
  have hsl : (sub2 p (gs.headD [])).length = ss.length := by
    unfold sub2
    rw [List.length_zipWith, hp, hl _ h0, Nat.min_self]
  refine coset_same z hg hl hh hhl (gen_sub z hg hl hh hhl hsub) e.symm (fun j hj => fv_out (by omega)) fun S G hgen => ?_
  exact grp_base G hp (hl _ h0) (hhl _ (headD_mem hh)) (h1 S G hgen) (hgen.2 _ (hsub _ h0))
/-- as many sets if and only if what is added is reachable -/
theorem coset_iff {x : List Int} (hx : x.length = ss.length) (hsub : ∀ g ∈ gs, g ∈ hs) (hxm : x ∈ hs) (hor : ∀ h ∈ hs, h ∈ gs ∨ h = x) : cosetI ss gs = cosetI ss hs ↔ reachI ss gs x = none := by
  have h0 := headD_mem hg
  constructor
  · intro e
    exact reach_back z hg hl hh hhl hsub e hx ((reach_free z hh hhl hx).mpr fun S G hgen => hgen.2 x hxm)
  · intro e
    have hf := (reach_free z hg hl hx).mp e
    have d1 := coset_sub z hg hl hh hhl hsub
    have d2 : cosetI ss gs ∣ cosetI ss hs := coset_dvd z hh hhl hg hl fun S G hgen => by
      have hall : ∀ h ∈ hs, S (fv (sub2 h (gs.headD []))) := fun h hm => by
        rcases hor h hm with h1 | rfl
        · exact hgen.2 h h1
        · exact hf S G hgen
      refine ⟨hgen.1, fun h hm => ?_⟩
      exact grp_base G (hhl h hm) (hhl _ (headD_mem hh)) (hl _ h0) (hall h hm) (hall _ (headD_mem hh))
    have p1 := coset_pos z hg hl
    have p2 := coset_pos z hh hhl
    have l1 := Int.le_of_dvd p1 d1
    have l2 := Int.le_of_dvd p2 d2
    omega
end
theorem reach_mem {ss : List Int} {gs : List (List Int)} (z : Sz ss) (hg : gs ≠ []) (hl : ∀ g ∈ gs, g.length = ss.length) {p : List Int} (hp : p ∈ gs) : reachI ss gs p = none :=
  (reach_free z hg hl (hl p hp)).mpr fun S G hgen => hgen.2 p hp
theorem reach_swap {ss p r : List Int} (z : Sz ss) (hp : p.length = ss.length) (hr : r.length = ss.length) (h : reachI ss [p] r = none) : reachI ss [r] p = none := by
  have l1 : ∀ g ∈ [p], g.length = ss.length := fun g hg => by rw [List.mem_singleton.mp hg]; exact hp
  have l2 : ∀ g ∈ [r], g.length = ss.length := fun g hg => by rw [List.mem_singleton.mp hg]; exact hr
  refine (reach_free z (by simp) l2 hp).mpr fun S G hgen => ?_
  have h1 := (reach_free z (by simp) l1 hr).mp h S G ⟨hgen.1, fun g hg => ?_⟩
  · exact grp_neg G (show r.length = p.length by rw [hr, hp]) h1
  · rw [List.mem_singleton.mp hg]
    show S (fv (sub2 p p))
    have e : fv (sub2 p p) = fun _ => 0 := by
      rw [fv_sub rfl]
      funext i
      omega
    rw [e]
    exact G.zero

section
variable {P : Program} {w : World} {K : PySem.W.Frag} {mg : Str → Option Value} {base : Heap}
def wordI (ss : List Int) (gs : List (List Int)) (p : List Int) : Str := match reachI ss gs p with
  | none => "reachable"
  | some _ => "unreachable"
theorem word_at {H : Hp} {D : Addr} {ss : List Int} {gs : List (List Int)} {p : List Int} (h : RchAt H D ss gs p) : ∃ xs, H D = some (.tup (V.str (wordI ss gs p) :: xs)) := by
  unfold wordI
  rcases h with ⟨e, h1⟩ | ⟨c, u, r, e, h1, h2, h3⟩
  · rw [e]; exact ⟨_, h1⟩
  · rw [e]; exact ⟨_, h1⟩
theorem word_dec (ss : List Int) (gs : List (List Int)) (p : List Int) : decide (wordI ss gs p = Str.ofString "reachable") = (reachI ss gs p).isNone := by
  unfold wordI
  cases reachI ss gs p with
  | none => exact decide_eq_true rfl
  | some c =>
    have : ¬ (("unreachable" : Str) = Str.ofString "reachable") := by decide +kernel
    exact decide_eq_false this
end

/-! ### the number of cosets -/
theorem no_inj : ∀ (n : Nat) (f : Nat → Nat), (∀ i, i ≤ n → f i < n) → (∀ i j, i ≤ n → j ≤ n → f i = f j → i = j) → False
  | 0, f, h, _ => by have := h 0 (Nat.le_refl _); omega
  | n + 1, f, h, hi => by
    have hk := h (n + 1) (Nat.le_refl _)
    refine no_inj n (fun i => if f i = n then f (n + 1) else f i) (fun i hin => ?_) (fun i j hin hjn e => ?_)
    · show (if f i = n then f (n + 1) else f i) < n
      split
      · rename_i e
        have : f (n + 1) ≠ n := fun e2 => by
          have := hi i (n + 1) (by omega) (by omega) (by omega)
          omega
        omega
      · have := h i (by omega)
        omega
    · have e' : (if f i = n then f (n + 1) else f i) = (if f j = n then f (n + 1) else f j) := e
      by_cases h1 : f i = n <;> by_cases h2 : f j = n
      · exact hi i j (by omega) (by omega) (by omega)
      · rw [if_pos h1, if_neg h2] at e'
        have := hi (n + 1) j (by omega) (by omega) e'
        omega
      · rw [if_neg h1, if_pos h2] at e'
        have := hi i (n + 1) (by omega) (by omega) e'
        omega
      · rw [if_neg h1, if_neg h2] at e'
        exact hi i j (by omega) (by omega) e'
def dif (u v : Nat → Int) : Nat → Int := fun k => u k + -1 * v k
/-- N vectors that stand for the cosets of F -/
def Idx (n : Nat) (F : (Nat → Int) → Prop) (N : Nat) : Prop := ∃ f : Nat → Nat → Int, (∀ i k, n ≤ k → f i k = 0) ∧ (∀ i j, i < N → j < N → F (dif (f i) (f j)) → i = j) ∧ ∀ v : Nat → Int, (∀ k, n ≤ k → v k = 0) → ∃ i, i < N ∧ F (dif v (f i))
theorem idx_le {n N M : Nat} {F : (Nat → Int) → Prop} (G : Grp F) (h : Idx n F N) (h' : Idx n F M) : N ≤ M := by
  obtain ⟨f, h1, h2, _⟩ := h
  obtain ⟨g, _, _, h3⟩ := h'
  refine Nat.le_of_not_lt fun hlt => ?_
  refine no_inj M (fun i => (h3 (f i) (h1 i)).choose) (fun i _ => (h3 (f i) (h1 i)).choose_spec.1) fun i j hi hj e => ?_
  have a := (h3 (f i) (h1 i)).choose_spec.2
  have b := (h3 (f j) (h1 j)).choose_spec.2
  have e' : (h3 (f i) (h1 i)).choose = (h3 (f j) (h1 j)).choose := e
  rw [← e'] at b
  have c := G.add _ _ (-1) a b
  refine h2 i j (by omega) (by omega) ?_
  have e3 : (fun k => dif (f i) (g (h3 (f i) (h1 i)).choose) k + -1 * dif (f j) (g (h3 (f i) (h1 i)).choose) k) = dif (f i) (f j) := by
    funext k
    unfold dif
    omega
  rw [e3] at c
  exact c
theorem idx_eq {n N M : Nat} {F : (Nat → Int) → Prop} (G : Grp F) (h : Idx n F N) (h' : Idx n F M) : N = M := Nat.le_antisymm (idx_le G h h') (idx_le G h' h)
/-- carried to another table -/
theorem idx_map {n n' N : Nat} {F F' : (Nat → Int) → Prop} (G' : Grp F') (p q : (Nat → Int) → (Nat → Int)) (hp : ∀ u v, p (dif u v) = dif (p u) (p v)) (sp : ∀ v, (∀ k, n ≤ k → v k = 0) → ∀ k, n' ≤ k → p v k = 0) (sq : ∀ v, (∀ k, n' ≤ k → v k = 0) → ∀ k, n ≤ k → q v k = 0)
    (h1 : ∀ v, (∀ k, n ≤ k → v k = 0) → (F v ↔ F' (p v))) (h2 : ∀ v, (∀ k, n' ≤ k → v k = 0) → F' (dif v (p (q v)))) (h : Idx n F N) : Idx n' F' N := by
  obtain ⟨f, a, b, c⟩ := h
  have sd : ∀ u v : Nat → Int, (∀ k, n ≤ k → u k = 0) → (∀ k, n ≤ k → v k = 0) → ∀ k, n ≤ k → dif u v k = 0 := fun u v hu hv k hk => by
    unfold dif
    rw [hu k hk, hv k hk]
    rfl
  refine ⟨fun i => p (f i), fun i k hk => sp _ (a i) k hk, fun i j hi hj e => ?_, fun v hv => ?_⟩
  · refine b i j hi hj ((h1 _ (sd _ _ (a i) (a j))).mpr ?_)
    rw [hp]
    exact e
  · obtain ⟨i, hi, e⟩ := c (q v) (sq v hv)
    refine ⟨i, hi, ?_⟩
    have e2 := (h1 _ (sd _ _ (sq v hv) (a i))).mp e
    rw [hp] at e2
    have e3 := G'.add _ _ 1 (h2 v hv) e2
    have e4 : (fun k => dif v (p (q v)) k + 1 * dif (p (q v)) (p (f i)) k) = dif v (p (f i)) := by
      funext k
      unfold dif
      omega
    rw [e4] at e3
    exact e3
theorem free_grp (ss : List Int) (gs : List (List Int)) : Grp (Free ss gs) := ⟨fun S G _ => G.zero, fun u v c hu hv S G h => G.add u v c (hu S G h) (hv S G h)⟩
theorem coset_idx {ss : List Int} {gs : List (List Int)} (z : Sz ss) (hg : gs ≠ []) (hl : ∀ g ∈ gs, g.length = ss.length) : Idx ss.length (Free ss gs) (cosetI ss gs).toNat := by
  have hR := shift_rows z hg hl
  have hT := shift_tri z hg hl
  have hn : (shiftB ss gs).length = ss.length := by rw [hR.len, odds_len]
  obtain ⟨hspan, _⟩ := shift_grp z hg hl
  have G := free_grp ss gs
  have key : ∀ k, k ≤ ss.length → ∃ f : Nat → Nat → Int, (∀ i j, k ≤ j → f i j = 0) ∧
      (∀ i j, i < (pivP (shiftB ss gs) k).toNat → j < (pivP (shiftB ss gs) k).toNat → (∃ w : Nat → Int, (∀ t, t < k → w t = 0) ∧ Free ss gs fun t => dif (f i) (f j) t + w t) → i = j) ∧
      ∀ v : Nat → Int, (∀ t, ss.length ≤ t → v t = 0) → ∃ i, i < (pivP (shiftB ss gs) k).toNat ∧ ∃ w : Nat → Int, (∀ t, t < k → w t = 0) ∧ (∀ t, ss.length ≤ t → w t = 0) ∧ Free ss gs fun t => dif v (f i) t + -1 * w t := by
    intro k
    induction k with
    | zero =>
      intro _
      refine ⟨fun _ _ => 0, fun _ _ _ => rfl, fun i j hi hj _ => ?_, fun v hv => ⟨0, (show 0 < (1 : Nat) by decide), v, fun t ht => by omega, hv, ?_⟩⟩
      · have : (pivP (shiftB ss gs) 0).toNat = 1 := rfl
        omega
      · have e : (fun t => dif v (fun _ => 0) t + -1 * v t) = fun _ => 0 := by
          funext t
          simp only [dif]
          omega
        show Free ss gs fun t => dif v (fun _ => 0) t + -1 * v t
        rw [e]
        exact G.zero
    | succ k ih =>
      intro hk
      obtain ⟨f, a, b, c⟩ := ih (by omega)
      have hkr : k < (shiftB ss gs).length := by omega
      have hpa := pivA_pos hR hT hkr
      have hpk := pivP_pos hT k (by omega)
      obtain ⟨A, eA⟩ := Int.eq_ofNat_of_zero_le (Int.le_of_lt hpa)
      obtain ⟨Pk, eP⟩ := Int.eq_ofNat_of_zero_le (Int.le_of_lt hpk)
      have hA : 0 < A := by omega
      have ePk : (pivP (shiftB ss gs) k).toNat = Pk := by omega
      have ePs : (pivP (shiftB ss gs) (k + 1)).toNat = Pk * A := by
        rw [pivP_succ, eA, eP, ← Int.natCast_mul]
        exact Int.toNat_natCast _
      have hrow : Free ss gs (fv ((shiftB ss gs).getD k [])) := fun S GS hgen => by
        refine (hspan S GS).mpr hgen _ ?_
        rw [getD_getD, List.getElem?_eq_getElem hkr]
        exact List.getElem_mem hkr
      rw [ePs]
      rw [ePk] at b c
      refine ⟨fun i t => f (i / A) t + eU k ((i % A : Nat) : Int) t, fun i j hj => ?_, fun i j hi hj hw => ?_, fun v hv => ?_⟩
      · show f (i / A) j + eU k _ j = 0
        rw [a _ j (by omega)]
        unfold eU
        rw [if_neg (by omega)]
        rfl
      · obtain ⟨w, w0, wF⟩ := hw
        have hq : i / A = j / A := by
          refine b (i / A) (j / A) (Nat.div_lt_of_lt_mul (by rw [Nat.mul_comm]; exact hi)) (Nat.div_lt_of_lt_mul (by rw [Nat.mul_comm]; exact hj)) ⟨fun t => w t + (eU k ((i % A : Nat) : Int) t + -1 * eU k ((j % A : Nat) : Int) t), fun t ht => ?_, ?_⟩
          · show w t + _ = 0
            rw [w0 t (by omega)]
            unfold eU
            rw [if_neg (by omega), if_neg (by omega)]
            rfl
          · have e : (fun t => dif (f (i / A)) (f (j / A)) t + (w t + (eU k ((i % A : Nat) : Int) t + -1 * eU k ((j % A : Nat) : Int) t))) = fun t => dif (fun t => f (i / A) t + eU k ((i % A : Nat) : Int) t) (fun t => f (j / A) t + eU k ((j % A : Nat) : Int) t) t + w t := by
              funext t
              simp only [dif]
              omega
            rw [e]
            exact wF
        have hd := span_piv hR hT (v := fun t => dif (fun t => f (i / A) t + eU k ((i % A : Nat) : Int) t) (fun t => f (j / A) t + eU k ((j % A : Nat) : Int) t) t + w t) (fun S GS hS => wF S GS ((hspan S GS).mp hS)) hkr (fun t ht => by
          show dif _ _ t + w t = 0
          simp only [dif, eU]
          rw [w0 t (by omega), hq, if_neg (by omega), if_neg (by omega)]
          omega)
        have hd2 : (A : Int) ∣ ((i % A : Nat) : Int) - ((j % A : Nat) : Int) := by
          rw [eA] at hd
          have e : dif (fun t => f (i / A) t + eU k ((i % A : Nat) : Int) t) (fun t => f (j / A) t + eU k ((j % A : Nat) : Int) t) k + w k = ((i % A : Nat) : Int) - ((j % A : Nat) : Int) := by
            simp only [dif, eU]
            rw [w0 k (by omega), hq, if_pos True.intro, if_pos True.intro]
            omega
          have hd' : (A : Int) ∣ dif (fun t => f (i / A) t + eU k ((i % A : Nat) : Int) t) (fun t => f (j / A) t + eU k ((j % A : Nat) : Int) t) k + w k := hd
          rw [e] at hd'
          exact hd'
        have hi2 := Nat.mod_lt i hA
        have hj2 := Nat.mod_lt j hA
        have hm : i % A = j % A := by
          obtain ⟨q, hq'⟩ := hd2
          have : q = 0 := by
            rcases Int.lt_trichotomy q 0 with h | h | h
            · have := Int.mul_le_mul_of_nonneg_left (show q ≤ -1 by omega) (show (0 : Int) ≤ A by omega)
              omega
            · exact h
            · have := Int.mul_le_mul_of_nonneg_left (show 1 ≤ q by omega) (show (0 : Int) ≤ A by omega)
              omega
          rw [this, Int.mul_zero] at hq'
          omega
        rw [← Nat.div_add_mod i A, ← Nat.div_add_mod j A, hq, hm]
      · obtain ⟨i, hi, w, w0, w1, wF⟩ := c v hv
        have hAi : (0 : Int) < A := by omega
        have m0 := Int.emod_nonneg (w k) (show (A : Int) ≠ 0 by omega)
        have m1 := Int.emod_lt_of_pos (w k) hAi
        obtain ⟨d, ed⟩ := Int.eq_ofNat_of_zero_le m0
        have hdA : d < A := by omega
        have edm := Int.emod_add_mul_ediv (w k) A
        have ei : (i * A + d) / A = i := by
          rw [Nat.mul_comm, Nat.mul_add_div hA, Nat.div_eq_of_lt hdA]
          rfl
        have em : (i * A + d) % A = d := by
          rw [Nat.mul_comm, Nat.mul_add_mod, Nat.mod_eq_of_lt hdA]
        refine ⟨i * A + d, ?_, fun t => w t + -1 * (w k / A) * fv ((shiftB ss gs).getD k []) t + -1 * eU k d t, fun t ht => ?_, fun t ht => ?_, ?_⟩
        · have := Nat.mul_le_mul_right A (show i + 1 ≤ Pk by omega)
          rw [Nat.add_mul] at this
          omega
        · show w t + -1 * (w k / A) * fv ((shiftB ss gs).getD k []) t + -1 * eU k d t = 0
          by_cases e : t = k
          · subst e
            have er : fv ((shiftB ss gs).getD t []) t = A := by rw [← pivA_eq hR hkr, eA]
            rw [er]
            unfold eU
            rw [if_pos rfl, Int.mul_assoc, Int.mul_comm (w t / A)]
            omega
          · have er : fv ((shiftB ss gs).getD k []) t = 0 := by
              rw [(row_at hR hkr).1]
              exact (hT k _ (List.getElem?_eq_getElem hkr)).1 t (by omega)
            rw [er, w0 t (by omega)]
            unfold eU
            rw [if_neg e]
            omega
        · show w t + -1 * (w k / A) * fv ((shiftB ss gs).getD k []) t + -1 * eU k d t = 0
          have er : fv ((shiftB ss gs).getD k []) t = 0 := by
            rw [(row_at hR hkr).1]
            exact fv_out (by rw [(row_at hR hkr).2.1, odds_len]; exact ht)
          rw [er, w1 t ht]
          unfold eU
          rw [if_neg (by omega)]
          omega
        · show Free ss gs fun t => dif v (fun t => f ((i * A + d) / A) t + eU k (((i * A + d) % A : Nat) : Int) t) t + -1 * (w t + -1 * (w k / A) * fv ((shiftB ss gs).getD k []) t + -1 * eU k d t)
          rw [ei, em]
          have h5 := G.add _ _ (w k / A) wF hrow
          have e : (fun t => dif v (f i) t + -1 * w t + w k / A * fv ((shiftB ss gs).getD k []) t) = fun t => dif v (fun t => f i t + eU k (d : Int) t) t + -1 * (w t + -1 * (w k / A) * fv ((shiftB ss gs).getD k []) t + -1 * eU k d t) := by
            funext t
            simp only [dif]
            rw [Int.neg_one_mul (w k / A), Int.neg_mul (w k / A)]
            omega
          rw [e] at h5
          exact h5
  obtain ⟨f, a, b, c⟩ := key ss.length (Nat.le_refl _)
  refine ⟨f, a, fun i j hi hj e => b i j hi hj ⟨fun _ => 0, fun _ _ => rfl, ?_⟩, fun v hv => ?_⟩
  · have e2 : (fun t => dif (f i) (f j) t + 0) = dif (f i) (f j) := by
      funext t
      omega
    rw [e2]
    exact e
  · obtain ⟨i, hi, w, w0, w1, wF⟩ := c v hv
    refine ⟨i, hi, ?_⟩
    have e2 : (fun t => dif v (f i) t + -1 * w t) = dif v (f i) := by
      funext t
      have : w t = 0 := by
        by_cases h : t < ss.length
        · exact w0 t h
        · exact w1 t (by omega)
      rw [this]
      omega
    rw [e2] at wF
    exact wF

/-! ### tables carried to others -/
structure Tr (ss : List Int) (gs : List (List Int)) (ss' : List Int) (gs' : List (List Int)) (p q : (Nat → Int) → (Nat → Int)) : Prop where
  pl : ∀ (u v : Nat → Int) (c : Int), p (fun i => u i + c * v i) = fun i => p u i + c * p v i
  ql : ∀ (u v : Nat → Int) (c : Int), q (fun i => u i + c * v i) = fun i => q u i + c * q v i
  ps : ∀ v : Nat → Int, (∀ k, ss.length ≤ k → v k = 0) → ∀ k, ss'.length ≤ k → p v k = 0
  qs : ∀ v : Nat → Int, (∀ k, ss'.length ≤ k → v k = 0) → ∀ k, ss.length ≤ k → q v k = 0
  fw : ∀ S : (Nat → Int) → Prop, Grp S → Gen ss' gs' S → Gen ss gs fun v => S (p v)
  bw : ∀ S : (Nat → Int) → Prop, Grp S → Gen ss gs S → Gen ss' gs' fun v => S (q v)
  l : ∀ v : Nat → Int, (∀ k, ss.length ≤ k → v k = 0) → Free ss gs (dif v (q (p v)))
  r : ∀ v : Nat → Int, (∀ k, ss'.length ≤ k → v k = 0) → Free ss' gs' (dif v (p (q v)))
theorem lin_zero {p : (Nat → Int) → (Nat → Int)} (h : ∀ (u v : Nat → Int) (c : Int), p (fun i => u i + c * v i) = fun i => p u i + c * p v i) : p (fun _ => 0) = fun _ => 0 := by
  have h1 := h (fun _ => 0) (fun _ => 0) (-1)
  have e : (fun i : Nat => (fun _ : Nat => (0 : Int)) i + -1 * (fun _ : Nat => (0 : Int)) i) = fun _ => 0 := by funext i; rfl
  rw [e] at h1
  funext i
  have := congrFun h1 i
  simp only [] at this
  omega
theorem lin_grp {p : (Nat → Int) → (Nat → Int)} (h : ∀ (u v : Nat → Int) (c : Int), p (fun i => u i + c * v i) = fun i => p u i + c * p v i) {S : (Nat → Int) → Prop} (G : Grp S) : Grp fun v => S (p v) :=
  ⟨by rw [lin_zero h]; exact G.zero, fun u v c hu hv => by rw [h]; exact G.add _ _ c hu hv⟩
theorem lin_dif {p : (Nat → Int) → (Nat → Int)} (h : ∀ (u v : Nat → Int) (c : Int), p (fun i => u i + c * v i) = fun i => p u i + c * p v i) (u v : Nat → Int) : p (dif u v) = dif (p u) (p v) := h u v (-1)
section
variable {ss ss' : List Int} {gs gs' : List (List Int)} {p q : (Nat → Int) → (Nat → Int)} (h : Tr ss gs ss' gs' p q)
include h
theorem Tr.free {v : Nat → Int} (hv : ∀ k, ss.length ≤ k → v k = 0) : Free ss gs v ↔ Free ss' gs' (p v) := by
  constructor
  · intro a S G hg
    exact a _ (lin_grp h.pl G) (h.fw S G hg)
  · intro a S G hg
    have b := a _ (lin_grp h.ql G) (h.bw S G hg)
    have c := G.add _ _ 1 (h.l v hv S G hg) b
    have e : (fun i => dif v (q (p v)) i + 1 * q (p v) i) = v := by
      funext i
      simp only [dif]
      omega
    rw [e] at c
    exact c
variable (z : Sz ss) (hg : gs ≠ []) (hl : ∀ g ∈ gs, g.length = ss.length) (z' : Sz ss') (hg' : gs' ≠ []) (hl' : ∀ g ∈ gs', g.length = ss'.length)
include z hg hl z' hg' hl'
theorem Tr.coset : cosetI ss' gs' = cosetI ss gs := by
  have h1 := coset_idx z hg hl
  have h2 := coset_idx z' hg' hl'
  have h3 := idx_map (free_grp ss' gs') p q (lin_dif h.pl) h.ps h.qs (fun v hv => h.free hv) h.r h1
  have h4 := idx_eq (free_grp ss' gs') h2 h3
  have c1 := coset_pos z hg hl
  have c2 := coset_pos z' hg' hl'
  omega
theorem Tr.word {x x' : List Int} (hx : x.length = ss.length) (hx' : x'.length = ss'.length) (he : Free ss' gs' (dif (fv (sub2 x' (gs'.headD []))) (p (fv (sub2 x (gs.headD [])))))) : wordI ss' gs' x' = wordI ss gs x := by
  have hsl : ∀ {ss : List Int} {gs : List (List Int)} {x : List Int}, gs ≠ [] → (∀ g ∈ gs, g.length = ss.length) → x.length = ss.length → ∀ k, ss.length ≤ k → fv (sub2 x (gs.headD [])) k = 0 := fun {ss gs x} a b c k hk => fv_out (by
    unfold sub2
    rw [List.length_zipWith, c, b _ (headD_mem a), Nat.min_self]
    exact hk)
  have key : reachI ss' gs' x' = none ↔ reachI ss gs x = none := by
    rw [reach_free z hg hl hx, reach_free z' hg' hl' hx', h.free (hsl hg hl hx)]
    constructor
    · intro a S G hgen
      have b := G.add _ _ (-1) (a S G hgen) (he S G hgen)
      have e : (fun i => fv (sub2 x' (gs'.headD [])) i + -1 * dif (fv (sub2 x' (gs'.headD []))) (p (fv (sub2 x (gs.headD [])))) i) = p (fv (sub2 x (gs.headD []))) := by
        funext i
        simp only [dif]
        omega
      rw [e] at b
      exact b
    · intro a S G hgen
      have b := G.add _ _ 1 (a S G hgen) (he S G hgen)
      have e : (fun i => p (fv (sub2 x (gs.headD []))) i + 1 * dif (fv (sub2 x' (gs'.headD []))) (p (fv (sub2 x (gs.headD [])))) i) = fv (sub2 x' (gs'.headD [])) := by
        funext i
        simp only [dif]
        omega
      rw [e] at b
      exact b
  unfold wordI
  cases e1 : reachI ss' gs' x' with
  | none => rw [key.mp e1]
  | some c =>
    cases e2 : reachI ss gs x with
    | none => rw [key.mpr e2] at e1; cases e1
    | some d => rfl
end

/-! ### witnesses in the program -/
section
variable {P : Program} {w : World} {K : PySem.W.Frag} {mg : Str → Option Value} {base : Heap}
/-- a witness at sh -/
def ShAt (H : Hp) (sh : Addr) (m : Int) (ws : List Int) (r : Int) : Prop := ∃ u, H sh = some (.tup [.int m, .ref u, .int r]) ∧ H u = some (.tup (ws.map V.int))
theorem ShAt.same {H H' : Hp} {sh : Addr} {m : Int} {ws : List Int} {r : Int} (e : Same H H') (h : ShAt H sh m ws r) : ShAt H' sh m ws r := by
  obtain ⟨u, h1, h2⟩ := h
  exact ⟨u, e _ _ h1, e _ _ h2⟩
theorem mul_seat {ss ws ps : List Int} {m r : Int} (hw : Wit ss m ws r) (z : Sz ss) (hmb : m.natAbs < 2 ^ 8000) (h : Seat ss ps) : ∀ (i : Nat) x y, ws[i]? = some x → ps[i]? = some y → CMulA x y := fun i x y hx hy => by
  have h1 := hw.rng _ (List.mem_of_getElem? hx)
  have hi : i < ss.length := by rw [← hw.len]; exact (List.getElem?_eq_some_iff.mp hx).1
  have h2 := h.ok i y _ hy (List.getElem?_eq_getElem hi)
  have h3 := z.bits _ (List.getElem_mem hi)
  exact .inr (.inr (wide_mul (a := 8000) (b := 1000) (by omega) (by omega) (by decide) (by decide) (by decide)))
theorem Seat.b4 {K : PySem.W.Frag} {H : Hp} {ss ps : List Int} {p : Addr} (h : Seat ss ps) (z : ss.length ≤ 4) (hp : H p = some (.tup (ps.map V.int))) : SeatB K H ss (.ref p) true := by
  refine .inr ⟨p, _, rfl, hp, .inr ⟨by rw [List.length_map]; exact h.len, ?_, List.replicate ps.length true, by simp, by simp, fun i x s c hx hs hc => ?_⟩⟩
  · have hl := h.len
    rw [List.length_map]
    exact Nat.le_trans (by omega : ps.length ≤ 4) (by decide)
  · simp only [List.getElem?_map, Option.map_eq_some_iff] at hx
    obtain ⟨n, hn, rfl⟩ := hx
    have hi : i < ps.length := (List.getElem?_eq_some_iff.mp hn).1
    rw [List.getElem?_replicate, if_pos hi] at hc
    obtain ⟨h1, h2⟩ := h.ok i n s hn hs
    refine .inr ⟨n, rfl, ?_⟩
    rw [decide_eq_true h1, decide_eq_true h2]
    exact (Option.some.inj hc).symm
theorem Wit.seat {ss ws : List Int} {m r : Int} (hw : Wit ss m ws r) : Seat (List.replicate ss.length m) ws := by
  refine ⟨by rw [hw.len]; simp, fun i p s hp hs => ?_⟩
  rw [List.getElem?_replicate] at hs
  split at hs
  · obtain rfl := Option.some.inj hs
    exact hw.rng _ (List.mem_of_getElem? hp)
  · cases hs
def sp_is_modulus (K : PySem.W.Frag) : Sp := fun vs H Q _ => ∃ m : Int, vs = [.int m] ∧ 3 ≤ m ∧ m % 2 = 1 ∧ Q (.bl true) H
theorem flatm (m : Int) (k : Nat) : (List.replicate k [V.int m]).flatten = (List.replicate k m).map V.int := by
  induction k with
  | zero => rfl
  | succ k ih => rw [List.replicate_succ, List.flatten_cons, ih, List.replicate_succ]; rfl
def sp_are_weights (K : PySem.W.Frag) : Sp := fun vs H Q _ => ∃ (kz : Bool) (z u : Addr) (ss ws : List Int) (m r : Int), vs = [.ref z, .int m, .ref u] ∧ Sqh kz H z (ss.map V.int) ∧ H u = some (.tup (ws.map V.int)) ∧ Wit ss m ws r ∧ Sz ss ∧ m.natAbs < 2 ^ 8000 ∧ ∀ H', Same H H' → Q (.bl true) H'
def sp_is_witness (K : PySem.W.Frag) : Sp := fun vs H Q _ => ∃ (kz : Bool) (z sh : Addr) (ss ws : List Int) (m r : Int), vs = [.ref z, .ref sh] ∧ Sqh kz H z (ss.map V.int) ∧ ShAt H sh m ws r ∧ Wit ss m ws r ∧ Sz ss ∧ m.natAbs < 2 ^ 8000 ∧ ∀ H', Same H H' → Q (.bl true) H'
def sp_require_witness (K : PySem.W.Frag) : Sp := fun vs H Q _ => ∃ (kz : Bool) (z sh : Addr) (ss ws : List Int) (m r : Int), vs = [.ref z, .ref sh] ∧ Sqh kz H z (ss.map V.int) ∧ ShAt H sh m ws r ∧ Wit ss m ws r ∧ Sz ss ∧ m.natAbs < 2 ^ 8000 ∧ ∀ H', Same H H' → Q .non H'
def sp_has_residue (K : PySem.W.Frag) : Sp := fun vs H Q _ => ∃ (sh p : Addr) (ps ws : List Int) (m r : Int), vs = [.ref sh, .ref p] ∧ ShAt H sh m ws r ∧ H p = some (.tup (ps.map V.int)) ∧ ws.length = ps.length ∧ ws.length ≤ 64 ∧ 0 < m ∧ (∀ (i : Nat) x y, ws[i]? = some x → ps[i]? = some y → CMulA x y) ∧
  ∀ H', Same H H' → Q (.bl (decide (dot ws ps % m = r))) H'
def sp_check_witness (K : PySem.W.Frag) (C : Addr) : Sp := fun vs H Q _ => ∃ (k : Bool) (a tg p sh : Addr) (ss : List Int) (gs : List (List Int)) (ps ws : List Int) (m r : Int), vs = [.ref a, .ref tg, .ref p, .ref sh] ∧ TabAt C H a ss ∧ TgtAt k H tg gs ∧ Tgts ss gs ∧ Sz ss ∧ H p = some (.tup (ps.map V.int)) ∧ Seat ss ps ∧ ShAt H sh m ws r ∧ Wit ss m ws r ∧ m.natAbs < 2 ^ 8000 ∧
  (∀ g ∈ gs, dot ws g % m = r) ∧ dot ws ps % m ≠ r ∧ ∀ H', Same H H' → Q .non H'
def MCW0 (a tg p sh : Addr) (ss : List Int) (H : Hp) (σ : L2.St) (H' : Hp) : Prop := ∃ t, σ = [some (V.ref a), some (V.ref tg), some (V.ref p), some (V.ref sh), some (V.ref t), none, none] ∧ H' = H ∧ H' t = some (.tup (ss.map V.int))
def MCW1 (a tg p sh t : Addr) (H : Hp) (σ : L2.St) (H' : Hp) : Prop := ∃ v5 v6, σ = [some (V.ref a), some (V.ref tg), some (V.ref p), some (V.ref sh), some (V.ref t), v5, v6] ∧ Same H H'
end

/-! ### the law's gcd, odd part, values, witnesses -/
section
variable {P : Program} {w : World} {K : PySem.W.Frag} {mg : Str → Option Value} {base : Heap}
theorem fmod_abs (a : Int) {b : Int} (h : b ≠ 0) : (a.fmod b).natAbs < b.natAbs := by
  rw [Int.fmod_eq_emod]
  have h1 := Int.emod_nonneg a h
  have h2 := Int.emod_lt a h
  by_cases hp : 0 ≤ b
  · rw [if_pos (.inl hp)]; omega
  · by_cases hd : b ∣ a
    · rw [if_pos (.inr hd)]; omega
    · rw [if_neg (by rintro (h | h); exact hp h; exact hd h)]
      have : a % b ≠ 0 := fun e => hd (Int.dvd_of_emod_eq_zero e)
      omega
theorem fmod_gcd (a : Int) {b : Int} : Nat.gcd b.natAbs (a.fmod b).natAbs = Nat.gcd a.natAbs b.natAbs := by
  have e : a.fmod b = a - b * a.fdiv b := Int.fmod_def a b
  apply Nat.dvd_antisymm
  · refine Nat.dvd_gcd ?_ (Nat.gcd_dvd_left _ _)
    have h1 : ((Nat.gcd b.natAbs (a.fmod b).natAbs : Nat) : Int) ∣ b := cd_of (Nat.gcd_dvd_left _ _)
    have h2 : ((Nat.gcd b.natAbs (a.fmod b).natAbs : Nat) : Int) ∣ a.fmod b := cd_of (Nat.gcd_dvd_right _ _)
    have h3 := Int.dvd_add h2 (Int.dvd_mul_of_dvd_left (c := a.fdiv b) h1)
    have e2 : a.fmod b + b * a.fdiv b = a := by rw [e]; omega
    rw [e2] at h3
    exact cd_to h3
  · refine Nat.dvd_gcd (Nat.gcd_dvd_right _ _) ?_
    have h1 : ((Nat.gcd a.natAbs b.natAbs : Nat) : Int) ∣ b := cd_of (Nat.gcd_dvd_right _ _)
    have h2 : ((Nat.gcd a.natAbs b.natAbs : Nat) : Int) ∣ a := cd_of (Nat.gcd_dvd_left _ _)
    have h3 := Int.dvd_sub h2 (Int.dvd_mul_of_dvd_left (c := a.fdiv b) h1)
    rw [← e] at h3
    exact cd_to h3
def sp_law_gcd (K : PySem.W.Frag) : Sp := fun vs H Q _ => ∃ a b : Int, vs = [.int a, .int b] ∧ Q (.int ((Nat.gcd a.natAbs b.natAbs : Nat) : Int)) H
theorem ok_law_gcd (T : Tx K mg) : FnOk P w K mg base CX0 1 T.f_law_gcd T.fd_law_gcd ["_law_first", "_law_second"] (sp_law_gcd K) := by
  refine T.F_law_gcd.ok sc_law_gcd (fun vs H Q E h => ?_) (fun cdv A outer s H vs Q E hr h => ?_)
  · obtain ⟨a, b, rfl, _⟩ := h; rfl
  · obtain ⟨a, b, rfl, q⟩ := h
    refine ⟨_, (pss_cons (ps_while PassesOwn.never (pt_cmpR op_ne (pv 1) pe_int (nomark _)) (pss_one (ps_par (i := 0) (j := 1) (by rfl) sc_law_gcd.nd rfl rfl (by decide) rfl rfl (pa_cons (pv 1) (pa_cons (pe_op op_modN (pv 0) (pv 1)) pa_nil)) (by rfl))))
      (pss_one (ps_ret (pe_callB call_abs (by rfl) T.n_abs (by decide +kernel) (pa_cons (pv 0) pa_nil))))), ?_⟩
    refine while_by (fun σ H' => H' = H ∧ ∃ c d : Int, σ = [some (V.int c), some (V.int d)] ∧ Nat.gcd c.natAbs d.natAbs = Nat.gcd a.natAbs b.natAbs) (fun σ _ => match σ with | [_, some (V.int d)] => d.natAbs | _ => 0) ⟨rfl, a, b, rfl, rfl⟩ ?_ ?_
    · rintro σ H1 ⟨rfl, c, d, rfl, hg⟩
      walk_at "rd"
      by_cases h0 : d = 0
      · rw [if_neg (by simpa using h0)]
        subst h0
        rw [Int.natAbs_zero, Nat.gcd_zero_right] at hg
        rw [← hg] at q
        have e : (if c < 0 then -c else c) = ((c.natAbs : Nat) : Int) := by split <;> omega
        rw [e]
        exact q
      · rw [if_pos h0]
        have h1 := fmod_abs c h0
        exact ⟨h0, by rw [fmod_gcd, hg], h1⟩
    · intro σ H1 Q1 Q2 h hq
      obtain ⟨b1, e, e2, k, e3, hq⟩ := hq
      exact ⟨b1, e, e2, k, e3, h _ _ hq⟩
theorem oddI_even {n : Int} (h : 1 ≤ n) (e : n % 2 = 0) : oddI (n / 2) = oddI n := by
  obtain ⟨m, rfl⟩ := Int.eq_ofNat_of_zero_le (by omega : 0 ≤ n)
  obtain ⟨q, hq⟩ : ∃ q, m = 2 * q := ⟨m / 2, by omega⟩
  unfold oddI
  have e1 : ((m : Int) / 2).toNat = q := by omega
  rw [e1, Int.toNat_natCast, hq, odd_even (by omega)]
theorem oddI_odd {n : Int} (h : 1 ≤ n) (e : n % 2 = 1) : oddI n = n := by
  obtain ⟨m, rfl⟩ := Int.eq_ofNat_of_zero_le (by omega : 0 ≤ n)
  obtain ⟨q, hq⟩ : ∃ q, m = 2 * q + 1 := ⟨m / 2, by omega⟩
  unfold oddI
  rw [Int.toNat_natCast, hq, odd_odd]
def sp_law_odd_part (K : PySem.W.Frag) : Sp := fun vs H Q _ => ∃ n : Int, vs = [.int n] ∧ 1 ≤ n ∧ Q (.int (oddI n)) H
def sp_law_value (K : PySem.W.Frag) : Sp := fun vs H Q _ => ∃ (sh o : Addr) (m r : Int) (ws ps : List Int), vs = [.ref sh, .ref o] ∧ ShAt H sh m ws r ∧ H o = some (.tup (ps.map V.int)) ∧ ws.length = ps.length ∧ ws.length ≤ 64 ∧ 0 < m ∧
  (∀ (i : Nat) x y, ws[i]? = some x → ps[i]? = some y → CMulA x y) ∧ ∀ H', Same H H' → Q (.int (dot ws ps % m)) H'
def MB1 (l sh : Addr) (H : Hp) (σ : L2.St) (H' : Hp) : Prop := σ = [some (V.ref l), some (V.ref sh), none, none, none, none] ∧ Same H H'
def MB2 (l sh : Addr) (xs : List Int) (H : Hp) (σ : L2.St) (H' : Hp) : Prop := ∃ pl, σ = [some (V.ref l), some (V.ref sh), some (V.ref pl), none, none, none] ∧ Same H H' ∧ H' pl = some (.lst (xs.map V.int))
def MB3 (l sh pl : Addr) (H : Hp) (σ : L2.St) (H' : Hp) : Prop := σ = [some (V.ref l), some (V.ref sh), some (V.ref pl), none, none, none] ∧ Same H H'
theorem cut_front (xs : List V) (n : Nat) : cutV xs none (some (n : Int)) = xs.take n := by
  unfold cutV
  rw [HT.sIx_none, HT.sIx_nat]
  show (xs.drop 0).take (min n xs.length - 0) = xs.take n
  rw [List.drop_zero, Nat.sub_zero]
  by_cases h : n ≤ xs.length
  · rw [Nat.min_eq_left h]
  · rw [Nat.min_eq_right (by omega), List.take_length, List.take_of_length_le (by omega)]
theorem cut_tail (x : V) (xs : List V) : cutV (x :: xs) (some 1) none = xs := by
  unfold cutV
  rw [show (1 : Int) = ((1 : Nat) : Int) by rfl, HT.sIx_nat, HT.sIx_none]
  simp
/-- a comprehension whose test fails everywhere -/
theorem lcr_none {J : It} {n : Nat} {G : Hp → Prop} {Y : Nat → Hp → V → Hp → Prop} (w : Walk J n G Y) {g : TG} {tt : TT} {te : TE} {vs : List Nat} {σ : L2.St} {H1 : Hp} {Q : VK} (hn : n < sizeLine) (hG : ∀ H, Same H1 H → G H)
    (hY : ∀ i x H H', Y i H x H' → Same H H')
    (hs : ∀ i x H H' (Qn : Hp → Prop) (Qy : VK), i < n → Same H1 H → Y i H x H' → (∀ H4, Same H' H4 → Qn H4) → g x (wipe σ vs) H' fun σ2 H2 => wipe σ2 vs = wipe σ vs ∧ tt σ2 H2 fun b H3 => if b = true then te σ2 H3 Qy else Qn H3)
    (hd : ∀ D H, Same H1 H → H1 D = none → H D = some (.lst []) → Q (.ref D) H) : LcR J g tt te vs σ H1 Q :=
  lcr_if w (fun D i acc H => Same H1 H ∧ acc = []) hn (fun D hD => ⟨Same.new hD, rfl⟩) (fun D i acc H hD hi h e => hG H h.1) (fun D i acc H l hD h hne => ⟨fun b o e => by rw [upd_ne (ne_some e hD)]; exact h.1 b o e, h.2⟩)
    (fun D i acc x H H' Qn Qy hD hi h e hy hn hq => hs i x H H' Qn Qy hi h.1 hy fun H4 s4 => hn H4 (by
      have := (hY _ _ _ _ hy).trans s4
      exact this _ _ e) ⟨h.1.trans ((hY _ _ _ _ hy).trans s4), h.2⟩) fun D acc H hD _ h e => hd D H h.1 hD (by rw [h.2] at e; exact e)
def sp_law_is_witness (K : PySem.W.Frag) : Sp := fun vs H Q _ => ∃ (kl : Bool) (l sh : Addr) (ss ws : List Int) (m r : Int), vs = [.ref l, .ref sh] ∧ Sqh kl H l (ss.map V.int) ∧ ShAt H sh m ws r ∧ Wit ss m ws r ∧ Sz ss ∧ m.natAbs < 2 ^ 8000 ∧ ∀ H', Same H H' → Q (.bl true) H'
def sp_law_due (K : PySem.W.Frag) : Sp := fun vs H Q _ => ∃ (kl k : Bool) (l tg o sh : Addr) (ss ws ps : List Int) (gs : List (List Int)) (m r : Int), vs = [.ref l, .ref tg, .ref o, .ref sh] ∧ Sqh kl H l (ss.map V.int) ∧ TgtAt k H tg gs ∧ H o = some (.tup (ps.map V.int)) ∧ ShAt H sh m ws r ∧ Wit ss m ws r ∧ Sz ss ∧ m.natAbs < 2 ^ 8000 ∧ Seat ss ps ∧ (∀ g ∈ gs, Seat ss g) ∧
  (∀ g ∈ gs, dot ws g % m = r) ∧ dot ws ps % m ≠ r ∧ ∀ H', Same H H' → Q .non H'
theorem flat_ints : ∀ ts : List Int, (ts.map V.int).all flatV = true
  | [] => rfl
  | t :: ts => by
    rw [List.map_cons, List.all_cons, flat_ints ts]
    rfl
theorem inV_ints (n : Int) : ∀ ts : List Int, inV (V.int n) (ts.map V.int) = decide (n ∈ ts)
  | [] => rfl
  | t :: ts => by
    have ih := inV_ints n ts
    unfold inV at ih ⊢
    rw [List.map_cons, List.any_cons, ih]
    show ((t == n) || decide (n ∈ ts)) = _
    by_cases h : t = n
    · subst h; simp
    · have : ¬ n = t := fun e => h e.symm
      simp [h, this]
/-! what reach answers, held against ('reachable',) -/
def foundD (ss : List Int) (gs : List (List Int)) (p : List Int) : PyData := match reachI ss gs p with
  | none => .tuple [.str "reachable"]
  | some c => .tuple [.str "unreachable", .tuple [.int (smallW (cosetI ss gs) (invC (shiftB ss gs) (cosetI ss gs) c c)), tupI (redW (cosetI ss gs) (invC (shiftB ss gs) (cosetI ss gs) c c)), .int (dot (redW (cosetI ss gs) (invC (shiftB ss gs) (cosetI ss gs) c c)) (gs.headD []) % smallW (cosetI ss gs) (invC (shiftB ss gs) (cosetI ss gs) c c))]]
theorem found_dp {H : Hp} {D : Addr} {ss : List Int} {gs : List (List Int)} {p : List Int} (h : RchAt H D ss gs p) : Dp K H (.ref D) (foundD ss gs p) := by
  unfold foundD
  rcases h with ⟨e, h1⟩ | ⟨c, u, r, e, h1, h2, h3⟩
  · rw [e]
    exact .tup (.inl (.inl h1)) (.cons (.str _) .nil)
  · rw [e]
    exact .tup (.inl (.inl h1)) (.cons (.str _) (.cons (.tup (.inl (.inl h2)) (.cons (.int _) (.cons (dp_tupI (.inl (.inl h3))) (.cons (.int _) .nil)))) .nil))
theorem word_shaped : SeqAt.shaped (.tuple [.str "reachable"]) = true := by decide +kernel
theorem word_eqv : PyData.eqv (.tuple [.str "reachable"]) (.tuple [.str "reachable"]) = true := by decide +kernel
theorem found_shaped (ss : List Int) (gs : List (List Int)) (p : List Int) : SeqAt.shaped (foundD ss gs p) = true := by
  unfold foundD
  cases reachI ss gs p with
  | none => exact word_shaped
  | some c =>
    have key : ∀ (m : Int) (ws : List Int) (r : Int), SeqAt.shaped (.tuple [.str "unreachable", .tuple [.int m, tupI ws, .int r]]) = true := fun m ws r => by
      have h1 : PyData.canLay0 (.tuple [.str "unreachable", .tuple [.int m, tupI ws, .int r]]) = true := by
        show (PyData.canLay0 (.str "unreachable") && ((true && (PyData.canLayAll0 (ws.map PyData.int) && (true && true))) && true)) = true
        rw [canLay_ints, show PyData.canLay0 (.str "unreachable") = true by decide +kernel]
        rfl
      have h2 : PyData.depth (.tuple [.str "unreachable", .tuple [.int m, tupI ws, .int r]]) ≤ 64 := by
        show max 0 (max (max 0 (max (PyData.depth (tupI ws)) (max 0 0)) + 1) 0) + 1 ≤ 64
        rw [depth_tupI]
        decide
      unfold SeqAt.shaped
      rw [h1, decide_eq_true h2]
      rfl
    exact key _ _ _
theorem found_eqv (ss : List Int) (gs : List (List Int)) (p : List Int) : PyData.eqv (foundD ss gs p) (.tuple [.str "reachable"]) = (reachI ss gs p).isNone := by
  unfold foundD
  cases reachI ss gs p with
  | none => exact word_eqv
  | some c =>
    have key : ∀ d : PyData, PyData.eqv (.tuple [.str "unreachable", d]) (.tuple [.str "reachable"]) = false := fun d => by
      show (PyData.eqv (.str "unreachable") (.str "reachable") && PyData.eqvAll [d] []) = false
      rw [show PyData.eqv (.str "unreachable") (.str "reachable") = false by decide +kernel]
      rfl
    exact key _
theorem found_eq {H : Hp} {D w : Addr} {ss : List Int} {gs : List (List Int)} {p : List Int} {Q : VK} (h : RchAt H D ss gs p) (hw : H w = some (.tup [.str "reachable"])) (q : Q (.bl (reachI ss gs p).isNone) H) : rEqD K (.ref D) (.ref w) H Q :=
  ⟨_, _, found_dp h, .tup (.inl (.inl hw)) (.cons (.str _) .nil), found_shaped _ _ _, word_shaped, by rw [found_eqv]; exact q⟩
theorem found_ne {H : Hp} {D w : Addr} {ss : List Int} {gs : List (List Int)} {p : List Int} {Q : VK} (h : RchAt H D ss gs p) (hw : H w = some (.tup [.str "reachable"])) (q : Q (.bl (!(reachI ss gs p).isNone)) H) : rNeD K (.ref D) (.ref w) H Q :=
  ⟨_, _, found_dp h, .tup (.inl (.inl hw)) (.cons (.str _) .nil), found_shaped _ _ _, word_shaped, by rw [found_eqv]; exact q⟩
theorem RchAt.same {H H' : Hp} {D : Addr} {ss : List Int} {gs : List (List Int)} {p : List Int} (s : Same H H') (h : RchAt H D ss gs p) : RchAt H' D ss gs p := by
  rcases h with ⟨e, h1⟩ | ⟨c, u, r, e, h1, h2, h3⟩
  · exact .inl ⟨e, s _ _ h1⟩
  · exact .inr ⟨c, u, r, e, s _ _ h1, s _ _ h2, s _ _ h3⟩
end

/-! ### the law's draws -/
section
variable {P : Program} {w : World} {K : PySem.W.Frag} {mg : Str → Option Value} {base : Heap}
def Src (H : Hp) (a : Addr) : Prop := ∃ s c d : Int, H a = some (.lst [.int s, .int c, .int d])
theorem Src.same {H H' : Hp} {a : Addr} (e : Same H H') (h : Src H a) : Src H' a := by
  obtain ⟨s, c, d, h⟩ := h
  exact ⟨s, c, d, e _ _ h⟩
theorem Src.ne {H : Hp} {a p : Addr} (h : Src H a) (hp : H p = none) : p ≠ a := fun e => by
  obtain ⟨s, c, d, h⟩ := h
  rw [e, h] at hp
  cases hp
theorem upd_none_of {H : Hp} {p q : Addr} {o : HO} (h : upd H p o q = none) : H q = none ∧ q ≠ p := by
  unfold upd at h
  by_cases e : q = p
  · rw [if_pos e] at h; cases h
  · rw [if_neg e] at h; exact ⟨h, e⟩
theorem Src.put {H : Hp} {a p : Addr} {o : HO} (h : Src H a) (n : a ≠ p) : Src (upd H p o) a := by
  obtain ⟨s, c, d, h⟩ := h
  exact ⟨s, c, d, by rw [upd_ne n]; exact h⟩
def sp_law_mixed (K : PySem.W.Frag) : Sp := fun vs H Q _ => ∃ c d : Int, vs = [.int c, .int d] ∧ ∀ r : Int, Q (.int r) H
theorem ok_law_mixed (T : Tx K mg) : FnOk P w K mg base CX0 1 T.f_law_mixed T.fd_law_mixed ["_law_cell", "_law_draw"] (sp_law_mixed K) := by
  refine T.F_law_mixed.ok sc_law_mixed (fun vs H Q E h => ?_) (fun cdv A outer s H vs Q E hr h => ?_)
  · obtain ⟨c, d, rfl, _⟩ := h; rfl
  · obtain ⟨c, d, rfl, q⟩ := h
    refine ⟨_, (pss_cons (ps_set (i := 2) sc_law_mixed.nd rfl (Or.inl rfl) (pe_op op_mod (pe_op op_mulA (pe_op op_add (pe_op op_mod (pv 0) pe_int) pe_int) (pe_op op_add (pe_op op_mulA (pv 1) pe_int) pe_int)) pe_int))
      (pss_cons (ps_set (i := 2) sc_law_mixed.nd rfl (Or.inl rfl) (pe_op op_mod (pe_op op_mulA (pe_op op_add (pv 2) (pe_op op_mulA (pe_op op_mod (pe_op op_fdivW (pv 0) pe_int) pe_int) (pe_op op_add (pv 1) pe_int))) pe_int) pe_int))
      (pss_cons (ps_set (i := 2) sc_law_mixed.nd rfl (Or.inl rfl) (pe_op op_mod (pe_op op_mulA (pv 2) (pe_op op_add (pe_op op_add (pe_op op_fdivW (pv 2) pe_int) pe_int) (pv 1))) pe_int))
      (pss_one (ps_ret (pe_op op_mod (pe_op op_mulA (pv 2) (pe_op op_add (pe_op op_fdivW (pv 2) pe_int) pe_int)) pe_int)))))), ?_⟩
    walk_at "rd"
    refine ⟨.inr (.inl (by decide)), .inl ?_, .inl ?_, .inr (.inl (by decide)), .inl ?_, .inl ?_, q _⟩
    · omega
    · omega
    · generalize ((c % 2147483646 + 1) * (d * 7919 + 104729) % 2147483647 + c / 2147483646 % 1000003 * (d + 31)) * 48271 = z
      omega
    · generalize ((c % 2147483646 + 1) * (d * 7919 + 104729) % 2147483647 + c / 2147483646 % 1000003 * (d + 31)) * 48271 % 2147483629 * (((c % 2147483646 + 1) * (d * 7919 + 104729) % 2147483647 + c / 2147483646 % 1000003 * (d + 31)) * 48271 % 2147483629 / 1013 + 69621 + d) = z
      omega
def sp_law_take (K : PySem.W.Frag) : Sp := fun vs H Q _ => ∃ (a : Addr) (n : Int), vs = [.ref a, .int n] ∧ Src H a ∧ 0 < n ∧ n.natAbs < 2 ^ 8000 ∧ ∀ H' r, Sx a H H' → Src H' a → 0 ≤ r → r < n → Q (.int r) H'
theorem ok_law_take (T : Tx K mg) : FnOk P w K mg base CX0 2 T.f_law_take T.fd_law_take ["_law_source_here", "_law_count"] (sp_law_take K) := by
  refine T.F_law_take.ok sc_law_take (fun vs H Q E h => ?_) (fun cdv A outer s H vs Q E hr h => ?_)
  · obtain ⟨a, n, rfl, _⟩ := h; rfl
  · obtain ⟨a, n, rfl, ⟨s, c, d, hs⟩, hn, hb, q⟩ := h
    refine ⟨_, (pss_cons (ps_if (pt_cmpR op_ge (pe_ix ix_lH (pv 0) pe_int (fun _ _ => rfl)) (pe_op op_pow pe_int pe_int) (nomark _)) (pss_cons (ps_set (i := 2) sc_law_take.nd rfl (Or.inl rfl) (pe_op op_mod (pe_ix ix_lH (pv 0) pe_int (fun _ _ => rfl)) (pv 1)))
        (pss_cons (ps_asg (pe_op op_fdivW (pe_ix ix_lH (pv 0) pe_int (fun _ _ => rfl)) (pv 1)) (pg_sub (pv 0) pe_int set_lH))
        (pss_one (ps_ret (pv 2))))) pss_nil)
      (pss_cons (ps_asg (pe_op op_add (pe_ix ix_lH (pv 0) pe_int (fun _ _ => rfl)) pe_int) (pg_sub (pv 0) pe_int set_lH))
      (pss_one (ps_ret (pe_op op_mod (pe_call (ok_law_mixed T) (hr.mono (by decide)) (by rfl) T.g_law_mixed T.F_law_mixed.kp T.b_law_mixed .nil pass0 (pa_cons (pe_ix ix_lH (pv 0) pe_int (fun _ _ => rfl)) (pa_cons (pe_ix ix_lH (pv 0) pe_int (fun _ _ => rfl)) pa_nil))) (pv 1)))))), ?_⟩
    walk_at "rh"
    by_cases h : 1000000000000000000 ≤ s
    · rw [if_pos h]
      exact ⟨wide_div hn hb (by decide) (by decide), q _ _ Sx.put ⟨s / n, c, d, upd_same⟩ (Int.emod_nonneg _ (by omega)) (Int.emod_lt_of_pos _ hn)⟩
    · rw [if_neg h]
      refine ⟨c, d + 1, rfl, fun r => ?_⟩
      walk_at "rd"
      exact q _ _ Sx.put ⟨s, c, d + 1, upd_same⟩ (Int.emod_nonneg _ (by omega)) (Int.emod_lt_of_pos _ hn)
theorem take_small {n : Int} (h : 0 < n) (h2 : n < 2 ^ 64) : n.natAbs < 2 ^ 8000 := Nat.lt_of_lt_of_le (by omega : n.natAbs < 2 ^ 64) (Nat.pow_le_pow_right (by decide) (by decide))
def sp_law_source (K : PySem.W.Frag) : Sp := fun vs H Q _ => ∃ c : Int, vs = [.int c] ∧ ∀ H' a, Same H H' → H a = none → Src H' a → Q (.ref a) H'
theorem ok_law_source (T : Tx K mg) : FnOk P w K mg base CX0 1 T.f_law_source T.fd_law_source ["_law_cell"] (sp_law_source K) := by
  refine T.F_law_source.ok sc_law_source (fun vs H Q E h => ?_) (fun cdv A outer s H vs Q E hr h => ?_)
  · obtain ⟨c, rfl, _⟩ := h; rfl
  · obtain ⟨c, rfl, q⟩ := h
    refine ⟨_, (pss_one (ps_ret (pe_lst (pa_cons (pv 0) (pa_cons (pv 0) (pa_cons pe_int pa_nil)))))), ?_⟩
    walk_at "rd"
    intro p hp
    exact q _ p (Same.new hp) hp ⟨_, _, _, upd_same⟩
/-- a comprehension whose elements draw -/
theorem lcr_draw {J : It} {n : Nat} {G : Hp → Prop} {Y : Nat → Hp → V → Hp → Prop} (w : Walk J n G Y) {g : TG} {te : TE} {vs : List Nat} {σ : L2.St} {H1 : Hp} {Q : VK} {a : Addr} (R : Nat → V → Prop) (hs1 : Src H1 a) (hn : n ≤ sizeLine)
    (hG : ∀ H, Sx a H1 H → G H) (hY : ∀ i x H H', Y i H x H' → Same H H')
    (hs : ∀ i x H H' (Qy : VK), i < n → Sx a H1 H → Src H' a → Y i H x H' → (∀ y H4, Sx a H' H4 → Src H4 a → R i y → Qy y H4) → g x (wipe σ vs) H' fun σ2 H2 => wipe σ2 vs = wipe σ vs ∧ te σ2 H2 Qy)
    (hd : ∀ D acc H, H1 D = none → Sx a H1 H → Src H a → acc.length = n → (∀ (i : Nat) y, acc[i]? = some y → R i y) → H D = some (.lst acc) → Q (.ref D) H) : LcR J g tYes te vs σ H1 Q := fun D hD => by
  have nDa : D ≠ a := hs1.ne hD
  refine lc_gen w (fun i acc H => Sx a H1 H ∧ Src H a ∧ acc.length = i ∧ ∀ (j : Nat) y, acc[j]? = some y → R j y) hn ⟨Sx.of (Same.new hD), hs1.same (Same.new hD), rfl, fun j y h => by simp at h⟩ (fun i acc H _ h _ => hG H h.1) (fun i acc H l h _ => ⟨fun b o nb e => ?_, h.2.1.put nDa.symm, h.2.2⟩) (fun i acc x H H' Qy hi ha h e hy hq => ?_) (fun acc H ha h e => hd D acc H hD h.1 h.2.1 ha h.2.2.2 e)
  · rw [upd_ne (ne_some e hD)]
    exact h.1 b o nb e
  · refine hs i x H H' Qy hi h.1 (h.2.1.same (hY _ _ _ _ hy)) hy fun y H4 s4 hs4 hR => hq y H4 (s4 _ _ nDa (hY _ _ _ _ hy _ _ e)) ⟨(h.1.trans (Sx.of (hY _ _ _ _ hy))).trans s4, hs4, by rw [List.length_append, h.2.2.1]; rfl, fun j z hj => ?_⟩
    by_cases hlt : j < acc.length
    · rw [List.getElem?_append_left hlt] at hj
      exact h.2.2.2 j z hj
    · rw [List.getElem?_append_right (by omega)] at hj
      cases hk : j - acc.length with
      | zero =>
        rw [hk] at hj
        have e1 : j = i := by omega
        rw [e1]
        simp only [List.getElem?_cons_zero, Option.some.injEq] at hj
        rw [← hj]; exact hR
      | succ m => rw [hk] at hj; simp at hj
theorem ints_of {acc : List V} {R : Nat → Int → Prop} (h : ∀ (i : Nat) y, acc[i]? = some y → ∃ n, y = V.int n ∧ R i n) : ∃ ns : List Int, acc = ns.map V.int ∧ ∀ (i : Nat) n, ns[i]? = some n → R i n := by
  have key : ∀ (acc : List V) (k : Nat), (∀ (i : Nat) y, acc[i]? = some y → ∃ n, y = V.int n ∧ R (i + k) n) → ∃ ns : List Int, acc = ns.map V.int ∧ ∀ (i : Nat) n, ns[i]? = some n → R (i + k) n := by
    intro acc
    induction acc with
    | nil => intro k _; exact ⟨[], rfl, fun i n h => by simp at h⟩
    | cons x r ih =>
      intro k h
      obtain ⟨n, e, hn⟩ := h 0 x rfl
      obtain ⟨ns, e2, h2⟩ := ih (k + 1) fun i y hy => by
        obtain ⟨m, e3, h3⟩ := h (i + 1) y hy
        exact ⟨m, e3, by rw [show i + (k + 1) = i + 1 + k by omega]; exact h3⟩
      refine ⟨n :: ns, by rw [e, e2]; rfl, fun i m hm => ?_⟩
      cases i with
      | zero =>
        simp only [List.getElem?_cons_zero, Option.some.injEq] at hm
        rw [← hm]; exact hn
      | succ i =>
        have := h2 i m hm
        rw [show i + (k + 1) = i + 1 + k by omega] at this
        exact this
  obtain ⟨ns, e, h2⟩ := key acc 0 (fun i y hy => h i y hy)
  exact ⟨ns, e, fun i n hn => h2 i n hn⟩
/-- a list of ints at an index that is drawn -/
theorem atI_ints {ns : List Int} {i : Int} (h0 : 0 ≤ i) (h1 : i < ns.length) : ∃ n, n ∈ ns ∧ atI (ns.map V.int) i = some (.int n) := by
  obtain ⟨v, hv, e⟩ := atI_in (xs := ns.map V.int) h0 (by rw [List.length_map]; exact h1)
  obtain ⟨n, hn, rfl⟩ := List.mem_map.mp hv
  exact ⟨n, hn, e⟩
end

theorem seat_cons {s p : Int} {ss ps : List Int} (h : Seat (s :: ss) (p :: ps)) : (0 ≤ p ∧ p < s) ∧ Seat ss ps :=
  ⟨h.ok 0 p s rfl rfl, by simpa using h.len, fun i q t hq ht => h.ok (i + 1) q t hq ht⟩
theorem Seat.cons {s p : Int} {ss ps : List Int} (h1 : 0 ≤ p) (h2 : p < s) (h : Seat ss ps) : Seat (s :: ss) (p :: ps) :=
  ⟨by simp [h.len], fun i q t hq ht => by
    cases i with
    | zero =>
      obtain rfl := Option.some.inj hq
      obtain rfl := Option.some.inj ht
      exact ⟨h1, h2⟩
    | succ i => exact h.ok i q t hq ht⟩
theorem Seat.nil : Seat [] [] := ⟨rfl, fun i q t h _ => by simp at h⟩
theorem mv_seat {g : Int → Int → Int} : ∀ {ps cs ss : List Int}, ps.length = ss.length → cs.length = ss.length → (∀ s ∈ ss, 1 ≤ s) → Seat ss (mv g ps cs ss)
  | [], [], [], _, _, _ => .nil
  | _ :: _, _, [], h, _, _ => by simp at h
  | [], _, _ :: _, h, _, _ => by simp at h
  | _, [], _ :: _, _, h, _ => by simp at h
  | _, _ :: _, [], _, h, _ => by simp at h
  | p :: ps, c :: cs, s :: ss, h1, h2, h3 => by
    have hs := h3 s (List.mem_cons_self ..)
    exact .cons (Int.emod_nonneg _ (by omega)) (Int.emod_lt_of_pos _ (by omega)) (mv_seat (by simpa using h1) (by simpa using h2) fun t ht => h3 t (List.mem_cons_of_mem _ ht))

/-! ### draws of k15, k17, k18 -/
section
variable {P : Program} {w : World} {K : PySem.W.Frag} {mg : Str → Option Value} {base : Heap}
def sp_law_sum (K : PySem.W.Frag) : Sp := fun vs H Q _ => ∃ (p c l : Addr) (ss ps cs : List Int), vs = [.ref p, .ref c, .ref l] ∧ H p = some (.tup (ps.map V.int)) ∧ H c = some (.tup (cs.map V.int)) ∧ H l = some (.lst (ss.map V.int)) ∧ ps.length = ss.length ∧ cs.length = ss.length ∧ Sz ss ∧
  ∀ H' f, Same H H' → H' f = some (.tup ((mv fw ps cs ss).map V.int)) → Q (.ref f) H'
theorem ok_law_sum (T : Tx K mg) : FnOk P w K mg base CX0 1 T.f_law_sum T.fd_law_sum ["_law_first", "_law_second", "_law_sizes_here"] (sp_law_sum K) := by
  refine T.F_law_sum.ok sc_law_sum (fun vs H Q E h => ?_) (fun cdv A outer s H vs Q E hr h => ?_)
  · obtain ⟨p, c, l, ss, ps, cs, rfl, _⟩ := h; rfl
  · obtain ⟨p, c, l, ss, ps, cs, rfl, hp, hc, hl, e1, e2, z, q⟩ := h
    refine ⟨_, (pss_one (ps_ret (pe_callTy tuple_H (by rfl) T.n_tuple (by decide +kernel) (pa_cons (pe_lc (own := [("_law_a", 3), ("_law_b", 4), ("_law_size", 5)]) (g := (gTupH 3 (gCons (gName 3) (gCons (gName 4) (gCons (gName 5) gNil))))) (tt := tYes) rfl sc_law_sum.nd (pi_z3H (by rfl) T.n_zip (pa_cons (pv 0) (pa_cons (pv 1) (pa_cons (pv 2) pa_nil)))) (blkOk_by (own := [("_law_a", 3), ("_law_b", 4), ("_law_size", 5)]) (N := N_law_sum) (sc := defScope d_law_sum) (by decide +kernel)) (fun _ _ _ _ _ => (pg_tupH (n := 3) rfl (pgs_cons (pg_name (i := 3) sc_law_sum.nd rfl (Or.inl rfl)) (pgs_cons (pg_name (i := 4) sc_law_sum.nd rfl (Or.inl rfl)) (pgs_cons (pg_name (i := 5) sc_law_sum.nd rfl (Or.inl rfl)) pgs_nil))))) (fun _ _ _ _ _ => pts_nil) (fun _ _ _ _ _ => (pe_op op_mod (pe_op op_add (pv 3) (pv 4)) (pv 5)))) pa_nil)))), ?_⟩
    have pos : ∀ n ∈ ss, 0 < n := fun n hn => by have := z.pos n hn; omega
    walk_at "rd"
    refine ⟨false, false, true, ps.map V.int, hp, cs.map V.int, hc, ss.map V.int, hl, by rw [List.length_map, List.length_map, e1, e2], by rw [List.length_map, List.length_map, e2], fun J W => ?_⟩
    refine lcr_map W ((mv fw ps cs ss).map V.int) (by rw [List.length_map, List.length_map, mv_len (by rw [e1, e2]) e2]) ?_ (fun H3 s3 => ⟨s3 _ _ hp, s3 _ _ hc, s3 _ _ hl⟩) (fun _ _ _ _ y => YTrip.same y) ?_ ?_
    · have h4 := z.hi
      rw [List.length_map]
      exact Nat.le_trans (by omega : ps.length ≤ 4) (by decide)
    · intro i x H3 H4 y Qy hi s3 hy hr hq
      obtain ⟨T0, x1, y1, z1, rfl, hT, rfl, h1, h2, h3⟩ := hy
      simp only [List.getElem?_map, Option.map_eq_some_iff] at hr h1 h2 h3
      obtain ⟨x2, hx2, rfl⟩ := h1
      obtain ⟨y2, hy2, rfl⟩ := h2
      obtain ⟨z2, hz2, rfl⟩ := h3
      rw [mv_get hx2 hy2 hz2] at hr
      obtain ⟨r, hr, rfl⟩ := hr
      obtain rfl := Option.some.inj hr
      walk_at "rd"
      exact ⟨pos z2 (List.mem_of_getElem? hz2), hq _ (Same.refl _)⟩
    · intro D H3 hD s3 h3
      exact ⟨D, rfl, .inl ⟨_, h3, fun f hf => q _ f (s3.trans (Same.new hf)) upd_same⟩⟩
def tms (k : Int) (ps ss : List Int) : List Int := List.zipWith (fun p s => k * p % s) ps ss
theorem tms_len {k : Int} {ps ss : List Int} (h : ps.length = ss.length) : (tms k ps ss).length = ss.length := by unfold tms; rw [List.length_zipWith, h, Nat.min_self]
def sp_law_times (K : PySem.W.Frag) : Sp := fun vs H Q _ => ∃ (k : Int) (p l : Addr) (ss ps : List Int), vs = [.int k, .ref p, .ref l] ∧ H p = some (.tup (ps.map V.int)) ∧ H l = some (.lst (ss.map V.int)) ∧ ps.length = ss.length ∧ Sz ss ∧ (∀ x ∈ ps, CMulA k x) ∧
  ∀ H' f, Same H H' → H' f = some (.tup ((tms k ps ss).map V.int)) → Q (.ref f) H'
theorem ok_law_times (T : Tx K mg) : FnOk P w K mg base CX0 1 T.f_law_times T.fd_law_times ["_law_factor", "_law_first", "_law_sizes_here"] (sp_law_times K) := by
  refine T.F_law_times.ok sc_law_times (fun vs H Q E h => ?_) (fun cdv A outer s H vs Q E hr h => ?_)
  · obtain ⟨k, p, l, ss, ps, rfl, _⟩ := h; rfl
  · obtain ⟨k, p, l, ss, ps, rfl, hp, hl, e1, z, hm, q⟩ := h
    refine ⟨_, (pss_one (ps_ret (pe_callTy tuple_H (by rfl) T.n_tuple (by decide +kernel) (pa_cons (pe_lc (own := [("_law_place", 3), ("_law_size", 4)]) (g := (gTupH 2 (gCons (gName 3) (gCons (gName 4) gNil)))) (tt := tYes) rfl sc_law_times.nd (pi_z2H (by rfl) T.n_zip (pa_cons (pv 1) (pa_cons (pv 2) pa_nil))) (blkOk_by (own := [("_law_place", 3), ("_law_size", 4)]) (N := N_law_times) (sc := defScope d_law_times) (by decide +kernel)) (fun _ _ _ _ _ => (pg_tupH (n := 2) rfl (pgs_cons (pg_name (i := 3) sc_law_times.nd rfl (Or.inl rfl)) (pgs_cons (pg_name (i := 4) sc_law_times.nd rfl (Or.inl rfl)) pgs_nil)))) (fun _ _ _ _ _ => pts_nil) (fun _ _ _ _ _ => (pe_op op_mod (pe_op op_mulA (pv 0) (pv 3)) (pv 4)))) pa_nil)))), ?_⟩
    walk_at "rd"
    refine ⟨false, true, ps.map V.int, hp, ss.map V.int, hl, by rw [List.length_map, List.length_map, e1], fun J W => ?_⟩
    refine lcr_two (p := 3) (q := 4) e1 (by have := z.hi; omega) (fun x y => k * x % y) W (fun H3 s3 => ⟨s3 _ _ hp, s3 _ _ hl⟩) (fun T0 x y H3 R hT hR => ?_) (fun x y => rfl) (fun i x y Qy H3 h1 h2 hq => ?_) fun D H3 hD s3 h3 => ?_
    · walk_at "rh"
      exact hR
    · walk_at "rd"
      have := z.pos y (List.mem_of_getElem? h2)
      exact ⟨hm x (List.mem_of_getElem? h1), by omega, hq⟩
    · exact ⟨D, rfl, .inl ⟨_, h3, fun f hf => q _ f (s3.trans (Same.new hf)) upd_same⟩⟩
def sp_law_seat (K : PySem.W.Frag) : Sp := fun vs H Q _ => ∃ (a l : Addr) (ss : List Int), vs = [.ref a, .ref l] ∧ Src H a ∧ H l = some (.lst (ss.map V.int)) ∧ l ≠ a ∧ Sz ss ∧ ∀ H' p ps, Sx a H H' → Src H' a → H p = none → H' p = some (.tup (ps.map V.int)) → Seat ss ps → Q (.ref p) H'
theorem ok_law_seat (T : Tx K mg) : FnOk P w K mg base CX0 3 T.f_law_seat T.fd_law_seat ["_law_source_here", "_law_sizes_here"] (sp_law_seat K) := by
  refine T.F_law_seat.ok sc_law_seat (fun vs H Q E h => ?_) (fun cdv A outer s H vs Q E hr h => ?_)
  · obtain ⟨a, l, ss, rfl, _⟩ := h; rfl
  · obtain ⟨a, l, ss, rfl, hs, hl, nla, z, q⟩ := h
    refine ⟨_, (pss_one (ps_ret (pe_callTy tuple_H (by rfl) T.n_tuple (by decide +kernel) (pa_cons (pe_lc (own := [("_law_size", 2)]) (g := (gName 2)) (tt := tYes) rfl sc_law_seat.nd (pi_seqH (pv 1)) (blkOk_by (own := [("_law_size", 2)]) (N := N_law_seat) (sc := defScope d_law_seat) (by decide +kernel)) (fun _ _ _ _ _ => (pg_name (i := 2) sc_law_seat.nd rfl (Or.inl rfl))) (fun _ _ _ _ _ => pts_nil) (fun _ _ _ _ _ => (pe_op op_mod (pe_op op_add (pe_op op_mulA (pe_call (ok_law_take T) (hr.mono (by decide)) (by rfl) T.g_law_take T.F_law_take.kp T.b_law_take .nil pass0 (pa_cons (pv 0) (pa_cons (pe_op op_pow pe_int pe_int) pa_nil))) (pe_op op_pow pe_int pe_int)) (pe_call (ok_law_take T) (hr.mono (by decide)) (by rfl) T.g_law_take T.F_law_take.kp T.b_law_take .nil pass0 (pa_cons (pv 0) (pa_cons (pe_op op_pow pe_int pe_int) pa_nil)))) (pv 2)))) pa_nil)))), ?_⟩
    walk_at "rh"
    intro J W
    refine lcr_draw W (fun i y => ∃ n, y = V.int n ∧ ∀ s, ss[i]? = some s → 0 ≤ n ∧ n < s) hs (Nat.le_trans z.hi (by decide)) (fun H1 s1 => s1 _ _ nla hl) (fun _ _ _ _ y => YAt.same y) ?_ ?_
    · rintro i x H1 H2 Qy hi s1 hs1 ⟨rfl, hx⟩ hq
      simp only [List.getElem?_map, Option.map_eq_some_iff] at hx
      obtain ⟨n, hn, rfl⟩ := hx
      have h1 := z.pos n (List.mem_of_getElem? hn)
      walk_at "rd"
      refine ⟨a, 1000000000000000000, rfl, hs1, by decide, take_small (by decide) (by decide), fun H3 r s3 hs3 r0 r1 => ?_⟩
      walk_at "rd"
      refine ⟨.inl (by omega), a, 1000000000, rfl, hs3, by decide, take_small (by decide) (by decide), fun H4 r4 s4 hs4 r40 r41 => ⟨r4, rfl, by omega, hq _ _ (s3.trans s4) hs4 ⟨_, rfl, fun s hs' => ?_⟩⟩⟩
      rw [hn] at hs'
      obtain rfl := Option.some.inj hs'
      exact ⟨Int.emod_nonneg _ (by omega), Int.emod_lt_of_pos _ (by omega)⟩
    · intro D acc H1 hD s1 hs1 hlen hR hD1
      obtain ⟨ps, rfl, hps⟩ := ints_of hR
      refine ⟨D, rfl, .inl ⟨_, hD1, fun p hp => ?_⟩⟩
      have hHp : H p = none := s1.free (hs1.ne hp) hp
      exact q _ p ps (s1.trans (Sx.of (Same.new hp))) (hs1.same (Same.new hp)) hHp upd_same ⟨by rw [← hlen, List.length_map], fun i p s hp hs' => hps i p hp s hs'⟩
def sp_law_sizes (K : PySem.W.Frag) : Sp := fun vs H Q _ => ∃ a : Addr, vs = [.ref a] ∧ Src H a ∧ ∀ H' l ss, Sx a H H' → Src H' a → H l = none → H' l = some (.lst (ss.map V.int)) → l ≠ a → Sz ss → (∀ n ∈ ss, n.natAbs < 2 ^ 200) → Q (.ref l) H'
theorem ok_law_sizes (T : Tx K mg) : FnOk P w K mg base CX0 3 T.f_law_sizes T.fd_law_sizes ["_law_source_here"] (sp_law_sizes K) := by
  refine T.F_law_sizes.ok sc_law_sizes (fun vs H Q E h => ?_) (fun cdv A outer s H vs Q E hr h => ?_)
  · obtain ⟨a, rfl, _⟩ := h; rfl
  · obtain ⟨a, rfl, hs, q⟩ := h
    refine ⟨_, (pss_cons (ps_set (i := 1) sc_law_sizes.nd rfl (Or.inr rfl) (pe_lst (pa_cons pe_int (pa_cons pe_int (pa_cons pe_int (pa_cons pe_int (pa_cons pe_int (pa_cons pe_int (pa_cons pe_int (pa_cons pe_int (pa_cons pe_int (pa_cons pe_int (pa_cons (pe_op op_pow pe_int pe_int) (pa_cons (pe_op op_mulA pe_int (pe_op op_pow pe_int pe_int)) (pa_cons (pe_op op_add (pe_op op_pow pe_int pe_int) pe_int) (pa_cons (pe_op op_mulA (pe_op op_pow pe_int pe_int) (pe_op op_pow pe_int pe_int)) pa_nil))))))))))))))))
      (pss_one (ps_ret (pe_lc (own := [("_law_k", 2)]) (g := (gName 2)) (tt := tYes) rfl sc_law_sizes.nd (pi_range1H (by rfl) T.n_range (pa_cons (pe_op op_add pe_int (pe_call (ok_law_take T) (hr.mono (by decide)) (by rfl) T.g_law_take T.F_law_take.kp T.b_law_take .nil pass0 (pa_cons (pv 0) (pa_cons pe_int pa_nil)))) pa_nil)) (blkOk_by (own := [("_law_k", 2)]) (N := N_law_sizes) (sc := defScope d_law_sizes) (by decide +kernel)) (fun _ _ _ _ _ => (pg_name (i := 2) sc_law_sizes.nd rfl (Or.inl rfl))) (fun _ _ _ _ _ => pts_nil) (fun _ _ _ _ _ => (pe_ix ix_lH (pv 1) (pe_call (ok_law_take T) (hr.mono (by decide)) (by rfl) T.g_law_take T.F_law_take.kp T.b_law_take .nil pass0 (pa_cons (pv 0) (pa_cons pe_int pa_nil))) (fun _ _ => rfl))))))), ?_⟩
    walk_at "rd"
    refine ⟨⟨by decide, by decide, by decide⟩, ⟨by decide, by decide, by decide⟩, .inl (by decide), ⟨by decide, by decide, by decide⟩, ⟨by decide, by decide, by decide⟩, .inl (by decide), fun p hp => ?_⟩
    have npa : p ≠ a := hs.ne hp
    generalize hsm : ([V.int 3, V.int 9, V.int 15, V.int 12, V.int 5, V.int 8, V.int 45, V.int 2, V.int 1, V.int 21, V.int 717897987691852588770249, V.int 17293822569102704640, V.int 1000000000000000000000000000000000000003, V.int 794280046581] : List V) = small
    have hsm' : small = ([3, 9, 15, 12, 5, 8, 45, 2, 1, 21, 717897987691852588770249, 17293822569102704640, 1000000000000000000000000000000000000003, 794280046581] : List Int).map V.int := hsm.symm
    have sp := Same.new hp (o := .lst small)
    have fp : (upd H p (.lst small)) p = some (.lst small) := upd_same
    generalize upd H p (HO.lst small) = H1 at sp fp ⊢
    refine ⟨a, 4, rfl, hs.same sp, by decide, take_small (by decide) (by decide), fun H2 r s2 hs2 r0 r1 => ⟨r, rfl, by omega, by omega, fun J W => ?_⟩⟩
    have g2 := s2 _ _ npa fp
    refine lcr_draw W (fun i y => ∃ n, y = V.int n ∧ 1 ≤ n ∧ n < 2 ^ 200) hs2 (Nat.le_trans (by omega : (1 + r).toNat ≤ 4) (by decide)) (fun _ _ => trivial) (fun _ _ _ _ y => by rw [y.1]; exact Same.refl _) ?_ ?_
    · rintro i x H3 H4 Qy hi s3 hs3 ⟨rfl, rfl⟩ hq
      walk_at "rd"
      refine ⟨a, 14, rfl, hs3, by decide, take_small (by decide) (by decide), fun H4 r4 s4 hs4 r40 r41 => ⟨r4, rfl, small, s4 _ _ npa (s3 _ _ npa g2), ?_⟩⟩
      obtain ⟨n, hn, en⟩ := atI_ints (ns := [3, 9, 15, 12, 5, 8, 45, 2, 1, 21, 717897987691852588770249, 17293822569102704640, 1000000000000000000000000000000000000003, 794280046581]) r40 r41
      rw [hsm']
      refine ⟨_, en, hq _ _ s4 hs4 ⟨n, rfl, ?_⟩⟩
      simp only [List.mem_cons, List.mem_nil_iff, or_false] at hn
      omega
    · intro D acc H3 hD s3 hs3 hlen hR hD1
      obtain ⟨ns, rfl, hns⟩ := ints_of hR
      have hl : ns.length = (1 + r).toNat := by rw [← hlen, List.length_map]
      have s03 : Sx a H H3 := (Sx.of sp).trans (s2.trans s3)
      have nDa : D ≠ a := hs2.ne hD
      have hHD : H D = none := ((Sx.of sp).trans s2).free nDa hD
      refine q H3 D ns s03 hs3 hHD hD1 nDa ⟨by omega, by omega, fun n hn => ?_, fun n hn => ?_⟩ ?_
      · obtain ⟨i, hi, e⟩ := List.getElem_of_mem hn
        exact (hns i n (by rw [List.getElem?_eq_getElem hi, e])).1
      · obtain ⟨i, hi, e⟩ := List.getElem_of_mem hn
        obtain ⟨h1, h2⟩ := hns i n (by rw [List.getElem?_eq_getElem hi, e])
        exact Nat.lt_of_lt_of_le (by omega : n.natAbs < 2 ^ 200) (Nat.pow_le_pow_right (by decide) (by decide))
      · intro n hn
        obtain ⟨i, hi, e⟩ := List.getElem_of_mem hn
        obtain ⟨h1, h2⟩ := hns i n (by rw [List.getElem?_eq_getElem hi, e])
        omega
end

/-! ### sums of differences -/
theorem grp_red0 {S : (Nat → Int) → Prop} (G : Grp S) {n : Nat} {o q v w : Nat → Int} (ho : ∀ j, j < n → S (eU j (o j))) (hw : ∀ i, i < n → w i = v i - q i * o i) (h2 : ∀ i, n ≤ i → w i = v i) (h : S v) : S w := by
  have key : ∀ t, t ≤ n → S fun i => if i < t then w i else v i := by
    intro t
    induction t with
    | zero => intro _; simpa using h
    | succ t ih =>
      intro ht
      have h4 := G.add _ _ (-q t) (ih (by omega)) (ho t (by omega))
      have e : (fun i => if i < t + 1 then w i else v i) = fun i => (if i < t then w i else v i) + -q t * eU t (o t) i := by
        funext i
        unfold eU
        by_cases e : i = t
        · subst e
          rw [if_pos (by omega), if_neg (by omega), if_pos rfl, hw i (by omega), Int.neg_mul]
          omega
        · rw [if_neg e, Int.mul_zero, Int.add_zero]
          by_cases e2 : i < t
          · rw [if_pos (by omega), if_pos e2]
          · rw [if_neg (by omega), if_neg e2]
      rw [e]; exact h4
  have h5 := key n (Nat.le_refl _)
  have e : (fun i => if i < n then w i else v i) = w := by
    funext i
    by_cases e : i < n
    · rw [if_pos e]
    · rw [if_neg e, h2 i (by omega)]
  rw [e] at h5
  exact h5
theorem grp_scale {S : (Nat → Int) → Prop} (G : Grp S) (k : Int) {v : Nat → Int} (h : S v) : S fun i => k * v i := by
  have h1 := G.add _ _ k G.zero h
  have e : (fun i => 0 + k * v i) = fun i => k * v i := by funext i; omega
  rw [e] at h1
  exact h1
theorem gen_size {ss : List Int} {gs : List (List Int)} {S : (Nat → Int) → Prop} (G : Grp S) (hs : ∀ s ∈ ss, 1 ≤ s) (h : Gen ss gs S) : ∀ j, j < ss.length → S (eU j (ss.getD j 0)) := fun j hj => by
  obtain ⟨q, hq⟩ := oddI_dvd (hs _ (List.getElem_mem hj))
  have h1 := grp_scale G q (h.1 j hj)
  have e : (fun i => q * eU j (oddI (ss.getD j 0)) i) = eU j (ss.getD j 0) := by
    funext i
    have e2 : ss.getD j 0 = ss[j] := by rw [getD_getD, List.getElem?_eq_getElem hj]; rfl
    unfold eU
    by_cases e : i = j
    · rw [if_pos e, if_pos e, e2, Int.mul_comm]; exact hq.symm
    · rw [if_neg e, if_neg e, Int.mul_zero]
  rw [e] at h1
  exact h1
theorem mv_fv : ∀ {p c ss : List Int}, p.length = ss.length → c.length = ss.length → fv (mv fw p c ss) = fun i => (fv p i + fv c i) % fv ss i
  | [], [], [], _, _ => by funext i; simp [mv, fv]
  | p :: ps, c :: cs, s :: ss, h1, h2 => by
    have ih := mv_fv (p := ps) (c := cs) (ss := ss) (by simpa using h1) (by simpa using h2)
    funext i
    cases i with
    | zero => rfl
    | succ i => exact congrFun ih i
  | [], _ :: _, [], _, h => by simp at h
  | [], _, _ :: _, h, _ => by simp at h
  | _ :: _, _, [], h, _ => by simp at h
  | _ :: _, [], _ :: _, _, h => by simp at h
/-- a step by what is in the group -/
theorem step_grp {ss g x c : List Int} {S : (Nat → Int) → Prop} (G : Grp S) (hsz : ∀ j, j < ss.length → S (eU j (ss.getD j 0))) (hx : x.length = ss.length) (hc : c.length = ss.length) (hg : g.length = ss.length) (hml : (mv fw x c ss).length = ss.length) (h1 : S (fv (sub2 x g))) (h2 : S (fv c)) : S (fv (sub2 (mv fw x c ss) g)) := by
  rw [fv_sub (by omega), mv_fv hx hc]
  have h3 := G.add _ _ 1 h1 h2
  rw [fv_sub (by omega)] at h3
  refine grp_red0 G (n := ss.length) (o := fv ss) (q := fun i => (fv x i + fv c i) / fv ss i) hsz (fun i hi => ?_) (fun i hi => ?_) h3
  · show (fv x i + fv c i) % fv ss i - fv g i = fv x i - fv g i + 1 * fv c i - (fv x i + fv c i) / fv ss i * fv ss i
    have := Int.emod_add_mul_ediv (fv x i + fv c i) (fv ss i)
    rw [Int.mul_comm (fv ss i)] at this
    omega
  · show (fv x i + fv c i) % fv ss i - fv g i = fv x i - fv g i + 1 * fv c i
    rw [fv_out (l := x) (by omega), fv_out (l := c) (by omega), fv_out (l := ss) (by omega)]
    simp
/-- a multiple of what is in the group -/
theorem tms_grp {ss c : List Int} {k : Int} {S : (Nat → Int) → Prop} (G : Grp S) (hsz : ∀ j, j < ss.length → S (eU j (ss.getD j 0))) (hc : c.length = ss.length) (h : S (fv c)) : S (fv (tms k c ss)) := by
  have e : fv (tms k c ss) = fun i => k * fv c i % fv ss i := fv_zw (g := fun p s => k * p % s) hc (by simp)
  rw [e]
  refine grp_red0 G (n := ss.length) (o := fv ss) (q := fun i => (k * fv c i) / fv ss i) hsz (fun i hi => ?_) (fun i hi => ?_) (grp_scale G k h)
  · have := Int.emod_add_mul_ediv (k * fv c i) (fv ss i)
    rw [Int.mul_comm (fv ss i)] at this
    omega
  · show k * fv c i % fv ss i = k * fv c i
    rw [fv_out (l := c) (by omega)]
    simp
/-- the gap from one target to another -/
theorem gap_grp {ss a b : List Int} {S : (Nat → Int) → Prop} (G : Grp S) (hsz : ∀ j, j < ss.length → S (eU j (ss.getD j 0))) (ha : a.length = ss.length) (hb : b.length = ss.length) (hl : (tms (-1) b ss).length = ss.length) (h : S (fv (sub2 a b))) : S (fv (mv fw a (tms (-1) b ss) ss)) := by
  rw [mv_fv ha hl]
  have e : fv (tms (-1) b ss) = fun i => -1 * fv b i % fv ss i := fv_zw (g := fun p s => -1 * p % s) hb (by simp)
  rw [e]
  rw [fv_sub (by omega)] at h
  refine grp_red0 G (n := ss.length) (o := fv ss) (q := fun i => (-1 * fv b i) / fv ss i + (fv a i + -1 * fv b i % fv ss i) / fv ss i) hsz (fun i hi => ?_) (fun i hi => ?_) h
  · have h1 := Int.emod_add_mul_ediv (-1 * fv b i) (fv ss i)
    have h2 := Int.emod_add_mul_ediv (fv a i + -1 * fv b i % fv ss i) (fv ss i)
    rw [Int.mul_comm (fv ss i)] at h1 h2
    show (fv a i + -1 * fv b i % fv ss i) % fv ss i = fv a i - fv b i - ((-1 * fv b i) / fv ss i + (fv a i + -1 * fv b i % fv ss i) / fv ss i) * fv ss i
    rw [Int.add_mul]
    omega
  · show (fv a i + -1 * fv b i % fv ss i) % fv ss i = fv a i - fv b i
    rw [fv_out (l := a) (by omega), fv_out (l := b) (by omega)]
    simp
/-- what has 2-power orders -/
theorem twos_grp {ss c : List Int} {S : (Nat → Int) → Prop} (G : Grp S) (hod : ∀ j, j < ss.length → S (eU j (oddI (ss.getD j 0)))) (hc : c.length = ss.length) (h : ∀ j, j < ss.length → oddI (ss.getD j 0) ∣ c.getD j 0) : S (fv c) := by
  refine grp_red0 G (n := ss.length) (o := fun i => oddI (ss.getD i 0)) (q := fun i => -(fv c i / oddI (ss.getD i 0))) hod (fun i hi => ?_) (fun i hi => fv_out (by omega)) G.zero
  have := Int.ediv_mul_cancel (h i hi)
  rw [Int.neg_mul]
  show fv c i = _
  unfold fv
  omega
/-- the number of sets is a multiple of the modulus -/
theorem mod_dvd_coset {s m r : Int} {ss ws : List Int} {gs : List (List Int)} (z : Sz (s :: ss)) (hg : gs ≠ []) (hl : ∀ g ∈ gs, g.length = (s :: ss).length) (hgen : Gen (s :: ss) gs fun v => m ∣ dotF (fv (1 :: ws)) v (s :: ss).length) : m ∣ cosetI (s :: ss) gs := by
  have hR := shift_rows z hg hl
  have hT := shift_tri z hg hl
  have hn : (shiftB (s :: ss) gs).length = (s :: ss).length := by rw [hR.len, odds_len]
  have e : cosetI (s :: ss) gs = pivP (shiftB (s :: ss) gs) (shiftB (s :: ss) gs).length := by unfold cosetI; rw [hn]
  have hv : (cosetI (s :: ss) gs :: List.replicate ss.length 0).length = (shiftB (s :: ss) gs).length := by rw [hn]; simp
  have h1 := col_mem hR hT hv (fun c hc => ?_) (grp_dot (fv (1 :: ws)) m (s :: ss).length) (((shift_grp z hg hl).1 _ (grp_dot _ _ _)).mpr hgen)
  · have e2 : fv (cosetI (s :: ss) gs :: List.replicate ss.length 0) = eU 0 (cosetI (s :: ss) gs) := by
      funext i
      cases i with
      | zero => rfl
      | succ i =>
        show (List.replicate ss.length (0 : Int)).getD i 0 = 0
        rw [getD_getD, List.getElem?_replicate]
        split <;> rfl
    rw [e2, dotF_unit, if_pos (by simp)] at h1
    have e3 : fv (1 :: ws) 0 * cosetI (s :: ss) gs = cosetI (s :: ss) gs := Int.one_mul _
    rw [e3] at h1
    exact h1
  · rw [← e]
    refine Int.dvd_trans (Int.dvd_refl _) ?_
    have hd : ∀ (w : List Int) (x : Int) (n : Nat), x ∣ dot w (x :: List.replicate n 0) := fun w x n => by
      cases w with
      | nil => exact Int.dvd_zero _
      | cons y w =>
        show x ∣ y * x + dot w (List.replicate n 0)
        have e4 : dot w (List.replicate n 0) = 0 := by
          have key : ∀ (n : Nat) (w : List Int), dot w (List.replicate n 0) = 0 := by
            intro n
            induction n with
            | zero => intro w; cases w <;> rfl
            | succ n ih =>
              intro w
              cases w with
              | nil => rfl
              | cons y w =>
                rw [List.replicate_succ]
                show y * 0 + dot w (List.replicate n 0) = 0
                rw [ih w]
                simp
          exact key n w
        rw [e4, Int.add_zero]
        exact Int.dvd_mul_left _ _
    exact hd _ _ _

theorem grp_cong {S : (Nat → Int) → Prop} (G : Grp S) {n : Nat} {o a b : Nat → Int} (ho : ∀ j, j < n → S (eU j (o j))) (h1 : ∀ i, i < n → o i ∣ a i - b i) (h2 : ∀ i, n ≤ i → a i = b i) (ha : S a) : S b := by
  refine grp_red0 G (n := n) (o := o) (q := fun i => (a i - b i) / o i) ho (fun i hi => ?_) (fun i hi => (h2 i hi).symm) ha
  have := Int.ediv_mul_cancel (h1 i hi)
  show b i = a i - (a i - b i) / o i * o i
  omega
theorem free_dvd {ss : List Int} {gs : List (List Int)} {v : Nat → Int} (h1 : ∀ i, i < ss.length → oddI (ss.getD i 0) ∣ v i) (h2 : ∀ i, ss.length ≤ i → v i = 0) : Free ss gs v := fun S G hg =>
  grp_cong G (n := ss.length) (o := fun i => oddI (ss.getD i 0)) (a := fun _ => 0) hg.1 (fun i hi => by
    show oddI (ss.getD i 0) ∣ 0 - v i
    rw [Int.zero_sub]
    exact Int.dvd_neg.mpr (h1 i hi)) (fun i hi => (h2 i hi).symm) G.zero
theorem eU_mul (u : Nat → Int) (j : Nat) (x : Int) : (fun i => u i * eU j x i) = fun i => u j * eU j x i := by
  funext i
  unfold eU
  by_cases e : i = j
  · subst e; rfl
  · rw [if_neg e, Int.mul_zero, Int.mul_zero]
theorem diag_lin (u : Nat → Int) (a b : Nat → Int) (c : Int) : (fun i => u i * (a i + c * b i)) = fun i => u i * a i + c * (u i * b i) := by
  funext i
  rw [Int.mul_add, Int.mul_left_comm]
/-- each ring multiplied by a number that can be undone -/
theorem tr_diag {ss : List Int} {gs : List (List Int)} (hg : gs ≠ []) (hl : ∀ g ∈ gs, g.length = ss.length) (f : List Int → List Int) (u w : Nat → Int) (hfl : ∀ g, g.length = ss.length → (f g).length = ss.length) (huw : ∀ i, i < ss.length → oddI (ss.getD i 0) ∣ 1 - w i * u i)
    (hf : ∀ g g0, g.length = ss.length → g0.length = ss.length → ∀ i, i < ss.length → oddI (ss.getD i 0) ∣ (fv (f g) i - fv (f g0) i) - u i * (fv g i - fv g0 i)) : Tr ss gs ss (gs.map f) (fun v i => u i * v i) (fun v i => w i * v i) := by
  have hh : (gs.map f).headD [] = f (gs.headD []) := by
    cases gs with
    | nil => exact absurd rfl hg
    | cons g gs => rfl
  have h0 := hl _ (headD_mem hg)
  have hs : ∀ {a b : List Int}, a.length = ss.length → b.length = ss.length → fv (sub2 a b) = fun i => fv a i - fv b i := fun {a b} ha hb => fv_sub (by omega)
  have out : ∀ {a : List Int}, a.length = ss.length → ∀ {i}, ss.length ≤ i → fv a i = 0 := fun {a} ha {i} hi => fv_out (by omega)
  have inv : ∀ v : Nat → Int, (∀ k, ss.length ≤ k → v k = 0) → ∀ x y : Nat → Int, (∀ i, x i * y i = w i * u i) → Free ss gs (dif v fun i => x i * (y i * v i)) ∧ Free ss (gs.map f) (dif v fun i => x i * (y i * v i)) := fun v hv x y hxy => by
    have d1 : ∀ i, i < ss.length → oddI (ss.getD i 0) ∣ dif v (fun i => x i * (y i * v i)) i := fun i hi => by
      have e : dif v (fun i => x i * (y i * v i)) i = (1 - w i * u i) * v i := by
        simp only [dif]
        rw [show x i * (y i * v i) = w i * u i * v i by rw [← Int.mul_assoc, hxy], Int.sub_mul, Int.one_mul]
        omega
      rw [e]
      exact Int.dvd_mul_of_dvd_left (huw i hi)
    have d2 : ∀ i, ss.length ≤ i → dif v (fun i => x i * (y i * v i)) i = 0 := fun i hi => by
      simp only [dif]
      rw [hv i hi, Int.mul_zero, Int.mul_zero]
      rfl
    exact ⟨free_dvd d1 d2, free_dvd d1 d2⟩
  refine ⟨fun a b c => diag_lin u a b c, fun a b c => diag_lin w a b c, fun v hv k hk => ?_, fun v hv k hk => ?_, fun S G hgen => ⟨fun j hj => ?_, fun g hgm => ?_⟩, fun S G hgen => ⟨fun j hj => ?_, fun g' hgm => ?_⟩, fun v hv => (inv v hv w u fun _ => rfl).1, fun v hv => (inv v hv u w fun _ => Int.mul_comm _ _).2⟩
  · show u k * v k = 0
    rw [hv k hk, Int.mul_zero]
  · show w k * v k = 0
    rw [hv k hk, Int.mul_zero]
  · show S fun i => u i * eU j (oddI (ss.getD j 0)) i
    rw [eU_mul]
    exact grp_scale G _ (hgen.1 j hj)
  · show S fun i => u i * fv (sub2 g (gs.headD [])) i
    have a := hgen.2 (f g) (List.mem_map_of_mem hgm)
    rw [hh, hs (hfl _ (hl g hgm)) (hfl _ h0)] at a
    rw [hs (hl g hgm) h0]
    refine grp_cong G (n := ss.length) hgen.1 (fun i hi => hf _ _ (hl g hgm) h0 i hi) (fun i hi => ?_) a
    show fv (f g) i - fv (f (gs.headD [])) i = u i * (fv g i - fv (gs.headD []) i)
    rw [out (hfl _ (hl g hgm)) hi, out (hfl _ h0) hi, out (hl g hgm) hi, out h0 hi]
    simp
  · show S fun i => w i * eU j (oddI (ss.getD j 0)) i
    rw [eU_mul]
    exact grp_scale G _ (hgen.1 j hj)
  · obtain ⟨g, hgm1, rfl⟩ := List.mem_map.mp hgm
    replace hgm := hgm1
    show S fun i => w i * fv (sub2 (f g) ((gs.map f).headD [])) i
    have a := hgen.2 g hgm
    rw [hs (hl g hgm) h0] at a
    rw [hh, hs (hfl _ (hl g hgm)) (hfl _ h0)]
    refine grp_cong G (n := ss.length) hgen.1 (fun i hi => ?_) (fun i hi => ?_) a
    · have e1 := Int.dvd_mul_of_dvd_right (b := w i) (hf _ _ (hl g hgm) h0 i hi)
      have e2 := Int.dvd_mul_of_dvd_left (c := fv g i - fv (gs.headD []) i) (huw i hi)
      have e3 := Int.dvd_sub e2 e1
      have e4 : (1 - w i * u i) * (fv g i - fv (gs.headD []) i) - w i * (fv (f g) i - fv (f (gs.headD [])) i - u i * (fv g i - fv (gs.headD []) i)) = fv g i - fv (gs.headD []) i - w i * (fv (f g) i - fv (f (gs.headD [])) i) := by
        rw [Int.sub_mul, Int.one_mul, Int.mul_sub (w i) (fv (f g) i - fv (f (gs.headD [])) i), Int.mul_assoc]
        omega
      rw [e4] at e3
      exact e3
    · show fv g i - fv (gs.headD []) i = w i * (fv (f g) i - fv (f (gs.headD [])) i)
      rw [out (hfl _ (hl g hgm)) hi, out (hfl _ h0) hi, out (hl g hgm) hi, out h0 hi]
      simp
/-- seats moved ring by ring: the count and the words stay -/
theorem diag_same {ss : List Int} {gs : List (List Int)} (z : Sz ss) (hg : gs ≠ []) (hl : ∀ g ∈ gs, g.length = ss.length) (f : List Int → List Int) (u w : Nat → Int) (hfl : ∀ g, g.length = ss.length → (f g).length = ss.length) (huw : ∀ i, i < ss.length → oddI (ss.getD i 0) ∣ 1 - w i * u i)
    (hf : ∀ g g0, g.length = ss.length → g0.length = ss.length → ∀ i, i < ss.length → oddI (ss.getD i 0) ∣ (fv (f g) i - fv (f g0) i) - u i * (fv g i - fv g0 i)) : cosetI ss (gs.map f) = cosetI ss gs ∧ ∀ x, x.length = ss.length → wordI ss (gs.map f) (f x) = wordI ss gs x := by
  have T := tr_diag hg hl f u w hfl huw hf
  have hg' : gs.map f ≠ [] := fun e => hg (List.map_eq_nil_iff.mp e)
  have hl' : ∀ g ∈ gs.map f, g.length = ss.length := fun g h => by
    obtain ⟨y, hy, rfl⟩ := List.mem_map.mp h
    exact hfl _ (hl y hy)
  have hh : (gs.map f).headD [] = f (gs.headD []) := by
    cases gs with
    | nil => exact absurd rfl hg
    | cons g gs => rfl
  have h0 := hl _ (headD_mem hg)
  refine ⟨T.coset z hg hl z hg' hl', fun x hx => T.word z hg hl z hg' hl' hx (hfl x hx) ?_⟩
  rw [hh, fv_sub (by rw [hfl x hx, hfl _ h0]), fv_sub (by rw [hx, h0])]
  refine free_dvd (fun i hi => ?_) fun i hi => ?_
  · have := hf x (gs.headD []) hx h0 i hi
    simp only [dif]
    rw [show ∀ a b : Int, a + -1 * b = a - b from fun a b => by omega]
    exact this
  · simp only [dif]
    rw [fv_out (l := f x) (by rw [hfl x hx]; exact hi), fv_out (l := f (gs.headD [])) (by rw [hfl _ h0]; exact hi), fv_out (l := x) (by omega), fv_out (l := gs.headD []) (by omega)]
    simp

theorem coset_odds {ss ss' : List Int} {gs : List (List Int)} (h : oddsI ss' = oddsI ss) : cosetI ss' gs = cosetI ss gs := by
  have hl : ss'.length = ss.length := by rw [← odds_len (ss := ss'), h, odds_len]
  unfold cosetI shiftB
  rw [h, hl]
/-! ### the rings in the other order -/
def revF (n : Nat) (v : Nat → Int) : Nat → Int := fun i => if i < n then v (n - 1 - i) else 0
theorem revF_lin (n : Nat) (u v : Nat → Int) (c : Int) : revF n (fun i => u i + c * v i) = fun i => revF n u i + c * revF n v i := by
  funext i
  unfold revF
  split
  · rfl
  · rw [Int.mul_zero]; rfl
theorem revF_eU {n j : Nat} (hj : j < n) (x : Int) : revF n (eU j x) = eU (n - 1 - j) x := by
  funext i
  unfold revF eU
  by_cases h : i < n
  · rw [if_pos h]
    by_cases e : n - 1 - i = j
    · rw [if_pos e, if_pos (by omega)]
    · rw [if_neg e, if_neg (by omega)]
  · rw [if_neg h, if_neg (by omega)]
theorem getD_rev {l : List Int} {i : Nat} (h : i < l.length) : l.reverse.getD i 0 = l.getD (l.length - 1 - i) 0 := by
  rw [getD_getD, getD_getD, List.getElem?_reverse h]
theorem revF_fv {n : Nat} {l : List Int} (h : l.length = n) : revF n (fv l) = fv l.reverse := by
  funext i
  unfold revF
  by_cases hi : i < n
  · rw [if_pos hi]
    unfold fv
    rw [getD_rev (by omega), h]
  · rw [if_neg hi, fv_out (by rw [List.length_reverse]; omega)]
theorem revF_twice {n : Nat} {v : Nat → Int} (h : ∀ k, n ≤ k → v k = 0) : revF n (revF n v) = v := by
  funext i
  unfold revF
  by_cases hi : i < n
  · rw [if_pos hi, if_pos (by omega), show n - 1 - (n - 1 - i) = i by omega]
  · rw [if_neg hi, h i (by omega)]
theorem sub2_rev {a b : List Int} (h : a.length = b.length) : sub2 a.reverse b.reverse = (sub2 a b).reverse := by
  unfold sub2
  rw [List.reverse_zipWith h]
theorem dif_self (v : Nat → Int) : dif v v = fun _ => 0 := by
  funext i
  simp only [dif]
  omega
theorem tr_rev {ss : List Int} {gs : List (List Int)} (hg : gs ≠ []) (hl : ∀ g ∈ gs, g.length = ss.length) : Tr ss gs ss.reverse (gs.map List.reverse) (revF ss.length) (revF ss.length) := by
  have hh : (gs.map List.reverse).headD [] = (gs.headD []).reverse := by
    cases gs with
    | nil => exact absurd rfl hg
    | cons g gs => rfl
  have h0 := hl _ (headD_mem hg)
  have hsl : ∀ {g : List Int}, g.length = ss.length → (sub2 g (gs.headD [])).length = ss.length := fun {g} h => by
    unfold sub2
    rw [List.length_zipWith, h, h0, Nat.min_self]
  refine ⟨revF_lin _, revF_lin _, fun v _ k hk => ?_, fun v _ k hk => ?_, fun S G hgen => ⟨fun j hj => ?_, fun g hgm => ?_⟩, fun S G hgen => ⟨fun j hj => ?_, fun g' hgm => ?_⟩, fun v hv => ?_, fun v hv => ?_⟩
  · unfold revF
    rw [if_neg (by rw [List.length_reverse] at hk; omega)]
  · unfold revF
    rw [if_neg (by omega)]
  · show S (revF ss.length (eU j (oddI (ss.getD j 0))))
    rw [revF_eU hj]
    have a := hgen.1 (ss.length - 1 - j) (by rw [List.length_reverse]; omega)
    rw [getD_rev (by omega), show ss.length - 1 - (ss.length - 1 - j) = j by omega] at a
    exact a
  · show S (revF ss.length (fv (sub2 g (gs.headD []))))
    have a := hgen.2 g.reverse (List.mem_map_of_mem hgm)
    rw [hh, sub2_rev (by rw [hl g hgm, h0])] at a
    rw [revF_fv (hsl (hl g hgm))]
    exact a
  · show S (revF ss.length (eU j (oddI (ss.reverse.getD j 0))))
    rw [List.length_reverse] at hj
    rw [revF_eU hj, getD_rev hj]
    exact hgen.1 _ (by omega)
  · obtain ⟨g, hgm1, rfl⟩ := List.mem_map.mp hgm
    show S (revF ss.length (fv (sub2 g.reverse ((gs.map List.reverse).headD []))))
    rw [hh, sub2_rev (by rw [hl g hgm1, h0]), revF_fv (by rw [List.length_reverse]; exact hsl (hl g hgm1)), List.reverse_reverse]
    exact hgen.2 g hgm1
  · rw [revF_twice hv, dif_self]
    exact (free_grp _ _).zero
  · rw [revF_twice (fun k hk => hv k (by rw [List.length_reverse]; exact hk)), dif_self]
    exact (free_grp _ _).zero
/-! ### one ring more, of size 1 -/
def consF (v : Nat → Int) : Nat → Int := fun i => match i with
  | 0 => 0
  | i + 1 => v i
def tailF (v : Nat → Int) : Nat → Int := fun i => v (i + 1)
theorem consF_fv (l : List Int) : consF (fv l) = fv (0 :: l) := by
  funext i
  cases i with
  | zero => rfl
  | succ i => rfl
theorem tr_one {ss : List Int} {gs : List (List Int)} (hg : gs ≠ []) : Tr ss gs (1 :: ss) (gs.map fun g => 0 :: g) consF tailF := by
  have hh : (gs.map fun g => (0 : Int) :: g).headD [] = 0 :: gs.headD [] := by
    cases gs with
    | nil => exact absurd rfl hg
    | cons g gs => rfl
  have hs : ∀ a b : List Int, sub2 (0 :: a) (0 :: b) = 0 :: sub2 a b := fun a b => rfl
  refine ⟨fun u v c => ?_, fun u v c => rfl, fun v hv k hk => ?_, fun v hv k hk => hv (k + 1) (by simp; omega), fun S G hgen => ⟨fun j hj => ?_, fun g hgm => ?_⟩, fun S G hgen => ⟨fun j hj => ?_, fun g' hgm => ?_⟩, fun v hv => ?_, fun v hv => ?_⟩
  · funext i
    cases i with
    | zero => show (0 : Int) = 0 + c * 0; rw [Int.mul_zero]; rfl
    | succ i => rfl
  · cases k with
    | zero => rfl
    | succ k => exact hv k (by simp at hk; omega)
  · have a := hgen.1 (j + 1) (by simp; omega)
    have e : consF (eU j (oddI (ss.getD j 0))) = eU (j + 1) (oddI ((1 :: ss).getD (j + 1) 0)) := by
      funext i
      cases i with
      | zero => unfold eU; rw [if_neg (by omega)]; rfl
      | succ i =>
        show eU j _ i = eU (j + 1) _ (i + 1)
        unfold eU
        by_cases h : i = j
        · rw [if_pos h, if_pos (by omega)]; rfl
        · rw [if_neg h, if_neg (by omega)]
    show S (consF _)
    rw [e]
    exact a
  · have a := hgen.2 (0 :: g) (List.mem_map.mpr ⟨g, hgm, rfl⟩)
    rw [hh, hs] at a
    show S (consF _)
    rw [consF_fv]
    exact a
  · show S (tailF _)
    cases j with
    | zero =>
      have e : ∀ x, tailF (eU 0 x) = fun _ => 0 := fun x => by
        funext i
        show eU 0 x (i + 1) = 0
        unfold eU
        rw [if_neg (by omega)]
      rw [e]
      exact G.zero
    | succ j =>
      have e : tailF (eU (j + 1) (oddI ((1 :: ss).getD (j + 1) 0))) = eU j (oddI (ss.getD j 0)) := by
        funext i
        show eU (j + 1) _ (i + 1) = eU j _ i
        unfold eU
        by_cases h : i = j
        · rw [if_pos h, if_pos (by omega)]; rfl
        · rw [if_neg h, if_neg (by omega)]
      rw [e]
      exact hgen.1 j (by simp at hj; omega)
  · obtain ⟨g, hgm1, rfl⟩ := List.mem_map.mp hgm
    show S (tailF (fv (sub2 (0 :: g) ((gs.map fun g => 0 :: g).headD []))))
    rw [hh, hs]
    exact hgen.2 g hgm1
  · rw [show tailF (consF v) = v from rfl, dif_self]
    exact (free_grp _ _).zero
  · refine free_dvd (fun i hi => ?_) fun i hi => ?_
    · cases i with
      | zero =>
        have e : oddI ((1 :: ss).getD 0 0) = 1 := by
          show oddI 1 = 1
          have a := oddI_dvd (s := 1) (by decide)
          have b := oddI_pos (s := 1) (by decide)
          have := Int.le_of_dvd (by decide) a
          omega
        rw [e]
        exact Int.one_dvd _
      | succ i =>
        have e : dif v (consF (tailF v)) (i + 1) = 0 := by
          show v (i + 1) + -1 * v (i + 1) = 0
          omega
        rw [e]
        exact Int.dvd_zero _
    · cases i with
      | zero => simp at hi
      | succ i =>
        show v (i + 1) + -1 * v (i + 1) = 0
        omega

/-! ### one ring for two -/
theorem bezout (m n : Nat) : ∃ s t : Int, s * m + t * n = (Nat.gcd m n : Nat) := by
  induction m, n using Nat.gcd.induction with
  | H0 n => exact ⟨0, 1, by rw [Nat.gcd_zero_left]; omega⟩
  | H1 m n hm ih =>
    obtain ⟨s, t, e⟩ := ih
    refine ⟨t - s * (n / m : Nat), s, ?_⟩
    rw [Nat.gcd_rec, ← e]
    have h : ((n % m : Nat) : Int) = n - (n / m : Nat) * m := by
      have := Nat.mod_add_div n m
      have h2 : ((n % m : Nat) : Int) + m * (n / m : Nat) = n := by rw [← Int.natCast_mul, ← Int.natCast_add, this]
      rw [Int.mul_comm ((n / m : Nat) : Int)]
      omega
    rw [h, Int.sub_mul, Int.mul_sub, ← Int.mul_assoc]
    omega
theorem oddI_one {x : Int} (h : 1 ≤ x) (ho : x % 2 = 1) : oddI x = x := by
  obtain ⟨k, e, _⟩ := oddI_split h
  cases k with
  | zero => rw [Int.pow_zero, Int.mul_one] at e; exact e.symm
  | succ k =>
    rw [Int.pow_succ, ← Int.mul_assoc] at e
    omega
theorem tr_prod {a b oa ob s t : Int} (xs : List Int) (hx : xs ≠ []) (ea : oddI a = oa) (eb : oddI b = ob) (eab : oddI (a * b) = oa * ob) (da : oa ∣ a) (db : ob ∣ b) (hst : s * oa + t * ob = 1) :
    Tr [a * b] (xs.map fun x => [x]) [a, b] (xs.map fun x => [x % a, x % b]) (fun v i => if i < 2 then v 0 else 0) (fun v i => if i = 0 then t * ob * v 0 + s * oa * v 1 else 0) := by
  obtain ⟨x0, xr, rfl⟩ : ∃ x0 xr, xs = x0 :: xr := by
    cases xs with
    | nil => exact absurd rfl hx
    | cons x0 xr => exact ⟨x0, xr, rfl⟩
  have h1 : (((x0 :: xr).map fun x => [x]).headD []) = [x0] := rfl
  have h2 : (((x0 :: xr).map fun x => [x % a, x % b]).headD []) = [x0 % a, x0 % b] := rfl
  have dmod : ∀ x c o : Int, o ∣ c → o ∣ (x % c - x0 % c) - (x - x0) := fun x c o h => by
    have e1 := Int.emod_add_mul_ediv x c
    have e2 := Int.emod_add_mul_ediv x0 c
    have e : (x % c - x0 % c) - (x - x0) = c * (x0 / c) - c * (x / c) := by omega
    rw [e]
    exact Int.dvd_sub (Int.dvd_mul_of_dvd_left h) (Int.dvd_mul_of_dvd_left h)
  refine ⟨fun u v c => ?_, fun u v c => ?_, fun v _ k hk => if_neg (by simp at hk; omega), fun v _ k hk => if_neg (by simp at hk; omega), fun S G hgen => ⟨fun j hj => ?_, fun g hgm => ?_⟩, fun S G hgen => ⟨fun j hj => ?_, fun g' hgm => ?_⟩, fun v hv => ?_, fun v hv => ?_⟩
  · funext i
    show (if i < 2 then u 0 + c * v 0 else 0) = (if i < 2 then u 0 else 0) + c * (if i < 2 then v 0 else 0)
    split
    · rfl
    · rw [Int.mul_zero]; rfl
  · funext i
    show (if i = 0 then t * ob * (u 0 + c * v 0) + s * oa * (u 1 + c * v 1) else 0) = (if i = 0 then t * ob * u 0 + s * oa * u 1 else 0) + c * (if i = 0 then t * ob * v 0 + s * oa * v 1 else 0)
    split
    · rw [Int.mul_add, Int.mul_add, Int.mul_add, Int.mul_left_comm _ c, Int.mul_left_comm _ c]
      omega
    · rw [Int.mul_zero]; rfl
  · have hj0 : j = 0 := by simp at hj; omega
    subst hj0
    show S fun i => if i < 2 then eU 0 (oddI (a * b)) 0 else 0
    have g0 : S (eU 0 oa) := by have := hgen.1 0 (by simp); rw [← ea]; exact this
    have g1 : S (eU 1 ob) := by have := hgen.1 1 (by simp); rw [← eb]; exact this
    have g2 := G.add _ _ oa (grp_scale G ob g0) g1
    have e : (fun i => ob * eU 0 oa i + oa * eU 1 ob i) = fun i => if i < 2 then eU 0 (oddI (a * b)) 0 else 0 := by
      funext i
      rw [eab]
      unfold eU
      match i with
      | 0 => simp [Int.mul_comm]
      | 1 => simp
      | i + 2 => rw [if_neg (by omega), if_neg (by omega), if_neg (by omega), Int.mul_zero, Int.mul_zero]; rfl
    rw [← e]
    exact g2
  · obtain ⟨x, hxm, rfl⟩ := List.mem_map.mp hgm
    have g := hgen.2 [x % a, x % b] (List.mem_map.mpr ⟨x, hxm, rfl⟩)
    rw [h2] at g
    rw [h1]
    refine grp_cong G (n := 2) (o := fun i => oddI ([a, b].getD i 0)) hgen.1 (fun i hi => ?_) (fun i hi => ?_) g
    · match i, hi with
      | 0, _ =>
        show oddI a ∣ (x % a - x0 % a) - (x - x0)
        rw [ea]
        exact dmod x a oa da
      | 1, _ =>
        show oddI b ∣ (x % b - x0 % b) - (x - x0)
        rw [eb]
        exact dmod x b ob db
    · show fv (sub2 [x % a, x % b] [x0 % a, x0 % b]) i = if i < 2 then _ else 0
      rw [if_neg (by omega), fv_out (by simpa [sub2] using hi)]
  · have hj2 : j = 0 ∨ j = 1 := by simp at hj; omega
    have g0 : S (eU 0 (oa * ob)) := by have := hgen.1 0 (by simp); rw [← eab]; exact this
    rcases hj2 with rfl | rfl
    · show S fun i => if i = 0 then t * ob * eU 0 (oddI a) 0 + s * oa * eU 0 (oddI a) 1 else 0
      have e : (fun i => t * eU 0 (oa * ob) i) = fun i => if i = 0 then t * ob * eU 0 (oddI a) 0 + s * oa * eU 0 (oddI a) 1 else 0 := by
        funext i
        rw [ea]
        unfold eU
        by_cases h : i = 0
        · rw [if_pos h, if_pos h, if_pos rfl, if_neg (by omega), Int.mul_zero, Int.add_zero, Int.mul_assoc, Int.mul_comm ob]
        · rw [if_neg h, if_neg h, Int.mul_zero]
      rw [← e]
      exact grp_scale G t g0
    · show S fun i => if i = 0 then t * ob * eU 1 (oddI b) 0 + s * oa * eU 1 (oddI b) 1 else 0
      have e : (fun i => s * eU 0 (oa * ob) i) = fun i => if i = 0 then t * ob * eU 1 (oddI b) 0 + s * oa * eU 1 (oddI b) 1 else 0 := by
        funext i
        rw [eb]
        unfold eU
        by_cases h : i = 0
        · rw [if_pos h, if_pos h, if_pos rfl, if_neg (by omega), Int.mul_zero, Int.zero_add, Int.mul_assoc]
        · rw [if_neg h, if_neg h, Int.mul_zero]
      rw [← e]
      exact grp_scale G s g0
  · obtain ⟨x, hxm, rfl⟩ := List.mem_map.mp hgm
    have g := hgen.2 [x] (List.mem_map.mpr ⟨x, hxm, rfl⟩)
    rw [h1] at g
    rw [h2]
    refine grp_cong G (n := 1) (o := fun i => oddI ([a * b].getD i 0)) hgen.1 (fun i hi => ?_) (fun i hi => ?_) g
    · have hi0 : i = 0 := by omega
      subst hi0
      show oddI (a * b) ∣ (x - x0) - (t * ob * (x % a - x0 % a) + s * oa * (x % b - x0 % b))
      rw [eab]
      obtain ⟨q1, e1⟩ := dmod x a oa da
      obtain ⟨q2, e2⟩ := dmod x b ob db
      rw [show x % a - x0 % a = (x - x0) + oa * q1 by omega, show x % b - x0 % b = (x - x0) + ob * q2 by omega]
      refine ⟨-(t * q1) - s * q2, ?_⟩
      have e3 : (x - x0) = (s * oa + t * ob) * (x - x0) := by rw [hst, Int.one_mul]
      generalize x - x0 = y at e3 ⊢
      rw [Int.mul_add, Int.mul_add, Int.mul_sub, Int.mul_neg]
      rw [Int.add_mul] at e3
      rw [show t * ob * (oa * q1) = oa * ob * (t * q1) by rw [Int.mul_comm t, Int.mul_assoc, Int.mul_left_comm t, ← Int.mul_assoc ob, Int.mul_comm ob], show s * oa * (ob * q2) = oa * ob * (s * q2) by rw [Int.mul_comm s, Int.mul_assoc, Int.mul_left_comm s, ← Int.mul_assoc oa]]
      omega
    · show fv (sub2 [x] [x0]) i = if i = 0 then _ else 0
      rw [if_neg (by omega), fv_out (by simpa [sub2] using hi)]
  · have e : dif v (fun i => if i = 0 then t * ob * (if (0 : Nat) < 2 then v 0 else 0) + s * oa * (if (1 : Nat) < 2 then v 0 else 0) else 0) = fun _ => 0 := by
      funext i
      simp only [dif]
      by_cases h : i = 0
      · subst h
        rw [if_pos rfl, if_pos (by omega), if_pos (by omega), ← Int.add_mul, show t * ob + s * oa = 1 by omega]
        omega
      · rw [if_neg h, hv i (by simp; omega)]
        rfl
    show Free _ _ (dif v fun i => if i = 0 then t * ob * (if (0 : Nat) < 2 then v 0 else 0) + s * oa * (if (1 : Nat) < 2 then v 0 else 0) else 0)
    rw [e]
    exact (free_grp _ _).zero
  · refine free_dvd (fun i hi => ?_) fun i hi => ?_
    · match i, hi with
      | 0, _ =>
        show oddI a ∣ v 0 + -1 * (t * ob * v 0 + s * oa * v 1)
        rw [ea]
        refine ⟨s * v 0 - s * v 1, ?_⟩
        have e3 : v 0 = (s * oa + t * ob) * v 0 := by rw [hst, Int.one_mul]
        rw [Int.add_mul] at e3
        rw [Int.mul_sub, Int.mul_left_comm oa s, Int.mul_left_comm oa s, ← Int.mul_assoc, ← Int.mul_assoc]
        omega
      | 1, _ =>
        show oddI b ∣ v 1 + -1 * (t * ob * v 0 + s * oa * v 1)
        rw [eb]
        refine ⟨t * v 1 - t * v 0, ?_⟩
        have e3 : v 1 = (s * oa + t * ob) * v 1 := by rw [hst, Int.one_mul]
        rw [Int.add_mul] at e3
        rw [Int.mul_sub, Int.mul_left_comm ob t, Int.mul_left_comm ob t, ← Int.mul_assoc, ← Int.mul_assoc]
        omega
    · show v i + -1 * (if i < 2 then _ else 0) = 0
      have hi2 : 2 ≤ i := by simpa using hi
      rw [if_neg (by omega), hv i hi]
      rfl

theorem oddI_pow {o : Int} (h : 1 ≤ o) (ho : o % 2 = 1) : ∀ k : Nat, oddI (o * 2 ^ k) = o := fun k => by
  have hp : (1 : Int) ≤ 2 ^ k := Int.pow_pos (by decide)
  have h1 : 1 ≤ o * 2 ^ k := by
    have := Int.mul_le_mul_of_nonneg_left hp (show 0 ≤ o by omega)
    omega
  obtain ⟨l, e, e2⟩ := oddI_split h1
  have hq := oddI_pos h1
  have d1 : o ∣ oddI (o * 2 ^ k) := odd_dvd ho (by rw [← e]; exact Int.dvd_mul_right _ _)
  have d2 : oddI (o * 2 ^ k) ∣ o := odd_dvd e2 (by exact oddI_dvd h1)
  have := Int.le_of_dvd (by omega) d1
  have := Int.le_of_dvd (by omega) d2
  omega
theorem oddI_mul {a b : Int} (ha : 1 ≤ a) (hb : 1 ≤ b) : oddI (a * b) = oddI a * oddI b := by
  obtain ⟨k, e1, o1⟩ := oddI_split ha
  obtain ⟨l, e2, o2⟩ := oddI_split hb
  have p1 := oddI_pos ha
  have p2 := oddI_pos hb
  have e : a * b = oddI a * oddI b * 2 ^ (k + l) := by
    rw [Int.pow_add]
    generalize oddI a = x at *
    generalize oddI b = y at *
    rw [e1, e2, Int.mul_assoc, Int.mul_left_comm (2 ^ k), ← Int.mul_assoc]
  rw [e]
  refine oddI_pow ?_ ?_ _
  · have := Int.mul_pos p1 p2
    omega
  · rw [Int.mul_emod, o1, o2]
    rfl
theorem map_ne {gs : List (List Int)} (hg : gs ≠ []) (f : List Int → List Int) : gs.map f ≠ [] := fun e => hg (List.map_eq_nil_iff.mp e)
theorem map_head {gs : List (List Int)} (hg : gs ≠ []) (f : List Int → List Int) : (gs.map f).headD [] = f (gs.headD []) := by
  cases gs with
  | nil => exact absurd rfl hg
  | cons g gs => rfl
theorem map_len {gs : List (List Int)} {n m : Nat} (hl : ∀ g ∈ gs, g.length = n) {f : List Int → List Int} (hf : ∀ g, g.length = n → (f g).length = m) : ∀ g ∈ gs.map f, g.length = m := fun g h => by
  obtain ⟨y, hy, rfl⟩ := List.mem_map.mp h
  exact hf _ (hl y hy)
theorem rev_same {ss : List Int} {gs : List (List Int)} (z : Sz ss) (z' : Sz ss.reverse) (hg : gs ≠ []) (hl : ∀ g ∈ gs, g.length = ss.length) : cosetI ss.reverse (gs.map List.reverse) = cosetI ss gs ∧ ∀ x, x.length = ss.length → wordI ss.reverse (gs.map List.reverse) x.reverse = wordI ss gs x := by
  have T := tr_rev hg hl
  have hl' := map_len (m := ss.reverse.length) hl (f := List.reverse) fun g h => by rw [List.length_reverse, List.length_reverse, h]
  have h0 := hl _ (headD_mem hg)
  refine ⟨T.coset z hg hl z' (map_ne hg _) hl', fun x hx => T.word z hg hl z' (map_ne hg _) hl' hx (by rw [List.length_reverse, List.length_reverse, hx]) ?_⟩
  rw [map_head hg, sub2_rev (by rw [hx, h0]), revF_fv (by unfold sub2; rw [List.length_zipWith, hx, h0, Nat.min_self]), dif_self]
  exact (free_grp _ _).zero
theorem one_same {ss : List Int} {gs : List (List Int)} (z : Sz ss) (z' : Sz (1 :: ss)) (hg : gs ≠ []) (hl : ∀ g ∈ gs, g.length = ss.length) : cosetI (1 :: ss) (gs.map fun g => 0 :: g) = cosetI ss gs ∧ ∀ x, x.length = ss.length → wordI (1 :: ss) (gs.map fun g => 0 :: g) (0 :: x) = wordI ss gs x := by
  have T := tr_one (ss := ss) hg
  have hl' := map_len (m := (1 :: ss).length) hl (f := fun g => 0 :: g) fun g h => by rw [List.length_cons, List.length_cons, h]
  refine ⟨T.coset z hg hl z' (map_ne hg _) hl', fun x hx => T.word z hg hl z' (map_ne hg _) hl' hx (by rw [List.length_cons, List.length_cons, hx]) ?_⟩
  rw [map_head hg, show sub2 (0 :: x) (0 :: gs.headD []) = 0 :: sub2 x (gs.headD []) from rfl, consF_fv, dif_self]
  exact (free_grp _ _).zero
theorem two_same {ss : List Int} {gs : List (List Int)} {k : Nat} {s : Int} (hs : ss[k]? = some s) (h1 : 1 ≤ s) : cosetI (ss.set k (s * 2)) gs = cosetI ss gs := by
  refine coset_odds ?_
  unfold oddsI
  rw [List.map_set]
  have e : oddI (s * 2) = oddI s := by
    obtain ⟨j, e1, e2⟩ := oddI_split h1
    have p := oddI_pos h1
    generalize ho : oddI s = o at *
    rw [e1, Int.mul_assoc, ← Int.pow_succ]
    exact oddI_pow p e2 _
  rw [e]
  refine List.ext_getElem? fun i => ?_
  rw [List.getElem?_set]
  by_cases h : k = i
  · subst h
    have hk : k < ss.length := (List.getElem?_eq_some_iff.mp hs).1
    rw [if_pos rfl, if_pos (by rw [List.length_map]; exact hk), List.getElem?_map, hs]
    rfl
  · rw [if_neg h]
theorem prod_same {a b : Int} (ha : 1 ≤ a) (hb : 1 ≤ b) (hc : Nat.gcd a.natAbs b.natAbs = 1) (z : Sz [a * b]) (z' : Sz [a, b]) {xs : List Int} (hx : xs ≠ []) : cosetI [a, b] (xs.map fun x => [x % a, x % b]) = cosetI [a * b] (xs.map fun x => [x]) ∧ ∀ x, wordI [a, b] (xs.map fun x => [x % a, x % b]) [x % a, x % b] = wordI [a * b] (xs.map fun x => [x]) [x] := by
  have p1 := oddI_pos ha
  have p2 := oddI_pos hb
  have da := oddI_dvd ha
  have db := oddI_dvd hb
  have hg : Nat.gcd (oddI a).natAbs (oddI b).natAbs = 1 := Nat.Coprime.coprime_dvd_left (Int.natAbs_dvd_natAbs.mpr da) (Nat.Coprime.coprime_dvd_right (Int.natAbs_dvd_natAbs.mpr db) hc)
  obtain ⟨s, t, hst⟩ := bezout (oddI a).natAbs (oddI b).natAbs
  rw [hg, Int.natAbs_of_nonneg (by omega), Int.natAbs_of_nonneg (by omega)] at hst
  have T := tr_prod xs hx rfl rfl (oddI_mul ha hb) da db hst
  have n1 : (xs.map fun x => [x]) ≠ [] := fun e => hx (List.map_eq_nil_iff.mp e)
  have n2 : (xs.map fun x => [x % a, x % b]) ≠ [] := fun e => hx (List.map_eq_nil_iff.mp e)
  have l1 : ∀ g ∈ xs.map (fun x => [x]), g.length = [a * b].length := fun g h => by
    obtain ⟨y, _, rfl⟩ := List.mem_map.mp h
    rfl
  have l2 : ∀ g ∈ xs.map (fun x => [x % a, x % b]), g.length = [a, b].length := fun g h => by
    obtain ⟨y, _, rfl⟩ := List.mem_map.mp h
    rfl
  refine ⟨T.coset z n1 l1 z' n2 l2, fun x => T.word z n1 l1 z' n2 l2 (x := [x]) (x' := [x % a, x % b]) rfl rfl ?_⟩
  obtain ⟨x0, xr, rfl⟩ : ∃ x0 xr, xs = x0 :: xr := by
    cases xs with
    | nil => exact absurd rfl hx
    | cons x0 xr => exact ⟨x0, xr, rfl⟩
  have dmod : ∀ c o : Int, o ∣ c → o ∣ (x % c - x0 % c) + -1 * (x - x0) := fun c o h => by
    have e1 := Int.emod_add_mul_ediv x c
    have e2 := Int.emod_add_mul_ediv x0 c
    have e : (x % c - x0 % c) + -1 * (x - x0) = c * (x0 / c) - c * (x / c) := by omega
    rw [e]
    exact Int.dvd_sub (Int.dvd_mul_of_dvd_left h) (Int.dvd_mul_of_dvd_left h)
  refine free_dvd (fun i hi => ?_) fun i hi => ?_
  · match i, hi with
    | 0, _ => exact dmod a _ da
    | 1, _ => exact dmod b _ db
  · show fv (sub2 [x % a, x % b] [x0 % a, x0 % b]) i + -1 * (if i < 2 then _ else 0) = 0
    have hi2 : 2 ≤ i := by simpa using hi
    rw [if_neg (by omega), fv_out (by simpa [sub2] using hi2)]
    rfl

/-! ### targets and probes of k15, k18 -/
section
variable {P : Program} {w : World} {K : PySem.W.Frag} {mg : Str → Option Value} {base : Heap}
theorem Src.ne_of {H : Hp} {a p : Addr} {o : HO} (h : Src H a) (hp : H p = some o) (d : ∀ x y z : Int, o ≠ .lst [.int x, .int y, .int z]) : p ≠ a := fun e => by
  obtain ⟨x, y, z, h⟩ := h
  rw [e, h] at hp
  exact d x y z (Option.some.inj hp).symm
theorem TabAt.sx {C : Addr} {H H' : Hp} {a b : Addr} {ss : List Int} (h : TabAt C H b ss) (hs : Src H a) (s : Sx a H H') : TabAt C H' b ss := by
  obtain ⟨dx, t, h1, h2⟩ := h
  exact ⟨dx, t, s _ _ (hs.ne_of h1 fun _ _ _ => by simp) h1, s _ _ (hs.ne_of h2 fun _ _ _ => by simp) h2⟩
theorem LstT.sx {H H' : Hp} {a b : Addr} {hss : List (List Int)} (h : LstT H b hss) (hne : hss ≠ []) (hs : Src H a) (s : Sx a H H') : LstT H' b hss := by
  obtain ⟨as, h1, h2⟩ := h
  have hl : as ≠ [] := fun e => hne (by
    have := h2.1
    rw [e] at this
    exact List.eq_nil_of_length_eq_zero this.symm)
  refine ⟨as, s _ _ (hs.ne_of h1 fun x y z => ?_) h1, h2.1, fun i t g a1 a2 => ?_⟩
  · cases as with
    | nil => exact absurd rfl hl
    | cons u as => simp
  · have := h2.2 i t g a1 a2
    exact s _ _ (hs.ne_of this fun _ _ _ => by simp) this
theorem LstT.tgt {H : Hp} {b : Addr} {hss : List (List Int)} (h : LstT H b hss) : TgtAt true H b hss := h
theorem seat_bits {ss ps : List Int} (z : Sz ss) (hS : Seat ss ps) : ∀ x ∈ ps, x.natAbs < 2 ^ 1000 := fun x hx => by
  obtain ⟨i, hi, e⟩ := List.getElem_of_mem hx
  have hi2 : i < ss.length := by rw [← hS.len]; exact hi
  obtain ⟨h0, h1⟩ := hS.ok i x _ (by rw [List.getElem?_eq_getElem hi, e]) (List.getElem?_eq_getElem hi2)
  have := z.bits _ (List.getElem_mem hi2)
  omega
theorem tms_seat {k : Int} {ss ps : List Int} (hs : ∀ s ∈ ss, 1 ≤ s) (hl : ps.length = ss.length) : Seat ss (tms k ps ss) := by
  refine ⟨tms_len hl, fun i p s hp hs' => ?_⟩
  have hi : i < ps.length := by rw [hl]; exact (List.getElem?_eq_some_iff.mp hs').1
  have e := zw_get (g := fun p s => k * p % s) (List.getElem?_eq_getElem hi) hs'
  unfold tms at hp
  rw [e] at hp
  obtain rfl := Option.some.inj hp
  have := hs s (List.mem_of_getElem? hs')
  exact ⟨Int.emod_nonneg _ (by omega), Int.emod_lt_of_pos _ (by omega)⟩
def sp_law_goals (K : PySem.W.Frag) : Sp := fun vs H Q _ => ∃ (a l : Addr) (ss : List Int), vs = [.ref a, .ref l] ∧ Src H a ∧ H l = some (.lst (ss.map V.int)) ∧ l ≠ a ∧ Sz ss ∧ ∀ H' L gs, Sx a H H' → Src H' a → H L = none → LstT H' L gs → Tgts ss gs → gs.length ≤ 5 → Q (.ref L) H'
theorem ok_law_goals (T : Tx K mg) : FnOk P w K mg base CX0 4 T.f_law_goals T.fd_law_goals ["_law_source_here", "_law_sizes_here"] (sp_law_goals K) := by
  refine T.F_law_goals.ok sc_law_goals (fun vs H Q E h => ?_) (fun cdv A outer s H vs Q E hr h => ?_)
  · obtain ⟨a, l, ss, rfl, _⟩ := h; rfl
  · obtain ⟨a, l, ss, rfl, hs, hl, nla, z, q⟩ := h
    refine ⟨_, (pss_cons (ps_set (i := 2) sc_law_goals.nd rfl (Or.inl rfl) (pe_ix ix_lH (pe_lst (pa_cons pe_int (pa_cons pe_int (pa_cons pe_int (pa_cons pe_int (pa_cons pe_int pa_nil)))))) (pe_call (ok_law_take T) (hr.mono (by decide)) (by rfl) T.g_law_take T.F_law_take.kp T.b_law_take .nil pass0 (pa_cons (pv 0) (pa_cons pe_int pa_nil))) (fun _ _ => rfl)))
      (pss_cons (ps_set (i := 3) sc_law_goals.nd rfl (Or.inl rfl) (pe_call (ok_law_seat T) (hr.mono (by decide)) (by rfl) T.g_law_seat T.F_law_seat.kp T.b_law_seat .nil pass0 (pa_cons (pv 0) (pa_cons (pv 1) pa_nil))))
      (pss_cons (ps_set (i := 4) sc_law_goals.nd rfl (Or.inl rfl) (pe_lst (pa_cons (pv 3) pa_nil)))
      (pss_cons (ps_for PassesOwn.never rfl (pi_range1H (by rfl) T.n_range (pa_cons (pe_call (ok_law_take T) (hr.mono (by decide)) (by rfl) T.g_law_take T.F_law_take.kp T.b_law_take .nil pass0 (pa_cons (pv 0) (pa_cons pe_int pa_nil))) pa_nil)) (pg_name (i := 5) sc_law_goals.nd rfl (Or.inl rfl))
        (pss_cons (ps_set (i := 6) sc_law_goals.nd rfl (Or.inl rfl) (pe_call (ok_law_sum T) (hr.mono (by decide)) (by rfl) T.g_law_sum T.F_law_sum.kp T.b_law_sum .nil pass0 (pa_cons (pv 3) (pa_cons (pe_call (ok_law_times T) (hr.mono (by decide)) (by rfl) T.g_law_times T.F_law_times.kp T.b_law_times .nil pass0 (pa_cons (pv 2) (pa_cons (pe_call (ok_law_seat T) (hr.mono (by decide)) (by rfl) T.g_law_seat T.F_law_seat.kp T.b_law_seat .nil pass0 (pa_cons (pv 0) (pa_cons (pv 1) pa_nil))) (pa_cons (pv 1) pa_nil)))) (pa_cons (pv 1) pa_nil)))))
        (pss_one (ps_if (pt_cmpR (op_notInDK (K := K) rfl hr.units1) (pv 6) (pv 4) rfl) (pss_one (ps_expr (pe_append (pv 4) (pa_cons (pv 6) pa_nil)))) pss_nil))))
      (pss_one (ps_ret (pv 4))))))), ?_⟩
    walk_at "rd"
    intro p hp
    have npa : p ≠ a := hs.ne hp
    have sp := Same.new hp (o := .lst [V.int 1, V.int 3, V.int 9, V.int 15, V.int 5])
    refine ⟨a, 5, rfl, hs.same sp, by decide, take_small (by decide) (by decide), fun H1 r s1 hs1 r0 r1 => ⟨r, rfl, _, s1 _ _ npa upd_same, ?_⟩⟩
    obtain ⟨f, hf, ef⟩ := atI_ints (ns := [1, 3, 9, 15, 5]) r0 r1
    have hf2 : 1 ≤ f ∧ f ≤ 15 := by
      simp only [List.mem_cons, List.mem_nil_iff, or_false] at hf
      omega
    have hl1 := s1 _ _ nla (sp _ _ hl)
    refine ⟨_, ef, a, l, ss, rfl, hs1, hl1, nla, z, fun H2 b ps s2 hs2 hnb hb hSb => ?_⟩
    intro D hD
    have nDa : D ≠ a := hs2.ne hD
    have nba : b ≠ a := hs2.ne_of hb fun _ _ _ => by simp
    have sD := Same.new hD (o := .lst [V.ref b])
    have s02 : Sx a H H2 := (Sx.of sp).trans (s1.trans s2)
    have hHD : H D = none := s02.free nDa hD
    refine ⟨a, 5, rfl, hs2.same sD, by decide, take_small (by decide) (by decide), fun H3 r3 s3 hs3 r30 r31 => ⟨r3, rfl, by omega, by omega, fun J W => ?_⟩⟩
    have s03 : Sx a H H3 := s02.trans ((Sx.of sD).trans s3)
    refine forr W (fun i σ H' => ∃ gs v5 v6, σ = [some (V.ref a), some (V.ref l), some (V.int f), some (V.ref b), some (V.ref D), v5, v6] ∧ Sx a H H' ∧ Src H' a ∧ H' l = some (.lst (ss.map V.int)) ∧ H' b = some (.tup (ps.map V.int)) ∧ LstT H' D gs ∧ Tgts ss gs ∧ gs.length ≤ i + 1)
      ⟨[ps], none, none, rfl, s03, hs3, s03 _ _ nla hl, s3 _ _ nba (sD _ _ hb), ⟨[b], s3 _ _ nDa upd_same, AsT.nil.snoc (s3 _ _ nba (sD _ _ hb))⟩, ⟨by simp, by simp, by simp, fun g hg => by rw [List.mem_singleton.mp hg]; exact hSb⟩, by simp⟩ (fun _ _ _ _ _ => trivial) ?_ ?_
    · rintro i x σ H4o H4 hi ⟨gs, v5, v6, rfl, s4, hs4, hl4, hb4, hL4, hT, hlen⟩ ⟨rfl, rfl⟩
      walk_at "rd"
      refine ⟨a, l, ss, rfl, hs4, hl4, nla, z, fun H6 u us s6 hs6 hnu hu hSu => ?_⟩
      refine ⟨f, u, l, ss, us, rfl, hu, s6 _ _ nla hl4, hSu.len, z, fun x hx => .inl (by omega), fun H7 t s7 ht => ?_⟩
      have htl : (tms f us ss).length = ss.length := tms_len hSu.len
      refine ⟨b, t, l, ss, ps, _, rfl, s7 _ _ (s6 _ _ nba hb4), ht, s7 _ _ (s6 _ _ nla hl4), hSb.len, htl, z, fun H8 o s8 ho => ?_⟩
      have hSo : Seat ss (mv fw ps (tms f us ss) ss) := mv_seat hSb.len htl z.pos
      generalize mv fw ps (tms f us ss) ss = os at ho hSo
      have s48 : Sx a H4 H8 := s6.trans (Sx.of (s7.trans s8))
      have hs8 : Src H8 a := hs6.same (s7.trans s8)
      have hL8 := LstT.sx hL4 hT.ne hs4 s48
      have s08 : Sx a H H8 := s4.trans s48
      refine notInD_tups ho hL8 ⟨_, rfl, ?_⟩
      by_cases hm : os ∈ gs
      · rw [decide_eq_true hm, if_neg (by decide)]
        exact ⟨s08, hs8, s48 _ _ nla hl4, s48 _ _ nba hb4, gs, hL8, hT, by omega⟩
      · rw [decide_eq_false hm, if_pos (by decide)]
        obtain ⟨as, hLa, hA⟩ := id hL8
        have nDs : ∀ {q : Addr} {qs : List Int}, H8 q = some (.tup (qs.map V.int)) → q ≠ D := fun h => ne_two h hLa (by simp)
        refine ⟨⟨_, hLa⟩, _, hLa, ?_, fun c o' nc hc => ?_, hs8.put nDa.symm, ?_, ?_, gs ++ [os], ⟨as ++ [o], by rw [upd_same, List.map_append]; rfl, ?_⟩, ⟨by simp, ?_, ?_, ?_⟩, ?_⟩
        · rw [List.length_map, hA.1]
          exact Nat.lt_of_lt_of_le hT.few (by decide)
        · rw [upd_ne (ne_some hc hHD)]
          exact s08 _ _ nc hc
        · rw [upd_ne (ne_some hl hHD)]
          exact s48 _ _ nla hl4
        · have hb8 := s48 _ _ nba hb4
          rw [upd_ne (nDs hb8)]
          exact hb8
        · have hA2 := hA.snoc ho
          refine ⟨hA2.1, fun j t' g a1 a2 => ?_⟩
          have h3 := hA2.2 j t' g a1 a2
          rw [upd_ne (nDs h3)]
          exact h3
        · rw [List.nodup_append]
          refine ⟨hT.nd, by simp, fun x hx y hy => ?_⟩
          rw [List.mem_singleton] at hy
          subst hy
          exact fun e => hm (e ▸ hx)
        · rw [List.length_append, List.length_singleton]
          omega
        · intro g hg
          rcases List.mem_append.mp hg with h | h
          · exact hT.ok g h
          · rw [List.mem_singleton.mp h]; exact hSo
        · rw [List.length_append, List.length_singleton]
          omega
    · rintro σ H4 ⟨gs, v5, v6, rfl, s4, hs4, hl4, hb4, hL4, hT, hlen⟩
      walk_at "rd"
      exact q H4 D gs s4 hs4 hHD hL4 hT (by omega)
theorem atI_refs {as : List Addr} {i : Int} (h0 : 0 ≤ i) (h1 : i < as.length) : ∃ (k : Nat) (a : Addr), as[k]? = some a ∧ atI (as.map V.ref) i = some (.ref a) := by
  obtain ⟨k, rfl⟩ := Int.eq_ofNat_of_zero_le h0
  have hk : k < as.length := by omega
  have e := List.getElem?_eq_getElem hk
  exact ⟨k, as[k], e, atI_nat (by rw [List.getElem?_map, e]; rfl)⟩
def sp_law_probe (K : PySem.W.Frag) : Sp := fun vs H Q _ => ∃ (a l L : Addr) (ss : List Int) (gs : List (List Int)), vs = [.ref a, .ref l, .ref L] ∧ Src H a ∧ H l = some (.lst (ss.map V.int)) ∧ l ≠ a ∧ Sz ss ∧ LstT H L gs ∧ gs ≠ [] ∧ gs.length ≤ 60 ∧ (∀ g ∈ gs, Seat ss g) ∧ ∀ H' p ps, Sx a H H' → Src H' a → H' p = some (.tup (ps.map V.int)) → Seat ss ps → Q (.ref p) H'
theorem ok_law_probe (T : Tx K mg) : FnOk P w K mg base CX0 4 T.f_law_probe T.fd_law_probe ["_law_source_here", "_law_sizes_here", "_law_goals_here"] (sp_law_probe K) := by
  refine T.F_law_probe.ok sc_law_probe (fun vs H Q E h => ?_) (fun cdv A outer s H vs Q E hr h => ?_)
  · obtain ⟨a, l, L, ss, gs, rfl, _⟩ := h; rfl
  · obtain ⟨a, l, L, ss, gs, rfl, hs, hl, nla, z, hL, hne, h60, hSt, q⟩ := h
    refine ⟨_, (pss_cons (ps_set (i := 3) sc_law_probe.nd rfl (Or.inl rfl) (pe_ix ix_lH (pv 2) (pe_call (ok_law_take T) (hr.mono (by decide)) (by rfl) T.g_law_take T.F_law_take.kp T.b_law_take .nil pass0 (pa_cons (pv 0) (pa_cons (pe_callB len_H (by rfl) T.n_len PySem.boot_len (pa_cons (pv 2) pa_nil)) pa_nil))) (fun _ _ => rfl)))
      (pss_cons (ps_set (i := 4) sc_law_probe.nd rfl (Or.inl rfl) (pe_call (ok_law_times T) (hr.mono (by decide)) (by rfl) T.g_law_times T.F_law_times.kp T.b_law_times .nil pass0 (pa_cons (pe_ix ix_lH (pe_lst (pa_cons pe_int (pa_cons pe_int (pa_cons pe_int (pa_cons pe_int (pa_cons pe_int pa_nil)))))) (pe_call (ok_law_take T) (hr.mono (by decide)) (by rfl) T.g_law_take T.F_law_take.kp T.b_law_take .nil pass0 (pa_cons (pv 0) (pa_cons pe_int pa_nil))) (fun _ _ => rfl)) (pa_cons (pe_call (ok_law_seat T) (hr.mono (by decide)) (by rfl) T.g_law_seat T.F_law_seat.kp T.b_law_seat .nil pass0 (pa_cons (pv 0) (pa_cons (pv 1) pa_nil))) (pa_cons (pv 1) pa_nil)))))
      (pss_one (ps_ret (pe_ix ix_lH (pe_lst (pa_cons (pe_call (ok_law_seat T) (hr.mono (by decide)) (by rfl) T.g_law_seat T.F_law_seat.kp T.b_law_seat .nil pass0 (pa_cons (pv 0) (pa_cons (pv 1) pa_nil))) (pa_cons (pe_call (ok_law_sum T) (hr.mono (by decide)) (by rfl) T.g_law_sum T.F_law_sum.kp T.b_law_sum .nil pass0 (pa_cons (pv 3) (pa_cons (pv 4) (pa_cons (pv 1) pa_nil)))) (pa_cons (pv 3) pa_nil)))) (pe_call (ok_law_take T) (hr.mono (by decide)) (by rfl) T.g_law_take T.F_law_take.kp T.b_law_take .nil pass0 (pa_cons (pv 0) (pa_cons pe_int pa_nil))) (fun _ _ => rfl)))))), ?_⟩
    walk_at "rd"
    obtain ⟨as, hLa, hA⟩ := id hL
    have hlen : 0 < as.length := by rw [hA.1]; exact List.length_pos_iff.mpr hne
    have hal : as.length ≤ 60 := by rw [hA.1]; exact h60
    have nLa : L ≠ a := hs.ne_of hLa fun x y z => by
      cases as with
      | nil => simp at hlen
      | cons u as => simp
    refine .inl ⟨_, hLa, a, _, rfl, hs, by rw [List.length_map]; omega, take_small (by rw [List.length_map]; omega) (by rw [List.length_map]; omega), fun H1 r s1 hs1 r0 r1 => ⟨r, rfl, _, s1 _ _ nLa hLa, ?_⟩⟩
    obtain ⟨k, b, hb, eb⟩ := atI_refs (as := as) r0 (by rw [List.length_map] at r1; exact r1)
    have hkg : k < gs.length := by rw [← hA.1]; exact (List.getElem?_eq_some_iff.mp hb).1
    have hbH := hA.2 k b _ hb (List.getElem?_eq_getElem hkg)
    have hSb := hSt _ (List.getElem_mem hkg)
    generalize gs[k] = bs at hbH hSb
    have nba : b ≠ a := hs.ne_of hbH fun _ _ _ => by simp
    refine ⟨_, eb, fun p hp => ?_⟩
    have npa : p ≠ a := hs1.ne hp
    have sp := Same.new hp (o := .lst [V.int 1, V.int 3, V.int 9, V.int 15, V.int 45])
    refine ⟨a, 5, rfl, hs1.same sp, by decide, take_small (by decide) (by decide), fun H2 r2 s2 hs2 r20 r21 => ⟨r2, rfl, _, s2 _ _ npa upd_same, ?_⟩⟩
    obtain ⟨f, hf, ef⟩ := atI_ints (ns := [1, 3, 9, 15, 45]) r20 r21
    have hf2 : 1 ≤ f ∧ f ≤ 45 := by
      simp only [List.mem_cons, List.mem_nil_iff, or_false] at hf
      omega
    have s02 : Sx a H H2 := s1.trans ((Sx.of sp).trans s2)
    refine ⟨_, ef, a, l, ss, rfl, hs2, s02 _ _ nla hl, nla, z, fun H3 u us s3 hs3 hnu hu hSu => ?_⟩
    have s03 := s02.trans s3
    refine ⟨f, u, l, ss, us, rfl, hu, s03 _ _ nla hl, hSu.len, z, fun x hx => .inl (by omega), fun H4 t s4 ht => ?_⟩
    have s04 := s03.trans (Sx.of s4)
    have htl : (tms f us ss).length = ss.length := tms_len hSu.len
    refine ⟨a, l, ss, rfl, hs3.same s4, s04 _ _ nla hl, nla, z, fun H5 o os s5 hs5 hno ho hSo => ?_⟩
    have s05 := s04.trans s5
    have nta : t ≠ a := (hs3.same s4).ne_of ht fun _ _ _ => by simp
    refine ⟨b, t, l, ss, bs, _, rfl, s05 _ _ nba hbH, s5 _ _ nta ht, s05 _ _ nla hl, hSb.len, htl, z, fun H6 d s6 hd => fun w hw => ?_⟩
    have hSd : Seat ss (mv fw bs (tms f us ss) ss) := mv_seat hSb.len htl z.pos
    generalize mv fw bs (tms f us ss) ss = ds at hd hSd
    have nwa : w ≠ a := (hs5.same s6).ne hw
    have sw := Same.new hw (o := .lst [V.ref o, V.ref d, V.ref b])
    refine ⟨a, 3, rfl, (hs5.same s6).same sw, by decide, take_small (by decide) (by decide), fun H7 r7 s7 hs7 r70 r71 => ⟨r7, rfl, _, s7 _ _ nwa upd_same, ?_⟩⟩
    have s07 : Sx a H H7 := s05.trans ((Sx.of (s6.trans sw)).trans s7)
    have noa : o ≠ a := hs5.ne_of ho fun _ _ _ => by simp
    have nda : d ≠ a := (hs5.same s6).ne_of hd fun _ _ _ => by simp
    have ho7 := s7 _ _ noa ((s6.trans sw) _ _ ho)
    have hd7 := s7 _ _ nda (sw _ _ hd)
    have hb7 := s07 _ _ nba hbH
    have hr7 : r7 = 0 ∨ r7 = 1 ∨ r7 = 2 := by omega
    rcases hr7 with rfl | rfl | rfl
    · exact ⟨_, atI_0, q H7 o os s07 hs7 ho7 hSo⟩
    · exact ⟨_, atI_1, q H7 d ds s07 hs7 hd7 hSd⟩
    · exact ⟨_, atI_2, q H7 b bs s07 hs7 hb7 hSb⟩
end

/-! ### k15's draws -/
section
variable {P : Program} {w : World} {K : PySem.W.Frag} {mg : Str → Option Value} {base : Heap}
def sp_law_unit (K : PySem.W.Frag) : Sp := fun vs H Q _ => ∃ (a : Addr) (n : Int), vs = [.ref a, .int n] ∧ Src H a ∧ 1 ≤ n ∧ ∀ H' u, Sx a H H' → Src H' a → 1 ≤ u → u ≤ 1000000 * n + 1 → Nat.gcd u.natAbs n.natAbs = 1 → Q (.int u) H'
theorem ok_law_unit (T : Tx K mg) : FnOk P w K mg base CX0 3 T.f_law_unit T.fd_law_unit ["_law_source_here", "_law_size"] (sp_law_unit K) := by
  refine T.F_law_unit.ok sc_law_unit (fun vs H Q E h => ?_) (fun cdv A outer s H vs Q E hr h => ?_)
  · obtain ⟨a, n, rfl, _⟩ := h; rfl
  · obtain ⟨a, n, rfl, hs, hn, q⟩ := h
    refine ⟨_, (pss_cons (ps_set (i := 2) sc_law_unit.nd rfl (Or.inl rfl) (pe_op op_add pe_int (pe_call (ok_law_take T) (hr.mono (by decide)) (by rfl) T.g_law_take T.F_law_take.kp T.b_law_take .nil pass0 (pa_cons (pv 0) (pa_cons (pe_op op_pow pe_int pe_int) pa_nil)))))
      (pss_cons (ps_while PassesOwn.never (pt_cmpR op_ne (pe_call (ok_law_gcd T) (hr.mono (by decide)) (by rfl) T.g_law_gcd T.F_law_gcd.kp T.b_law_gcd .nil pass0 (pa_cons (pv 2) (pa_cons (pv 1) pa_nil))) pe_int (nomark _)) (pss_one (ps_set (i := 2) sc_law_unit.nd rfl (Or.inl rfl) (pe_op op_add (pv 2) pe_int))))
      (pss_one (ps_ret (pv 2))))), ?_⟩
    walk_at "rd"
    refine ⟨a, 1000000, rfl, hs, by decide, take_small (by decide) (by decide), fun H1 t s1 hs1 t0 t1 => ⟨t, rfl, ?_⟩⟩
    have htop : Nat.gcd ((1 + t) * n + 1).natAbs n.natAbs = 1 := by
      have d1 := cd_of (Nat.gcd_dvd_right ((1 + t) * n + 1).natAbs n.natAbs)
      have d2 := cd_of (Nat.gcd_dvd_left ((1 + t) * n + 1).natAbs n.natAbs)
      have d3 := Int.dvd_sub d2 (Int.dvd_mul_of_dvd_right (b := 1 + t) d1)
      rw [show (1 + t) * n + 1 - (1 + t) * n = ((1 : Nat) : Int) by omega] at d3
      exact Nat.dvd_one.mp (Int.natCast_dvd_natCast.mp d3)
    have hup : (1 + t) * n ≤ 1000000 * n := Int.mul_le_mul_of_nonneg_right (by omega) (by omega)
    have hle : 1 + t ≤ (1 + t) * n := by
      have := Int.mul_le_mul_of_nonneg_left hn (show 0 ≤ 1 + t by omega)
      omega
    refine while_by (fun σ H' => H' = H1 ∧ ∃ c : Int, σ = [some (V.ref a), some (V.int n), some (V.int c)] ∧ 1 ≤ c ∧ c ≤ (1 + t) * n + 1) (fun σ _ => match σ with | [_, _, some (V.int c)] => ((1 + t) * n + 1 - c).toNat | _ => 0) ⟨rfl, 1 + t, rfl, by omega, by omega⟩ ?_ ?_
    · rintro σ H2 ⟨rfl, c, rfl, hc, hct⟩
      walk_at "rd"
      refine ⟨c, n, rfl, rfl, ?_⟩
      by_cases h0 : Nat.gcd c.natAbs n.natAbs = 1
      · rw [h0, if_neg (fun h => h rfl)]
        exact q _ c s1 hs1 hc (by omega) h0
      · rw [if_pos (fun h => h0 (by injection h with h; omega))]
        have hne : c ≠ (1 + t) * n + 1 := fun e => h0 (by rw [e]; exact htop)
        exact ⟨rfl, by omega, by omega, by omega⟩
    · intro σ H2 Q1 Q2 h hq
      obtain ⟨v, e, v2, e2, a2, b2, e3, hq⟩ := hq
      exact ⟨v, e, v2, e2, a2, b2, e3, by
        obtain ⟨hc, k, e4, hq⟩ := hq
        exact ⟨hc, k, e4, h _ _ hq⟩⟩
end

/-! ### k15: what a table answers -/
/-- the words of reach for the probes, and the number of cosets -/
def ansV (ss : List Int) (gs ps : List (List Int)) : List V := (ps.map fun p => V.str (wordI ss gs p)) ++ [.int (cosetI ss gs)]
theorem word_two (ss : List Int) (gs : List (List Int)) (p : List Int) : wordI ss gs p = "reachable" ∨ wordI ss gs p = "unreachable" := by
  unfold wordI
  cases reachI ss gs p with
  | none => exact .inl rfl
  | some c => exact .inr rfl
theorem ans_flat (ss : List Int) (gs ps : List (List Int)) : ∀ v ∈ ansV ss gs ps, Flat0 v := fun v hv => by
  unfold ansV at hv
  rcases List.mem_append.mp hv with h | h
  · obtain ⟨p, _, rfl⟩ := List.mem_map.mp h
    rcases word_two ss gs p with e | e
    · rw [e]; exact (by decide +kernel : PyData.canLay0 (.str "reachable") = true)
    · rw [e]; exact (by decide +kernel : PyData.canLay0 (.str "unreachable") = true)
  · rw [List.mem_singleton.mp h]; trivial

/-! ### seats moved ring by ring, and invertible -/
theorem fv_get {l : List Int} {i : Nat} {x : Int} (h : l[i]? = some x) : fv l i = x := by
  unfold fv
  rw [getD_getD, h]
  rfl
theorem ss_get {ss : List Int} {i : Nat} (h : i < ss.length) : ss[i]? = some (ss.getD i 0) := by
  rw [getD_getD, List.getElem?_eq_getElem h]
  rfl
theorem way_same {ss : List Int} {gs ps : List (List Int)} (z : Sz ss) (hgs : Tgts ss gs) (hps : ∀ p ∈ ps, Seat ss p) (f : List Int → List Int) (u w c : Nat → Int)
    (hseat : ∀ g, Seat ss g → Seat ss (f g)) (hlen : ∀ g : List Int, g.length = ss.length → (f g).length = ss.length) (huw : ∀ i, i < ss.length → ss.getD i 0 ∣ 1 - w i * u i)
    (hf : ∀ g, g.length = ss.length → ∀ i, i < ss.length → ss.getD i 0 ∣ fv (f g) i - u i * fv g i - c i) :
    ansV ss (gs.map f) (ps.map f) = ansV ss gs ps ∧ Tgts ss (gs.map f) ∧ ∀ p ∈ ps.map f, Seat ss p := by
  have hl : ∀ g ∈ gs, g.length = ss.length := fun g h => (hgs.ok g h).len
  have pos : ∀ i, i < ss.length → 1 ≤ ss.getD i 0 := fun i hi => z.pos _ (List.mem_of_getElem? (ss_get hi))
  have dodd : ∀ i x, i < ss.length → ss.getD i 0 ∣ x → oddI (ss.getD i 0) ∣ x := fun i x hi h => Int.dvd_trans (oddI_dvd (pos i hi)) h
  have dif2 : ∀ g g0, g.length = ss.length → g0.length = ss.length → ∀ i, i < ss.length → ss.getD i 0 ∣ (fv (f g) i - fv (f g0) i) - u i * (fv g i - fv g0 i) := fun g g0 h h0 i hi => by
    have e := Int.dvd_sub (hf g h i hi) (hf g0 h0 i hi)
    rw [show fv (f g) i - u i * fv g i - c i - (fv (f g0) i - u i * fv g0 i - c i) = (fv (f g) i - fv (f g0) i) - u i * (fv g i - fv g0 i) by rw [Int.mul_sub]; omega] at e
    exact e
  obtain ⟨e1, e2⟩ := diag_same z hgs.ne hl f u w hlen (fun i hi => dodd i _ hi (huw i hi)) (fun g g0 h h0 i hi => dodd i _ hi (dif2 g g0 h h0 i hi))
  have inj : ∀ g g0, Seat ss g → Seat ss g0 → f g = f g0 → g = g0 := fun g g0 h h0 e => by
    refine List.ext_getElem (by rw [h.len, h0.len]) fun i hi hi0 => ?_
    have his : i < ss.length := by rw [← h.len]; exact hi
    have d := dif2 g g0 h.len h0.len i his
    rw [e, fv_get (List.getElem?_eq_getElem hi), fv_get (List.getElem?_eq_getElem hi0), Int.sub_self, Int.zero_sub] at d
    have d1 := Int.dvd_mul_of_dvd_right (b := w i) (Int.dvd_neg.mp d)
    have d2 := Int.dvd_mul_of_dvd_left (c := g[i] - g0[i]) (huw i his)
    have d3 := Int.dvd_add d2 d1
    rw [Int.sub_mul, Int.one_mul, Int.mul_assoc, show ∀ a b : Int, a - b + b = a from fun a b => by omega] at d3
    obtain ⟨a1, a2⟩ := h.ok i _ _ (List.getElem?_eq_getElem hi) (ss_get his)
    obtain ⟨b1, b2⟩ := h0.ok i _ _ (List.getElem?_eq_getElem hi0) (ss_get his)
    obtain ⟨k, hk⟩ := d3
    generalize ss.getD i 0 = m at *
    have hm : 0 < m := by omega
    have : k = 0 := by
      rcases Int.lt_trichotomy k 0 with hlt | h0 | hgt
      · have := Int.mul_le_mul_of_nonneg_left (show k ≤ -1 by omega) (Int.le_of_lt hm)
        omega
      · exact h0
      · have := Int.mul_le_mul_of_nonneg_left (show 1 ≤ k by omega) (Int.le_of_lt hm)
        omega
    subst this
    omega
  refine ⟨?_, ⟨fun e => hgs.ne (List.map_eq_nil_iff.mp e), ?_, by rw [List.length_map]; exact hgs.few, fun g h => ?_⟩, fun p h => ?_⟩
  · unfold ansV
    rw [e1, List.map_map]
    congr 1
    refine List.map_congr_left fun p hp => ?_
    show V.str (wordI ss (gs.map f) (f p)) = V.str (wordI ss gs p)
    rw [e2 p (hps p hp).len]
  · refine List.pairwise_map.mpr (List.Pairwise.imp_of_mem (fun {x y} hx hy hne e => hne (inj x y (hgs.ok x hx) (hgs.ok y hy) e)) hgs.nd)
  · obtain ⟨y, hy, rfl⟩ := List.mem_map.mp h
    exact hseat y (hgs.ok y hy)
  · obtain ⟨y, hy, rfl⟩ := List.mem_map.mp h
    exact hseat y (hps y hy)
/-- each place times its unit -/
def utm : List Int → List Int → List Int → List Int := mv fun u p => u * p
theorem mod_rest (x m : Int) : m ∣ x % m - x := by
  have := Int.emod_add_mul_ediv x m
  exact ⟨-(x / m), by rw [Int.mul_neg]; omega⟩
theorem fv_mv {g : Int → Int → Int} {ps cs ss : List Int} (h1 : ps.length = ss.length) (h2 : cs.length = ss.length) {i : Nat} (hi : i < ss.length) : fv (mv g ps cs ss) i = g (fv ps i) (fv cs i) % ss.getD i 0 := by
  have e1 := ss_get (ss := ps) (i := i) (by omega)
  have e2 := ss_get (ss := cs) (i := i) (by omega)
  exact fv_get (mv_get e1 e2 (ss_get hi))
theorem mv_seat2 {g : Int → Int → Int} {ps cs ss : List Int} (hs : ∀ s ∈ ss, 1 ≤ s) (h1 : ps.length = ss.length) (h2 : cs.length = ss.length) : Seat ss (mv g ps cs ss) := by
  have hl := mv_len (g := g) (by rw [h1, h2] : ps.length = cs.length) h2
  refine ⟨by rw [hl, h1], fun i p s hp hsi => ?_⟩
  have hi : i < ss.length := (List.getElem?_eq_some_iff.mp hsi).1
  have e := mv_get (g := g) (ss_get (ss := ps) (i := i) (by omega)) (ss_get (ss := cs) (i := i) (by omega)) hsi
  rw [e] at hp
  obtain rfl := Option.some.inj hp
  have := hs s (List.mem_of_getElem? hsi)
  exact ⟨Int.emod_nonneg _ (by omega), Int.emod_lt_of_pos _ (by omega)⟩
/-- the units of the rings -/
structure Units (ss us : List Int) : Prop where
  len : us.length = ss.length
  ok : ∀ (i : Nat) u s, us[i]? = some u → ss[i]? = some s → 1 ≤ u ∧ u ≤ 1000000 * s + 1 ∧ Nat.gcd u.natAbs s.natAbs = 1
def wayF (ss gap us : List Int) : Nat → List Int → List Int
  | 0, g => mv fw g gap ss
  | 1, g => tms (-1) g ss
  | _, g => utm us g ss
theorem way_all {ss : List Int} {gs ps : List (List Int)} (z : Sz ss) (hgs : Tgts ss gs) (hps : ∀ p ∈ ps, Seat ss p) {gap us : List Int} (hg : Seat ss gap) (hu : Units ss us) (k : Nat) :
    ansV ss (gs.map (wayF ss gap us k)) (ps.map (wayF ss gap us k)) = ansV ss gs ps ∧ Tgts ss (gs.map (wayF ss gap us k)) ∧ ∀ p ∈ ps.map (wayF ss gap us k), Seat ss p := by
  match k with
  | 0 =>
    refine way_same z hgs hps _ (fun _ => 1) (fun _ => 1) (fun i => fv gap i) (fun g h => mv_seat2 z.pos h.len hg.len) (fun g h => by show (mv fw g gap ss).length = _; rw [mv_len (by rw [h, hg.len]) hg.len, h]) (fun i hi => by rw [show (1 : Int) - 1 * 1 = 0 by decide]; exact Int.dvd_zero _) fun g h i hi => ?_
    show _ ∣ fv (mv fw g gap ss) i - 1 * fv g i - fv gap i
    rw [fv_mv h hg.len hi]
    have := mod_rest (fv g i + fv gap i) (ss.getD i 0)
    rw [show fw (fv g i) (fv gap i) % ss.getD i 0 - 1 * fv g i - fv gap i = (fv g i + fv gap i) % ss.getD i 0 - (fv g i + fv gap i) by unfold fw; omega]
    exact this
  | 1 =>
    refine way_same z hgs hps _ (fun _ => -1) (fun _ => -1) (fun _ => 0) (fun g h => tms_seat z.pos h.len) (fun g h => tms_len h) (fun i hi => by rw [show (1 : Int) - -1 * -1 = 0 by decide]; exact Int.dvd_zero _) fun g h i hi => ?_
    show _ ∣ fv (tms (-1) g ss) i - -1 * fv g i - 0
    have e : fv (tms (-1) g ss) i = -1 * fv g i % ss.getD i 0 := fv_get (zw_get (g := fun p s => -1 * p % s) (ss_get (ss := g) (i := i) (by omega)) (ss_get hi))
    rw [e, Int.sub_zero]
    exact mod_rest _ _
  | k + 2 =>
    have hw : ∃ w : Nat → Int, ∀ i, i < ss.length → ss.getD i 0 ∣ 1 - w i * fv us i := by
      have h1 : ∀ i, ∃ x : Int, i < ss.length → ss.getD i 0 ∣ 1 - x * fv us i := fun i => by
        by_cases hi : i < ss.length
        · have eu := ss_get (ss := us) (i := i) (by rw [hu.len]; exact hi)
          obtain ⟨u1, _, u3⟩ := hu.ok i _ _ eu (ss_get hi)
          have hs1 := z.pos _ (List.mem_of_getElem? (ss_get hi))
          obtain ⟨s, t, hst⟩ := bezout (us.getD i 0).natAbs (ss.getD i 0).natAbs
          rw [u3, Int.natAbs_of_nonneg (by omega), Int.natAbs_of_nonneg (by omega)] at hst
          refine ⟨s, fun _ => ⟨t, ?_⟩⟩
          show 1 - s * us.getD i 0 = _
          rw [Int.mul_comm (ss.getD i 0) t]
          omega
        · exact ⟨0, fun h => absurd h hi⟩
      exact ⟨fun i => Classical.choose (h1 i), fun i => Classical.choose_spec (h1 i)⟩
    obtain ⟨w, hw⟩ := hw
    refine way_same z hgs hps _ (fun i => fv us i) w (fun _ => 0) (fun g h => mv_seat2 z.pos hu.len h.len) (fun g h => by show (mv _ us g ss).length = _; rw [mv_len (by rw [h, hu.len]) h, hu.len]) hw fun g h i hi => ?_
    show _ ∣ fv (mv (fun u p => u * p) us g ss) i - fv us i * fv g i - 0
    rw [fv_mv hu.len h hi, Int.sub_zero]
    exact mod_rest _ _

section
variable {P : Program} {w : World} {K : PySem.W.Frag} {mg : Str → Option Value} {base : Heap}
def sp_law_answers (K : PySem.W.Frag) : Sp := fun vs H Q _ => ∃ (l L B : Addr) (ss : List Int) (gs ps : List (List Int)), vs = [.ref l, .ref L, .ref B] ∧ H l = some (.lst (ss.map V.int)) ∧ LstT H L gs ∧ LstT H B ps ∧ Tgts ss gs ∧ Sz ss ∧ (∀ p ∈ ps, Seat ss p) ∧ ps.length ≤ 64 ∧
  ∀ H' D, Same H H' → H D = none → H' D = some (.lst (ansV ss gs ps)) → Q (.ref D) H'
theorem ok_law_answers (T : Tx K mg) : FnOk P w K mg base CX0 5 T.f_law_answers T.fd_law_answers ["_law_sizes_here", "_law_goals_here", "_law_probes"] (sp_law_answers K) := by
  refine T.F_law_answers.ok sc_law_answers (fun vs H Q E h => ?_) (fun cdv A outer s H vs Q E hr h => ?_)
  · obtain ⟨l, L, B, ss, gs, ps, rfl, _⟩ := h; rfl
  · obtain ⟨l, L, B, ss, gs, ps, rfl, hl, hL, hB, hgs, z, hps, h64, q⟩ := h
    refine ⟨_, (pss_cons (ps_set (i := 3) sc_law_answers.nd rfl (Or.inr rfl) (pe_make T.M_Table (ok_Table_init T) (hr.mono (by decide)) (by rfl) T.g_Table T.b_Table_init .nil pass0 (pa_cons (pv 0) pa_nil)))
      (pss_one (ps_ret (pe_op op_catS (pe_lc (own := [("_law_one", 4)]) (g := (gName 4)) (tt := tYes) rfl sc_law_answers.nd (pi_seqH (pv 2)) (blkOk_by (own := [("_law_one", 4)]) (N := N_law_answers) (sc := defScope d_law_answers) (by decide +kernel)) (fun _ _ _ _ _ => (pg_name (i := 4) sc_law_answers.nd rfl (Or.inl rfl))) (fun _ _ _ _ _ => pts_nil) (fun _ _ _ _ _ => (pe_ix ix_tH (pe_call (ok_reach T) (hr.mono (by decide)) (by rfl) T.g_reach T.F_reach.kp T.b_reach .nil pass0 (pa_cons (pv 3) (pa_cons (pv 1) (pa_cons (pv 4) pa_nil)))) pe_int (fun _ _ => rfl)))) (pe_lst (pa_cons (pe_call (ok_coset_count T) (hr.mono (by decide)) (by rfl) T.g_coset_count T.F_coset_count.kp T.b_coset_count .nil pass0 (pa_cons (pv 3) (pa_cons (pv 1) pa_nil))) pa_nil)))))), ?_⟩
    walk_at "rd"
    intro x dx hx hdx hne
    have s3 : Same H (upd (upd H dx (.own x)) x (.ins T.c_Table dx [])) := (Same.new hdx).trans (Same.new (by rw [upd_ne hne.symm]; exact hx))
    have f3 : (upd (upd H dx (.own x)) x (.ins T.c_Table dx [])) x = some (.ins T.c_Table dx []) := upd_same
    generalize upd (upd H dx (HO.own x)) x (HO.ins T.c_Table dx []) = H3 at s3 f3 ⊢
    refine ⟨x, dx, .ref l, l, true, ss, rfl, f3, rfl, s3 _ _ hl, z.lo, z.hi, z.pos, fun H4 t s4 h4 ht => ⟨rfl, ?_⟩⟩
    have s04 : Same H H4 := fun b o hb => s4 _ _ (ne_some hb hx) (s3 _ _ hb)
    have hT4 : TabAt T.c_Table H4 x ss := ⟨dx, t, h4, ht⟩
    have hL4 := hL.same s04
    obtain ⟨bs, hB4, hBs⟩ := hB.same s04
    refine .inl ⟨_, hB4, fun J W => ?_⟩
    refine lcr_map W (ps.map fun p => V.str (wordI ss gs p)) (by rw [List.length_map, List.length_map, hBs.1]) (by rw [List.length_map, hBs.1]; exact Nat.le_trans h64 (by decide)) (fun H5 s5 => s5 _ _ hB4) (fun _ _ _ _ y => YAt.same y) ?_ ?_
    · rintro i v H5 H6 y Qy hi s5 ⟨rfl, hv⟩ hr hq
      simp only [List.getElem?_map, Option.map_eq_some_iff] at hr hv
      obtain ⟨b, hb, rfl⟩ := hv
      obtain ⟨p, hp, rfl⟩ := hr
      have hpS := hps p (List.mem_of_getElem? hp)
      walk_at "rd"
      refine ⟨true, x, L, b, ss, gs, p, rfl, hT4.same s5, LstT.tgt (hL4.same s5), hgs, z, s5 _ _ (hBs.2 i b p hb hp), hpS, fun H7 D s7 hD => ?_⟩
      obtain ⟨xs, hD7⟩ := word_at hD
      exact ⟨D, rfl, _, hD7, _, atI_nat (j := 0) rfl, hq _ s7⟩
    · intro D H5 hD s5 h5
      refine ⟨true, x, L, ss, gs, rfl, hT4.same s5, LstT.tgt (hL4.same s5), hgs, z, fun H6 s6 p hp => ?_⟩
      have s7 := Same.new hp (o := .lst [.int (cosetI ss gs)])
      have f7 : (upd H6 p (.lst [.int (cosetI ss gs)])) p = some (.lst [.int (cosetI ss gs)]) := upd_same
      generalize upd H6 p (HO.lst [.int (cosetI ss gs)]) = H7 at s7 f7 ⊢
      refine ⟨D, rfl, _, .inl (.inl (s7 _ _ (s6 _ _ h5))), _, .inl (.inl f7), ?_, fun r hr => ?_⟩
      · rw [List.length_map]
        exact Nat.le_trans (by simp; omega : ps.length + [V.int (cosetI ss gs)].length ≤ 65) (by decide)
      · have s07 := ((s04.trans s5).trans s6).trans s7
        have hHr : H r = none := by
          cases e : H r with
          | none => rfl
          | some o => rw [s07 _ _ e] at hr; cases hr
        exact q _ r (s07.trans (Same.new hr)) hHr upd_same
end

section
variable {P : Program} {w : World} {K : PySem.W.Frag} {mg : Str → Option Value} {base : Heap}
theorem _root_.Cs.AsT.keep {H : Hp} {M : Addr} {xs : List V} {o : HO} {as : List Addr} {hs : List (List Int)} (h : AsT H as hs) (hM : H M = some (.lst xs)) : AsT (upd H M o) as hs := ⟨h.1, fun i t g h1 h2 => by
  have h3 := h.2 i t g h1 h2
  rw [upd_ne (ne_two h3 hM (by simp))]
  exact h3⟩
theorem _root_.Cs.AsT.app {H : Hp} {as bs : List Addr} {gs hs : List (List Int)} (h1 : AsT H as gs) (h2 : AsT H bs hs) : AsT H (as ++ bs) (gs ++ hs) := by
  refine ⟨by rw [List.length_append, List.length_append, h1.1, h2.1], fun i t g e1 e2 => ?_⟩
  by_cases hlt : i < as.length
  · rw [List.getElem?_append_left hlt] at e1
    rw [List.getElem?_append_left (by rw [← h1.1]; exact hlt)] at e2
    exact h1.2 i t g e1 e2
  · rw [List.getElem?_append_right (by omega)] at e1
    rw [List.getElem?_append_right (by rw [← h1.1]; omega), ← h1.1] at e2
    exact h2.2 _ t g e1 e2
theorem _root_.Cs.AsT.part {H : Hp} {as : List Addr} {hs : List (List Int)} (h : AsT H as hs) (d n : Nat) : AsT H ((as.drop d).take n) ((hs.drop d).take n) := by
  refine ⟨by rw [List.length_take, List.length_take, List.length_drop, List.length_drop, h.1], fun i t g e1 e2 => ?_⟩
  rw [List.getElem?_take] at e1 e2
  split at e1
  · rename_i hi
    rw [if_pos hi] at e2
    rw [List.getElem?_drop] at e1 e2
    exact h.2 _ t g e1 e2
  · cases e1
theorem cut_to {xs : List V} {n : Nat} (h : n ≤ xs.length) : cutV xs none (some (n : Int)) = xs.take n := by
  have e : HT.sIx xs.length xs.length (some (n : Int)) = n := by
    show (if (n : Int) < 0 then ((n : Int) + (xs.length : Int)).toNat else min (n : Int).toNat xs.length) = n
    rw [if_neg (by omega)]
    omega
  unfold cutV
  rw [e, show HT.sIx xs.length 0 none = 0 from rfl, List.drop_zero, Nat.sub_zero]
theorem cut_from {xs : List V} {n : Nat} (h : n ≤ xs.length) : cutV xs (some (n : Int)) none = xs.drop n := by
  have e : HT.sIx xs.length 0 (some (n : Int)) = n := by
    show (if (n : Int) < 0 then ((n : Int) + (xs.length : Int)).toNat else min (n : Int).toNat xs.length) = n
    rw [if_neg (by omega)]
    omega
  unfold cutV
  rw [e, show HT.sIx xs.length xs.length none = xs.length from rfl, List.take_of_length_le (by rw [List.length_drop]; omega)]
theorem cut_two {H : Hp} {L R : Addr} {gs ps : List (List Int)} {f : List Int → List Int} (hL : LstT H L gs) (hR : LstT H R ((gs ++ ps).map f)) :
    ∃ as ms : List Addr, H L = some (.lst (as.map V.ref)) ∧ H R = some (.lst (ms.map V.ref)) ∧ ∀ p, H p = none → (upd H p (HO.lst (cutV (ms.map V.ref) none (some ((as.map V.ref).length : Int))))) L = some (.lst (as.map V.ref)) ∧
      (upd H p (HO.lst (cutV (ms.map V.ref) none (some ((as.map V.ref).length : Int))))) R = some (.lst (ms.map V.ref)) ∧ ∀ p1, (upd H p (HO.lst (cutV (ms.map V.ref) none (some ((as.map V.ref).length : Int))))) p1 = none →
        ∀ H', H' = upd (upd H p (HO.lst (cutV (ms.map V.ref) none (some ((as.map V.ref).length : Int))))) p1 (HO.lst (cutV (ms.map V.ref) (some ((as.map V.ref).length : Int)) none)) → Same H H' ∧ LstT H' p (gs.map f) ∧ LstT H' p1 (ps.map f) := by
  obtain ⟨as, hLa, hA⟩ := hL
  obtain ⟨ms, hM6a, hms⟩ := hR
  have hml : ms.length = gs.length + ps.length := by rw [hms.1, List.length_map, List.length_append]
  have hn : (as.map V.ref).length = gs.length := by rw [List.length_map, hA.1]
  refine ⟨as, ms, hLa, hM6a, fun p hp => ?_⟩
  rw [hn, cut_to (by rw [List.length_map]; omega), cut_from (by rw [List.length_map]; omega), ← List.map_take, ← List.map_drop]
  have s7 := Same.new hp (o := .lst ((ms.take gs.length).map V.ref))
  have f7 : (upd H p (.lst ((ms.take gs.length).map V.ref))) p = some (.lst ((ms.take gs.length).map V.ref)) := upd_same
  generalize upd H p (HO.lst ((ms.take gs.length).map V.ref)) = H7 at s7 f7 ⊢
  refine ⟨s7 _ _ hLa, s7 _ _ hM6a, fun p2 hp2 H' e => ?_⟩
  have s8 := Same.new hp2 (o := .lst ((ms.drop gs.length).map V.ref))
  have f8 : (upd H7 p2 (.lst ((ms.drop gs.length).map V.ref))) p2 = some (.lst ((ms.drop gs.length).map V.ref)) := upd_same
  rw [← e] at s8 f8
  have hms8 := (hms.same s7).same s8
  refine ⟨s7.trans s8, ⟨_, s8 _ _ f7, ?_⟩, ⟨_, f8, ?_⟩⟩
  · have := hms8.part 0 gs.length
    rw [List.drop_zero, List.drop_zero, List.map_append, List.take_left' (by rw [List.length_map])] at this
    exact this
  · have := hms8.part gs.length ms.length
    rw [List.take_of_length_le (by rw [List.length_drop]; omega), List.take_of_length_le (by rw [List.length_drop, List.length_map, List.length_append]; omega), List.map_append, List.drop_left' (by rw [List.length_map])] at this
    exact this
theorem app_get {H : Hp} {C : Addr} {as bs : List Addr} (h : H C = some (.lst (as.map V.ref ++ bs.map V.ref))) : H C = some (.lst ((as ++ bs).map V.ref)) := by rw [h, List.map_append]
end

/-! ### comprehensions that make lists of tuples of ints -/
section
variable {P : Program} {w : World} {K : PySem.W.Frag} {mg : Str → Option Value} {base : Heap}
theorem lcr_tups {J : It} {n : Nat} {G : Hp → Prop} {Y : Nat → Hp → V → Hp → Prop} (w : Walk J n G Y) {g : TG} {te : TE} {vs : List Nat} {σ : L2.St} {H1 : Hp} {Q : VK} (f : Nat → List Int) (hn : n ≤ 1000)
    (hG : ∀ H, Same H1 H → G H) (hY : ∀ i x H H', Y i H x H' → Same H H')
    (hs : ∀ i x H H' (Qy : VK), i < n → Same H1 H → Y i H x H' → (∀ t H4, Same H' H4 → H4 t = some (.tup ((f i).map V.int)) → Qy (.ref t) H4) → g x (wipe σ vs) H' fun σ2 H2 => wipe σ2 vs = wipe σ vs ∧ te σ2 H2 Qy)
    (hd : ∀ D H, H1 D = none → Same H1 H → LstT H D ((List.range n).map f) → Q (.ref D) H) : LcR J g tYes te vs σ H1 Q := fun D hD => by
  refine lc_gen w (fun i acc H => Same H1 H ∧ (∃ ys, H D = some (.lst ys)) ∧ ∃ as, acc = as.map V.ref ∧ AsT H as ((List.range i).map f)) (Nat.le_trans hn (by decide)) ⟨Same.new hD, ⟨_, upd_same⟩, [], rfl, AsT.nil⟩ (fun i acc H _ h _ => hG H h.1) (fun i acc H l h _ => ?_) (fun i acc x H H' Qy hi ha h e hy hq => ?_) (fun acc H ha h e => ?_)
  · obtain ⟨h1, ⟨ys, h2⟩, as, h3, h4⟩ := h
    exact ⟨fun b o hb => by rw [upd_ne (ne_some hb hD)]; exact h1 _ _ hb, ⟨_, upd_same⟩, as, h3, h4.keep h2⟩
  · obtain ⟨h1, ⟨ys, h2⟩, as, h3, h4⟩ := h
    refine hs i x H H' Qy hi h1 hy fun t H4 s4 h5 => ?_
    have s04 := (hY _ _ _ _ hy).trans s4
    refine hq (.ref t) H4 (s04 _ _ e) ⟨h1.trans s04, ⟨_, s04 _ _ h2⟩, as ++ [t], by rw [h3, List.map_append]; rfl, ?_⟩
    rw [List.range_succ, List.map_append]
    exact (h4.same s04).snoc h5
  · obtain ⟨h1, _, as, h3, h4⟩ := h
    exact hd D H hD h1 ⟨as, by rw [← h3]; exact e, h4⟩
theorem lcr_tupsD {J : It} {n : Nat} {G : Hp → Prop} {Y : Nat → Hp → V → Hp → Prop} (w : Walk J n G Y) {g : TG} {te : TE} {vs : List Nat} {σ : L2.St} {H1 : Hp} {Q : VK} {a : Addr} (R : List Int → Prop) (hs1 : Src H1 a) (hn : n ≤ 1000)
    (hG : ∀ H, Sx a H1 H → G H) (hY : ∀ i x H H', Y i H x H' → Same H H')
    (hs : ∀ i x H H' (Qy : VK), i < n → Sx a H1 H → Src H' a → Y i H x H' → (∀ t z H4, Sx a H' H4 → Src H4 a → R z → H4 t = some (.tup (z.map V.int)) → Qy (.ref t) H4) → g x (wipe σ vs) H' fun σ2 H2 => wipe σ2 vs = wipe σ vs ∧ te σ2 H2 Qy)
    (hd : ∀ D zs H, H1 D = none → Sx a H1 H → Src H a → zs.length = n → (∀ z ∈ zs, R z) → LstT H D zs → Q (.ref D) H) : LcR J g tYes te vs σ H1 Q := fun D hD => by
  have nDa : D ≠ a := hs1.ne hD
  refine lc_gen w (fun i acc H => Sx a H1 H ∧ Src H a ∧ (∃ ys, H D = some (.lst ys)) ∧ ∃ as zs, acc = as.map V.ref ∧ AsT H as zs ∧ zs.length = i ∧ ∀ z ∈ zs, R z) (Nat.le_trans hn (by decide)) ⟨Sx.of (Same.new hD), hs1.same (Same.new hD), ⟨_, upd_same⟩, [], [], rfl, AsT.nil, rfl, by simp⟩ (fun i acc H _ h _ => hG H h.1) (fun i acc H l h _ => ?_) (fun i acc x H H' Qy hi ha h e hy hq => ?_) (fun acc H ha h e => ?_)
  · obtain ⟨h1, h1s, ⟨ys, h2⟩, as, zs, h3, h4, h5, h6⟩ := h
    exact ⟨fun b o nb hb => by rw [upd_ne (ne_some hb hD)]; exact h1 _ _ nb hb, h1s.put nDa.symm, ⟨_, upd_same⟩, as, zs, h3, h4.keep h2, h5, h6⟩
  · obtain ⟨h1, h1s, ⟨ys, h2⟩, as, zs, h3, h4, h5, h6⟩ := h
    have sy := hY _ _ _ _ hy
    refine hs i x H H' Qy hi h1 (h1s.same sy) hy fun t z H4 s4 hs4 hz ht => ?_
    have h4' := h4.same sy
    have h44 : AsT H4 as zs := ⟨h4'.1, fun j t g e1 e2 => by
      have e3 := h4'.2 j t g e1 e2
      exact s4 _ _ ((h1s.same sy).ne_of e3 fun _ _ _ => by simp) e3⟩
    refine hq (.ref t) H4 (s4 _ _ nDa (sy _ _ e)) ⟨(h1.trans (Sx.of sy)).trans s4, hs4, ⟨_, s4 _ _ nDa (sy _ _ h2)⟩, as ++ [t], zs ++ [z], by rw [h3, List.map_append]; rfl, h44.snoc ht, by rw [List.length_append, h5]; rfl, fun y hy2 => ?_⟩
    rcases List.mem_append.mp hy2 with h | h
    · exact h6 y h
    · rw [List.mem_singleton.mp h]; exact hz
  · obtain ⟨h1, h1s, _, as, zs, h3, h4, h5, h6⟩ := h
    exact hd D zs H hD h1 h1s h5 h6 ⟨as, by rw [← h3]; exact e, h4⟩
theorem range_get {α : Type} (l : List (List Int)) (f : List Int → List Int) : (List.range l.length).map (fun i => f (l.getD i [])) = l.map f := by
  refine List.ext_getElem (by simp) fun i h1 h2 => ?_
  simp only [List.length_map, List.length_range] at h1
  rw [List.getElem_map, List.getElem_map, List.getElem_range, List.getD_eq_getElem?_getD, List.getElem?_eq_getElem h1]
  rfl
theorem range_getI (l : List Int) (f : Int → List Int) : (List.range l.length).map (fun i => f (l.getD i 0)) = l.map f := by
  refine List.ext_getElem (by simp) fun i h1 h2 => ?_
  simp only [List.length_map, List.length_range] at h1
  rw [List.getElem_map, List.getElem_map, List.getElem_range, List.getD_eq_getElem?_getD, List.getElem?_eq_getElem h1]
  rfl
end

section
variable {P : Program} {w : World} {K : PySem.W.Frag} {mg : Str → Option Value} {base : Heap}
def MM1 (a l L B : Addr) (ss : List Int) (gs ps : List (List Int)) (H : Hp) (σ : L2.St) (H' : Hp) : Prop := ∃ D, σ = [some (V.ref a), some (V.ref l), some (V.ref L), some (V.ref B), some (V.ref D), none, none, none, none, none, none, none, none, none] ∧ Same H H' ∧ H D = none ∧ H' D = some (.lst (ansV ss gs ps))
def MM2 (a l L B D : Addr) (ss : List Int) (gs ps : List (List Int)) (H : Hp) (σ : L2.St) (H' : Hp) : Prop := ∃ g gv, σ = [some (V.ref a), some (V.ref l), some (V.ref L), some (V.ref B), some (V.ref D), some (V.ref g), none, none, none, none, none, none, none, none] ∧ Sx a H H' ∧ Src H' a ∧ g ≠ a ∧ H' g = some (.tup (gv.map V.int)) ∧ Seat ss gv
def MM3 (a l L B D g : Addr) (ss : List Int) (H : Hp) (σ : L2.St) (H' : Hp) : Prop := ∃ U us, σ = [some (V.ref a), some (V.ref l), some (V.ref L), some (V.ref B), some (V.ref D), some (V.ref g), some (V.ref U), none, none, none, none, none, none, none] ∧ Sx a H H' ∧ Src H' a ∧ U ≠ a ∧ H' U = some (.lst (us.map V.int)) ∧ Units ss us
def MM4 (a l L B D g U : Addr) (H : Hp) (σ : L2.St) (H' : Hp) : Prop := ∃ v7 v8 v9 v10, σ = [some (V.ref a), some (V.ref l), some (V.ref L), some (V.ref B), some (V.ref D), some (V.ref g), some (V.ref U), v7, v8, v9, v10, none, none, none] ∧ Same H H'
def MW1 (a l L B D g U : Addr) (i : Nat) (H : Hp) (σ : L2.St) (H' : Hp) : Prop := ∃ M v9 v10, σ = [some (V.ref a), some (V.ref l), some (V.ref L), some (V.ref B), some (V.ref D), some (V.ref g), some (V.ref U), some (V.int (i : Nat)), some (V.ref M), v9, v10, none, none, none] ∧ Same H H' ∧ H M = none ∧ H' M = some (.lst [])
def MW2 (a l L B D g U : Addr) (i : Nat) (M : Addr) (ms : List (List Int)) (H : Hp) (σ : L2.St) (H' : Hp) : Prop := ∃ v9 v10, σ = [some (V.ref a), some (V.ref l), some (V.ref L), some (V.ref B), some (V.ref D), some (V.ref g), some (V.ref U), some (V.int (i : Nat)), some (V.ref M), v9, v10, none, none, none] ∧ Same H H' ∧ LstT H' M ms
def MW3 (a l L B D g U : Addr) (i : Nat) (M b : Addr) (ss gv xv : List Int) (H : Hp) (σ : L2.St) (H' : Hp) : Prop := ∃ S r0 r1, σ = [some (V.ref a), some (V.ref l), some (V.ref L), some (V.ref B), some (V.ref D), some (V.ref g), some (V.ref U), some (V.int (i : Nat)), some (V.ref M), some (V.ref b), some (V.ref S), none, none, none] ∧ Same H H' ∧ H S = none ∧ H' S = some (.lst [V.ref r0, V.ref r1]) ∧ H' r0 = some (.tup ((mv fw xv gv ss).map V.int)) ∧ H' r1 = some (.tup ((tms (-1) xv ss).map V.int))
def MW4 (a l L B D g U : Addr) (i : Nat) (M b S : Addr) (ss gv us xv : List Int) (H : Hp) (σ : L2.St) (H' : Hp) : Prop := ∃ r0 r1 r2, σ = [some (V.ref a), some (V.ref l), some (V.ref L), some (V.ref B), some (V.ref D), some (V.ref g), some (V.ref U), some (V.int (i : Nat)), some (V.ref M), some (V.ref b), some (V.ref S), none, none, none] ∧ Same H H' ∧ H' S = some (.lst [V.ref r0, V.ref r1, V.ref r2]) ∧ H' r0 = some (.tup ((mv fw xv gv ss).map V.int)) ∧ H' r1 = some (.tup ((tms (-1) xv ss).map V.int)) ∧ H' r2 = some (.tup ((utm us xv ss).map V.int))
theorem Same.free {H H' : Hp} {r : Addr} (h : Same H H') (e : H' r = none) : H r = none := by
  cases c : H r with
  | none => rfl
  | some o => rw [h _ _ c] at e; cases e
def sp_law_same_table (K : PySem.W.Frag) : Sp := fun vs H Q _ => ∃ (a l L B : Addr) (ss : List Int) (gs ps : List (List Int)), vs = [.ref a, .ref l, .ref L, .ref B] ∧ Src H a ∧ H l = some (.lst (ss.map V.int)) ∧ l ≠ a ∧ LstT H L gs ∧ LstT H B ps ∧ Tgts ss gs ∧ gs.length ≤ 5 ∧ Sz ss ∧ (∀ p ∈ ps, Seat ss p) ∧ 1 ≤ ps.length ∧ ps.length ≤ 3 ∧
  ∀ H', Sx a H H' → Src H' a → Q (.bl true) H'
theorem ok_law_same_table (T : Tx K mg) : FnOk P w K mg base CX0 6 T.f_law_same_table T.fd_law_same_table ["_law_source_here", "_law_sizes_here", "_law_goals_here", "_law_probes"] (sp_law_same_table K) := by
  refine T.F_law_same_table.ok sc_law_same_table (fun vs H Q E h => ?_) (fun cdv A outer s H vs Q E hr h => ?_)
  · obtain ⟨a, l, L, B, ss, gs, ps, rfl, _⟩ := h; rfl
  · obtain ⟨a, l, L, B, ss, gs, ps, rfl, hs, hl, nla, hL, hB, hgs, h5, z, hps, p1, p3, q⟩ := h
    refine ⟨_, (C8.pss_cut (ps_set (i := 4) sc_law_same_table.nd rfl (Or.inl rfl) (pe_call (ok_law_answers T) (hr.mono (by decide)) (by rfl) T.g_law_answers T.F_law_answers.kp T.b_law_answers .nil pass0 (pa_cons (pv 1) (pa_cons (pv 2) (pa_cons (pv 3) pa_nil)))))
      (C8.pss_cut (ps_set (i := 5) sc_law_same_table.nd rfl (Or.inl rfl) (pe_call (ok_law_seat T) (hr.mono (by decide)) (by rfl) T.g_law_seat T.F_law_seat.kp T.b_law_seat .nil pass0 (pa_cons (pv 0) (pa_cons (pv 1) pa_nil))))
      (C8.pss_cut (ps_setLc (i := 6) (own := [("_law_size", 11)]) (g := (gName 11)) (tt := tYes) rfl sc_law_same_table.nd rfl rfl (sw_true rfl rfl rfl (by decide +kernel)) (pi_seqH (pv 1)) (blkOk_by (own := [("_law_size", 11)]) (N := N_law_same_table) (sc := defScope d_law_same_table) (by decide +kernel)) (fun _ _ _ _ _ => (pg_name (i := 11) sc_law_same_table.nd rfl (Or.inl rfl))) (fun _ _ _ _ _ => pts_nil) (fun _ _ _ _ _ => (pe_call (ok_law_unit T) (hr.mono (by decide)) (by rfl) T.g_law_unit T.F_law_unit.kp T.b_law_unit .nil pass0 (pa_cons (pv 0) (pa_cons (pv 11) pa_nil)))))
      (C8.pss_cut (ps_for PassesOwn.never rfl (pi_range1H (by rfl) T.n_range (pa_cons pe_int pa_nil)) (pg_name (i := 7) sc_law_same_table.nd rfl (Or.inl rfl))
        (C8.pss_cut (ps_set (i := 8) sc_law_same_table.nd rfl (Or.inl rfl) (pe_lst pa_nil))
        (C8.pss_cut (ps_for PassesOwn.never rfl (pi_seqH (pe_op op_catS (pv 2) (pv 3))) (pg_name (i := 9) sc_law_same_table.nd rfl (Or.inl rfl))
          (C8.pss_cut (ps_set (i := 10) sc_law_same_table.nd rfl (Or.inl rfl) (pe_lst (pa_cons (pe_call (ok_law_sum T) (hr.mono (by decide)) (by rfl) T.g_law_sum T.F_law_sum.kp T.b_law_sum .nil pass0 (pa_cons (pv 9) (pa_cons (pv 5) (pa_cons (pv 1) pa_nil)))) (pa_cons (pe_call (ok_law_times T) (hr.mono (by decide)) (by rfl) T.g_law_times T.F_law_times.kp T.b_law_times .nil pass0 (pa_cons (pe_un un_neg pe_int) (pa_cons (pv 9) (pa_cons (pv 1) pa_nil)))) pa_nil))))
          (C8.pss_cut (ps_expr (pe_append (pv 10) (pa_cons (pe_callTy tuple_H (by rfl) T.n_tuple (by decide +kernel) (pa_cons (pe_lc (own := [("_law_unit_here", 12), ("_law_place", 13), ("_law_size", 11)]) (g := (gTupH 3 (gCons (gName 12) (gCons (gName 13) (gCons (gName 11) gNil))))) (tt := tYes) rfl sc_law_same_table.nd (pi_z3H (by rfl) T.n_zip (pa_cons (pv 6) (pa_cons (pv 9) (pa_cons (pv 1) pa_nil)))) (blkOk_by (own := [("_law_unit_here", 12), ("_law_place", 13), ("_law_size", 11)]) (N := N_law_same_table) (sc := defScope d_law_same_table) (by decide +kernel)) (fun _ _ _ _ _ => (pg_tupH (n := 3) rfl (pgs_cons (pg_name (i := 12) sc_law_same_table.nd rfl (Or.inl rfl)) (pgs_cons (pg_name (i := 13) sc_law_same_table.nd rfl (Or.inl rfl)) (pgs_cons (pg_name (i := 11) sc_law_same_table.nd rfl (Or.inl rfl)) pgs_nil))))) (fun _ _ _ _ _ => pts_nil) (fun _ _ _ _ _ => (pe_op op_mod (pe_op op_mulA (pv 12) (pv 13)) (pv 11)))) pa_nil)) pa_nil)))
          (pss_one (ps_expr (pe_append (pv 8) (pa_cons (pe_ix ix_lH (pv 10) (pv 7) (fun _ _ => rfl)) pa_nil)))))))
        (pss_one (ps_if (pt_cmpR (op_neDK (K := K) rfl hr.units) (pe_call (ok_law_answers T) (hr.mono (by decide)) (by rfl) T.g_law_answers T.F_law_answers.kp T.b_law_answers .nil pass0 (pa_cons (pv 1) (pa_cons (pe_slice sl_list (pv 8) po_none (po_some (pe_callB len_H (by rfl) T.n_len PySem.boot_len (pa_cons (pv 2) pa_nil)))) (pa_cons (pe_slice sl_list (pv 8) (po_some (pe_callB len_H (by rfl) T.n_len PySem.boot_len (pa_cons (pv 2) pa_nil))) po_none) pa_nil)))) (pv 4) (nomark _)) (pss_one (ps_ret pe_bl)) pss_nil)))))
      (pss_one (ps_ret pe_bl)))))), ?_⟩
    refine ⟨MM1 a l L B ss gs ps H, ?_, ?_⟩
    · walk_at "rd"
      exact ⟨l, L, B, ss, gs, ps, rfl, hl, hL, hB, hgs, z, hps, by omega, fun H1 D s1 hD h1 => ⟨D, rfl, s1, hD, h1⟩⟩
    rintro σ1 H1 ⟨D, rfl, s1, hnD, hD⟩
    have nDa : D ≠ a := hs.ne hnD
    have hs1 := hs.same s1
    refine ⟨MM2 a l L B D ss gs ps H1, ?_, ?_⟩
    · walk_at "rd"
      refine ⟨a, l, ss, rfl, hs1, s1 _ _ hl, nla, z, fun H2 g gv s2 hs2 hng hg hgS => ⟨g, gv, rfl, s2, hs2, hs1.ne hng, hg, hgS⟩⟩
    rintro σ2 H2 ⟨g, gv, rfl, s2, hs2, nga, hg, hgS⟩
    refine ⟨MM3 a l L B D g ss H2, ?_, ?_⟩
    · walk_at "rd"
      have hl2 := s2 _ _ nla (s1 _ _ hl)
      refine .inl ⟨_, hl2, fun J W => ?_⟩
      refine lcr_draw W (fun i y => ∃ n, y = V.int n ∧ ∀ s, ss[i]? = some s → 1 ≤ n ∧ n ≤ 1000000 * s + 1 ∧ Nat.gcd n.natAbs s.natAbs = 1) hs2 (by rw [List.length_map]; exact Nat.le_trans z.hi (by decide)) (fun H3 s3 => s3 _ _ nla hl2) (fun _ _ _ _ y => YAt.same y) ?_ ?_
      · rintro i x H3 H4 Qy hi s3 hs3 ⟨rfl, hx⟩ hq
        simp only [List.getElem?_map, Option.map_eq_some_iff] at hx
        obtain ⟨n, hn, rfl⟩ := hx
        walk_at "rd"
        refine ⟨a, n, rfl, hs3, z.pos n (List.mem_of_getElem? hn), fun H5 u s5 hs5 u0 u1 u2 => hq _ _ s5 hs5 ⟨u, rfl, fun s hs' => ?_⟩⟩
        rw [hn] at hs'
        obtain rfl := Option.some.inj hs'
        exact ⟨u0, u1, u2⟩
      · intro U acc H3 hU s3 hs3 hlen hR hU3
        obtain ⟨us, rfl, hus⟩ := ints_of hR
        refine ⟨U, us, rfl, s3, hs3, hs2.ne hU, hU3, ⟨?_, fun i u s hu hs' => hus i u hu s hs'⟩⟩
        rw [List.length_map, List.length_map] at hlen
        exact hlen
    rintro σ3 H3 ⟨U, us, rfl, s3, hs3, nUa, hU, hun⟩
    have s13 := s2.trans s3
    have hl3 := s13 _ _ nla (s1 _ _ hl)
    have hL3 : LstT H3 L gs := LstT.sx (hL.same s1) hgs.ne hs1 s13
    have hB3 : LstT H3 B ps := LstT.sx (hB.same s1) (fun e => by rw [e] at p1; simp at p1) hs1 s13
    have hD3 := s13 _ _ nDa hD
    have hg3 := s3 _ _ nga hg
    refine ⟨MM4 a l L B D g U H3, ?_, ?_⟩
    · walk_at "rd"
      intro J W
      refine forr W (fun i σ H' => MM4 a l L B D g U H3 σ H') ⟨none, none, none, none, rfl, Same.refl _⟩ (fun _ _ _ _ _ => trivial) ?_ ?_
      · rintro i x σ4 H4o H4 hi ⟨v7, v8, v9, v10, rfl, s4⟩ ⟨rfl, rfl⟩
        walk_at "rd"
        refine ⟨MW1 a l L B D g U i H4, ?_, ?_⟩
        · walk_at "rd"
          exact fun M hM => ⟨M, v9, v10, rfl, Same.new hM, hM, upd_same⟩
        rintro σ5 H5 ⟨M, v9, v10, rfl, s5, hnM, hM⟩
        have s35 := s4.trans s5
        have hH3M : H3 M = none := by
          cases e : H3 M with
          | none => rfl
          | some o => rw [s4 _ _ e] at hnM; cases hnM
        refine ⟨MW2 a l L B D g U i M ((gs ++ ps).map (wayF ss gv us i)) H3, ?_, ?_⟩
        · walk_at "rd"
          obtain ⟨as, hLa, hA⟩ := hL3.same s35
          obtain ⟨bs, hBa, hBs⟩ := hB3.same s35
          have hC := hA.app hBs
          refine ⟨as.map V.ref, .inl (.inl hLa), bs.map V.ref, .inl (.inl hBa), ?_, fun C hC5 => ?_⟩
          · rw [List.length_map, List.length_map, hA.1, hBs.1]
            exact Nat.le_trans (by omega : gs.length + ps.length ≤ 8) (by decide)
          have nCM : M ≠ C := ne_some hM hC5
          have s6 := Same.new hC5 (o := .lst (as.map V.ref ++ bs.map V.ref))
          have fC : (upd H5 C (.lst (as.map V.ref ++ bs.map V.ref))) C = some (.lst (as.map V.ref ++ bs.map V.ref)) := upd_same
          generalize upd H5 C (HO.lst (as.map V.ref ++ bs.map V.ref)) = H6 at s6 fC ⊢
          rw [← List.map_append] at fC ⊢
          intro J W
          refine forr W (fun j σ H' => ∃ v9 v10, σ = [some (V.ref a), some (V.ref l), some (V.ref L), some (V.ref B), some (V.ref D), some (V.ref g), some (V.ref U), some (V.int (i : Nat)), some (V.ref M), v9, v10, none, none, none] ∧ Same H3 H' ∧ H' C = some (.lst ((as ++ bs).map V.ref)) ∧ AsT H' (as ++ bs) (gs ++ ps) ∧ LstT H' M (((gs ++ ps).take j).map (wayF ss gv us i)))
            ⟨v9, v10, rfl, s35.trans s6, fC, hC.same s6, ⟨[], s6 _ _ hM, AsT.nil⟩⟩ (fun j σ H' _ h => by obtain ⟨_, _, _, _, h, _⟩ := h; exact h) ?_ ?_
          · rintro j x σ7 H7o H7 hj ⟨v9, v10, rfl, s7, hC7, hA7, hM7⟩ ⟨rfl, hx⟩
            simp only [List.getElem?_map, Option.map_eq_some_iff] at hx
            obtain ⟨b, hb, rfl⟩ := hx
            have hjl : j < (gs ++ ps).length := by
              rw [← hC.1]
              exact (List.getElem?_eq_some_iff.mp hb).1
            have hxs := List.getElem?_eq_getElem hjl
            have hbx := hA7.2 j b _ hb hxs
            have hSx : Seat ss (gs ++ ps)[j] := by
              rcases List.mem_append.mp (List.getElem_mem hjl) with h | h
              · exact hgs.ok _ h
              · exact hps _ h
            generalize hxv : (gs ++ ps)[j] = xv at hbx hSx hxs
            walk_at "rd"
            refine ⟨MW3 a l L B D g U i M b ss gv xv H7, ?_, ?_⟩
            · walk_at "rd"
              refine ⟨b, g, l, ss, xv, gv, rfl, hbx, s7 _ _ hg3, s7 _ _ hl3, hSx.len, hgS.len, z, fun H8 r0 s8 h8 => ?_⟩
              refine ⟨-1, b, l, ss, xv, rfl, s8 _ _ hbx, s8 _ _ (s7 _ _ hl3), hSx.len, z, fun x _ => .inl (by decide), fun H9 r1 s9 h9 => ?_⟩
              intro S hS
              exact ⟨S, r0, r1, rfl, (s8.trans s9).trans (Same.new hS), Same.free (s8.trans s9) hS, upd_same, (Same.new hS) _ _ (s9 _ _ h8), (Same.new hS) _ _ h9⟩
            rintro σ8 H8 ⟨S, r0, r1, rfl, s8, hHS, hS8, h80, h81⟩
            refine ⟨MW4 a l L B D g U i M b S ss gv us xv H7, ?_, ?_⟩
            · walk_at "rd"
              refine ⟨⟨_, hS8⟩, ?_⟩
              refine ⟨true, false, true, us.map V.int, s8 _ _ (s7 _ _ hU), xv.map V.int, s8 _ _ hbx, ss.map V.int, s8 _ _ (s7 _ _ hl3), by rw [List.length_map, List.length_map, hun.len, hSx.len], by rw [List.length_map, List.length_map, hSx.len], fun J W => ?_⟩
              have hul : (utm us xv ss).length = us.length := mv_len (by rw [hun.len, hSx.len]) hSx.len
              refine lcr_map W ((utm us xv ss).map V.int) (by rw [List.length_map, List.length_map, hul]) (by rw [List.length_map, hun.len]; exact Nat.le_trans z.hi (by decide)) (fun H9 s9 => ⟨s9 _ _ (s8 _ _ (s7 _ _ hU)), s9 _ _ (s8 _ _ hbx), s9 _ _ (s8 _ _ (s7 _ _ hl3))⟩) (fun _ _ _ _ y => YTrip.same y) ?_ ?_
              · intro i3 x3 H9 H10 y Qy hi3 s9 hy hr hq
                obtain ⟨T0, x1, y1, z1, rfl, hT, rfl, h1, h2, h3⟩ := hy
                simp only [List.getElem?_map, Option.map_eq_some_iff] at hr h1 h2 h3
                obtain ⟨x2, hx2, rfl⟩ := h1
                obtain ⟨y2, hy2, rfl⟩ := h2
                obtain ⟨z2, hz2, rfl⟩ := h3
                unfold utm at hr
                rw [mv_get hx2 hy2 hz2] at hr
                obtain ⟨r, hr, rfl⟩ := hr
                obtain rfl := Option.some.inj hr
                have hz1 := z.pos _ (List.mem_of_getElem? hz2)
                have hzb := z.bits _ (List.mem_of_getElem? hz2)
                have hu3 := hun.ok i3 _ _ hx2 hz2
                walk_at "rd"
                refine ⟨.inr (.inr (wide_mul (a := 1100) (b := 1000) ?_ (seat_bits z hSx _ (List.mem_of_getElem? hy2)) (by decide) (by decide) (by decide))), by omega, hq _ (Same.refl _)⟩
                have e2 : (2 : Nat) ^ 1100 = 2 ^ 1000 * 2 ^ 100 := by rw [← Nat.pow_add]
                have e3 : (2000000 : Nat) ≤ 2 ^ 100 := by decide
                have e4 : 2 ^ 1000 * 2000000 ≤ 2 ^ 1000 * 2 ^ 100 := Nat.mul_le_mul_left _ e3
                omega
              · intro D9 H9 hD9 s9 h9
                refine ⟨D9, rfl, .inl ⟨_, h9, fun r2 hr2 => ?_⟩⟩
                have s10 := Same.new hr2 (o := .tup ((utm us xv ss).map V.int))
                have f10 : (upd H9 r2 (.tup ((utm us xv ss).map V.int))) r2 = some (.tup ((utm us xv ss).map V.int)) := upd_same
                generalize upd H9 r2 (HO.tup ((utm us xv ss).map V.int)) = H10 at s10 f10 ⊢
                have s810 := s9.trans s10
                refine ⟨_, s810 _ _ hS8, (by decide : 2 < sizeLine), r0, r1, r2, rfl, fun c o hc => ?_, upd_same, ?_, ?_, ?_⟩
                · rw [upd_ne (ne_some hc hHS)]
                  exact s810 _ _ (s8 _ _ hc)
                · rw [upd_ne (ne_two (s810 _ _ h80) (s810 _ _ hS8) (by simp))]
                  exact s810 _ _ h80
                · rw [upd_ne (ne_two (s810 _ _ h81) (s810 _ _ hS8) (by simp))]
                  exact s810 _ _ h81
                · rw [upd_ne (ne_two f10 (s810 _ _ hS8) (by simp))]
                  exact f10
            rintro σ9 H9 ⟨r0, r1, r2, rfl, s9, hS9, h90, h91, h92⟩
            obtain ⟨ms, hM9, hms⟩ := hM7.same s9
            have hC9 := s9 _ _ hC7
            have hA9 := hA7.same s9
            walk_at "rd"
            refine ⟨⟨_, hM9⟩, _, hS9, ?_⟩
            have pick : ∃ r, atI [V.ref r0, V.ref r1, V.ref r2] (i : Int) = some (V.ref r) ∧ H9 r = some (.tup ((wayF ss gv us i xv).map V.int)) := by
              match i, hi with
              | 0, _ => exact ⟨r0, atI_0, h90⟩
              | 1, _ => exact ⟨r1, atI_1, h91⟩
              | 2, _ => exact ⟨r2, atI_2, h92⟩
            obtain ⟨r, er, hr9⟩ := pick
            have hml : ms.length ≤ 8 := by
              rw [hms.1, List.length_map, List.length_take, List.length_append]
              omega
            refine ⟨_, er, _, hM9, by rw [List.length_map]; exact Nat.lt_of_le_of_lt hml (by decide), fun c o hc => ?_, ?_, hA9.keep hM9, ms ++ [r], ?_, ?_⟩
            · rw [upd_ne (ne_some hc hH3M)]
              exact s9 _ _ (s7 _ _ hc)
            · rw [upd_ne (Ne.symm nCM)]
              exact hC9
            · rw [upd_same, List.map_append]
              rfl
            · rw [List.take_add_one, hxs, List.map_append]
              exact (hms.snoc hr9).keep hM9
          · rintro σ7 H7 ⟨v9, v10, rfl, s7, hC7, hA7, hM7⟩
            refine ⟨v9, v10, rfl, s7, ?_⟩
            rw [List.length_map, hC.1, List.take_length] at hM7
            exact hM7
        rintro σ6 H6 ⟨v9, v10, rfl, s6, hM6⟩
        obtain ⟨as, hLa, hA⟩ := hL3.same s6
        obtain ⟨ms, hM6a, hms⟩ := id hM6
        obtain ⟨w1, w2, w3⟩ := way_all z hgs hps hgS hun i
        have hml : ms.length = gs.length + ps.length := by rw [hms.1, List.length_map, List.length_append]
        have hpl : (ps.map (wayF ss gv us i)).length ≤ 64 := by rw [List.length_map]; omega
        walk_at "rd"
        refine .inl ⟨_, hLa, _, .inl (.inl hM6a), fun p hp => ?_⟩
        have hn : (as.map V.ref).length = gs.length := by rw [List.length_map, hA.1]
        rw [hn, cut_to (by rw [List.length_map]; omega), ← List.map_take]
        have s7 := Same.new hp (o := .lst ((ms.take gs.length).map V.ref))
        have f7 : (upd H6 p (.lst ((ms.take gs.length).map V.ref))) p = some (.lst ((ms.take gs.length).map V.ref)) := upd_same
        generalize upd H6 p (HO.lst ((ms.take gs.length).map V.ref)) = H7 at s7 f7 ⊢
        refine .inl ⟨_, s7 _ _ hLa, _, .inl (.inl (s7 _ _ hM6a)), fun p2 hp2 => ?_⟩
        rw [hn, cut_from (by rw [List.length_map]; omega), ← List.map_drop]
        have s8 := Same.new hp2 (o := .lst ((ms.drop gs.length).map V.ref))
        have f8 : (upd H7 p2 (.lst ((ms.drop gs.length).map V.ref))) p2 = some (.lst ((ms.drop gs.length).map V.ref)) := upd_same
        generalize upd H7 p2 (HO.lst ((ms.drop gs.length).map V.ref)) = H8 at s8 f8 ⊢
        have s08 := (s6.trans s7).trans s8
        have hms8 := (hms.same s7).same s8
        have q1 : LstT H8 p (gs.map (wayF ss gv us i)) := ⟨_, s8 _ _ f7, by
          have := hms8.part 0 gs.length
          rw [List.drop_zero, List.drop_zero, List.map_append, List.take_left' (by rw [List.length_map])] at this
          exact this⟩
        have q2 : LstT H8 p2 (ps.map (wayF ss gv us i)) := ⟨_, f8, by
          have := hms8.part gs.length ms.length
          rw [List.take_of_length_le (by rw [List.length_drop]; omega), List.take_of_length_le (by rw [List.length_drop, List.length_map, List.length_append]; omega), List.map_append, List.drop_left' (by rw [List.length_map])] at this
          exact this⟩
        refine ⟨l, p, p2, ss, _, _, rfl, s08 _ _ hl3, q1, q2, w2, z, w3, hpl, fun H9 D9 s9 hD9 h9 => ?_⟩
        rw [w1] at h9
        refine neD_flat h9 (s9 _ _ (s08 _ _ hD3)) (ans_flat ss gs ps) ⟨false, rfl, ?_⟩
        rw [if_neg (by decide)]
        exact ⟨_, _, _, _, rfl, s08.trans s9⟩
      · rintro σ4 H4 ⟨v7, v8, v9, v10, rfl, s4⟩
        exact ⟨v7, v8, v9, v10, rfl, s4⟩
    rintro σ4 H4 ⟨v7, v8, v9, v10, rfl, s4⟩
    walk_at "rd"
    exact q H4 ((Sx.of s1).trans (s13.trans (Sx.of s4))) (hs3.same s4)
end

section
variable {P : Program} {w : World} {K : PySem.W.Frag} {mg : Str → Option Value} {base : Heap}
def MO1 (a l L B : Addr) (ss : List Int) (gs ps : List (List Int)) (H : Hp) (σ : L2.St) (H' : Hp) : Prop := ∃ D, σ = [some (V.ref a), some (V.ref l), some (V.ref L), some (V.ref B), some (V.ref D), none, none, none, none, none] ∧ Same H H' ∧ H D = none ∧ H' D = some (.lst (ansV ss gs ps))
def MO2 (a l L B D : Addr) (gs ps : List (List Int)) (H : Hp) (σ : L2.St) (H' : Hp) : Prop := ∃ R, σ = [some (V.ref a), some (V.ref l), some (V.ref L), some (V.ref B), some (V.ref D), some (V.ref R), none, none, none, none] ∧ Same H H' ∧ LstT H' R ((gs ++ ps).map List.reverse)
def MO3 (a l L B D : Addr) (H : Hp) (σ : L2.St) (H' : Hp) : Prop := ∃ v5 v6, σ = [some (V.ref a), some (V.ref l), some (V.ref L), some (V.ref B), some (V.ref D), v5, v6, none, none, none] ∧ Same H H'
def MO4 (a l L B D : Addr) (v5 : Option V) (gs ps : List (List Int)) (H : Hp) (σ : L2.St) (H' : Hp) : Prop := ∃ R, σ = [some (V.ref a), some (V.ref l), some (V.ref L), some (V.ref B), some (V.ref D), v5, some (V.ref R), none, none, none] ∧ Same H H' ∧ LstT H' R ((gs ++ ps).map fun g => 0 :: g)
def MO5 (a l L B D : Addr) (v5 v6 : Option V) (ss : List Int) (H : Hp) (σ : L2.St) (H' : Hp) : Prop := ∃ k : Nat, σ = [some (V.ref a), some (V.ref l), some (V.ref L), some (V.ref B), some (V.ref D), v5, v6, some (V.int (k : Nat)), none, none] ∧ Sx a H H' ∧ Src H' a ∧ k < ss.length
def MO6 (a l L B D : Addr) (v5 v6 : Option V) (ss : List Int) (k : Nat) (H : Hp) (σ : L2.St) (H' : Hp) : Prop := ∃ W, σ = [some (V.ref a), some (V.ref l), some (V.ref L), some (V.ref B), some (V.ref D), v5, v6, some (V.int (k : Nat)), some (V.ref W), none] ∧ Same H H' ∧ H' W = some (.lst ((ss.set k (ss.getD k 0 * 2)).map V.int))
def sp_law_other_table (K : PySem.W.Frag) : Sp := fun vs H Q _ => ∃ (a l L B : Addr) (ss : List Int) (gs ps : List (List Int)), vs = [.ref a, .ref l, .ref L, .ref B] ∧ Src H a ∧ H l = some (.lst (ss.map V.int)) ∧ l ≠ a ∧ LstT H L gs ∧ LstT H B ps ∧ Tgts ss gs ∧ gs.length ≤ 5 ∧ Sz ss ∧ (∀ n ∈ ss, n.natAbs < 2 ^ 200) ∧ (∀ p ∈ ps, Seat ss p) ∧ 1 ≤ ps.length ∧ ps.length ≤ 3 ∧
  ∀ H', Sx a H H' → Src H' a → Q (.bl true) H'
theorem ok_law_other_table (T : Tx K mg) : FnOk P w K mg base CX0 6 T.f_law_other_table T.fd_law_other_table ["_law_source_here", "_law_sizes_here", "_law_goals_here", "_law_probes"] (sp_law_other_table K) := by
  refine T.F_law_other_table.ok sc_law_other_table (fun vs H Q E h => ?_) (fun cdv A outer s H vs Q E hr h => ?_)
  · obtain ⟨a, l, L, B, ss, gs, ps, rfl, _⟩ := h; rfl
  · obtain ⟨a, l, L, B, ss, gs, ps, rfl, hs, hl, nla, hL, hB, hgs, h5, z, z2, hps, p1, p3, q⟩ := h
    refine ⟨_, (C8.pss_cut (ps_set (i := 4) sc_law_other_table.nd rfl (Or.inl rfl) (pe_call (ok_law_answers T) (hr.mono (by decide)) (by rfl) T.g_law_answers T.F_law_answers.kp T.b_law_answers .nil pass0 (pa_cons (pv 1) (pa_cons (pv 2) (pa_cons (pv 3) pa_nil)))))
      (C8.pss_cut (ps_setLc (i := 5) (own := [("_law_one", 9)]) (g := (gName 9)) (tt := tYes) rfl sc_law_other_table.nd rfl rfl (sw_true rfl rfl rfl (by decide +kernel)) (pi_seqH (pe_op op_catS (pv 2) (pv 3))) (blkOk_by (own := [("_law_one", 9)]) (N := N_law_other_table) (sc := defScope d_law_other_table) (by decide +kernel)) (fun _ _ _ _ _ => (pg_name (i := 9) sc_law_other_table.nd rfl (Or.inl rfl))) (fun _ _ _ _ _ => pts_nil) (fun _ _ _ _ _ => (pe_revT (K := K) rfl (pv 9))))
      (C8.pss_cut (ps_if (pt_cmpR (op_neDK (K := K) rfl hr.units) (pe_call (ok_law_answers T) (hr.mono (by decide)) (by rfl) T.g_law_answers T.F_law_answers.kp T.b_law_answers .nil pass0 (pa_cons (pe_revLK (K := K) rfl (pv 1)) (pa_cons (pe_slice sl_list (pv 5) po_none (po_some (pe_callB len_H (by rfl) T.n_len PySem.boot_len (pa_cons (pv 2) pa_nil)))) (pa_cons (pe_slice sl_list (pv 5) (po_some (pe_callB len_H (by rfl) T.n_len PySem.boot_len (pa_cons (pv 2) pa_nil))) po_none) pa_nil)))) (pv 4) (nomark _)) (pss_one (ps_ret pe_bl)) pss_nil)
      (C8.pss_cut (ps_if (pt_cmpR op_lt (pe_callB len_H (by rfl) T.n_len PySem.boot_len (pa_cons (pv 1) pa_nil)) pe_int (nomark _)) (C8.pss_cut (ps_setLc (i := 6) (own := [("_law_one", 9)]) (g := (gName 9)) (tt := tYes) rfl sc_law_other_table.nd rfl rfl (sw_true rfl rfl rfl (by decide +kernel)) (pi_seqH (pe_op op_catS (pv 2) (pv 3))) (blkOk_by (own := [("_law_one", 9)]) (N := N_law_other_table) (sc := defScope d_law_other_table) (by decide +kernel)) (fun _ _ _ _ _ => (pg_name (i := 9) sc_law_other_table.nd rfl (Or.inl rfl))) (fun _ _ _ _ _ => pts_nil) (fun _ _ _ _ _ => (pe_op (op_catTK (K := K) rfl) (pe_tup (pa_cons pe_int pa_nil)) (pv 9))))
        (pss_one (ps_if (pt_cmpR (op_neDK (K := K) rfl hr.units) (pe_call (ok_law_answers T) (hr.mono (by decide)) (by rfl) T.g_law_answers T.F_law_answers.kp T.b_law_answers .nil pass0 (pa_cons (pe_op op_catS (pe_lst (pa_cons pe_int pa_nil)) (pv 1)) (pa_cons (pe_slice sl_list (pv 6) po_none (po_some (pe_callB len_H (by rfl) T.n_len PySem.boot_len (pa_cons (pv 2) pa_nil)))) (pa_cons (pe_slice sl_list (pv 6) (po_some (pe_callB len_H (by rfl) T.n_len PySem.boot_len (pa_cons (pv 2) pa_nil))) po_none) pa_nil)))) (pv 4) (nomark _)) (pss_one (ps_ret pe_bl)) pss_nil))) pss_nil)
      (C8.pss_cut (ps_set (i := 7) sc_law_other_table.nd rfl (Or.inl rfl) (pe_call (ok_law_take T) (hr.mono (by decide)) (by rfl) T.g_law_take T.F_law_take.kp T.b_law_take .nil pass0 (pa_cons (pv 0) (pa_cons (pe_callB len_H (by rfl) T.n_len PySem.boot_len (pa_cons (pv 1) pa_nil)) pa_nil))))
      (C8.pss_cut (ps_set (i := 8) sc_law_other_table.nd rfl (Or.inl rfl) (pe_op op_catS (pe_op op_catS (pe_slice sl_list (pv 1) po_none (po_some (pv 7))) (pe_lst (pa_cons (pe_op op_mulA (pe_ix ix_lH (pv 1) (pv 7) (fun _ _ => rfl)) pe_int) pa_nil))) (pe_slice sl_list (pv 1) (po_some (pe_op op_add (pv 7) pe_int)) po_none)))
      (pss_one (ps_ret (pe_cmpR op_eq (pe_call (ok_coset_count T) (hr.mono (by decide)) (by rfl) T.g_coset_count T.F_coset_count.kp T.b_coset_count .nil pass0 (pa_cons (pe_make T.M_Table (ok_Table_init T) (hr.mono (by decide)) (by rfl) T.g_Table T.b_Table_init .nil pass0 (pa_cons (pv 8) pa_nil)) (pa_cons (pv 2) pa_nil))) (pe_ix ix_lH (pv 4) (pe_un un_neg pe_int) (fun _ _ => rfl)) (nomark _)))))))))), ?_⟩
    refine ⟨MO1 a l L B ss gs ps H, ?_, ?_⟩
    · walk_at "rd"
      exact ⟨l, L, B, ss, gs, ps, rfl, hl, hL, hB, hgs, z, hps, by omega, fun H1 D s1 hD h1 => ⟨D, rfl, s1, hD, h1⟩⟩
    rintro σ1 H1 ⟨D, rfl, s1, hnD, hD⟩
    have nDa : D ≠ a := hs.ne hnD
    have hl1 := s1 _ _ hl
    have hL1 := hL.same s1
    have hB1 := hB.same s1
    refine ⟨MO2 a l L B D gs ps H1, ?_, ?_⟩
    · walk_at "rd"
      obtain ⟨as, hLa, hA⟩ := hL.same s1
      obtain ⟨bs, hBa, hBs⟩ := hB.same s1
      have hC := hA.app hBs
      refine ⟨as.map V.ref, .inl (.inl hLa), bs.map V.ref, .inl (.inl hBa), ?_, fun C hC5 => ?_⟩
      · rw [List.length_map, List.length_map, hA.1, hBs.1]
        exact Nat.le_trans (by omega : gs.length + ps.length ≤ 8) (by decide)
      have s6 := Same.new hC5 (o := .lst (as.map V.ref ++ bs.map V.ref))
      have fC : (upd H1 C (.lst (as.map V.ref ++ bs.map V.ref))) C = some (.lst (as.map V.ref ++ bs.map V.ref)) := upd_same
      generalize upd H1 C (HO.lst (as.map V.ref ++ bs.map V.ref)) = H6 at s6 fC ⊢
      rw [← List.map_append] at fC ⊢
      intro J W
      have hC6 := hC.same s6
      have e : ((as ++ bs).map V.ref).length = (gs ++ ps).length := by rw [List.length_map, hC.1]
      rw [e] at W
      refine lcr_tups W (fun i => ((gs ++ ps).getD i []).reverse) (by rw [List.length_append]; omega) (fun H7 s7 => s7 _ _ fC) (fun _ _ _ _ y => YAt.same y) ?_ ?_
      · rintro i x H7 H8 Qy hi s7 ⟨rfl, hx⟩ hq
        simp only [List.getElem?_map, Option.map_eq_some_iff] at hx
        obtain ⟨b, hb, rfl⟩ := hx
        have hg := List.getElem?_eq_getElem hi
        have hbx := (hC6.same s7).2 i b _ hb hg
        simp only [tRevT]
        walk_at "rd"
        refine ⟨_, hbx, fun t ht => ?_⟩
        rw [← List.map_reverse]
        refine hq t _ (Same.new ht) ?_
        rw [upd_same, List.getD_eq_getElem?_getD, hg]
        rfl
      · intro R H7 hR s7 h7
        rw [range_get (α := Int) (gs ++ ps) List.reverse] at h7
        exact ⟨R, rfl, s6.trans s7, h7⟩
    rintro σ2 H2 ⟨R, rfl, s2, hR⟩
    have s02 := s1.trans s2
    have zr : Sz ss.reverse := ⟨by rw [List.length_reverse]; exact z.lo, by rw [List.length_reverse]; exact z.hi, fun n hn => z.pos n (List.mem_reverse.mp hn), fun n hn => z.bits n (List.mem_reverse.mp hn)⟩
    have hlen : ∀ g ∈ gs, g.length = ss.length := fun g hg => (hgs.ok g hg).len
    have srev : ∀ g, Seat ss g → Seat ss.reverse g.reverse := fun g hg => by
      refine ⟨by rw [List.length_reverse, List.length_reverse, hg.len], fun i p s hp hs' => ?_⟩
      have hi : i < g.length := by have := (List.getElem?_eq_some_iff.mp hp).1; rwa [List.length_reverse] at this
      rw [List.getElem?_reverse hi] at hp
      rw [List.getElem?_reverse (by rw [← hg.len]; exact hi), ← hg.len] at hs'
      exact hg.ok _ p s hp hs'
    refine ⟨MO3 a l L B D H1, ?_, ?_⟩
    · walk_at "rd"
      simp only [tRevL]
      walk_at "rd"
      refine ⟨_, .inl (.inl (s02 _ _ hl)), fun r hr => ?_⟩
      rw [← List.map_reverse]
      have s3 := Same.new hr (o := .lst (ss.reverse.map V.int))
      have f3 : (upd H2 r (.lst (ss.reverse.map V.int))) r = some (.lst (ss.reverse.map V.int)) := upd_same
      generalize upd H2 r (HO.lst (ss.reverse.map V.int)) = H3 at s3 f3 ⊢
      obtain ⟨as, ms, e1, e2, F⟩ := cut_two (hL.same (s02.trans s3)) (LstT.same s3 hR)
      refine .inl ⟨_, e1, _, .inl (.inl e2), fun p hp => ?_⟩
      obtain ⟨f1, f2, F⟩ := F p hp
      refine .inl ⟨_, f1, _, .inl (.inl f2), fun p2 hp2 => ?_⟩
      obtain ⟨s4, h1, h2⟩ := F p2 hp2 _ rfl
      obtain ⟨c1, c2⟩ := rev_same z zr hgs.ne hlen
      have ea : ansV ss.reverse (gs.map List.reverse) (ps.map List.reverse) = ansV ss gs ps := by
        unfold ansV
        rw [c1, List.map_map]
        congr 1
        refine List.map_congr_left fun p hp => ?_
        show V.str (wordI ss.reverse (gs.map List.reverse) p.reverse) = V.str (wordI ss gs p)
        rw [c2 p (hps p hp).len]
      refine ⟨r, p, p2, ss.reverse, _, _, rfl, s4 _ _ f3, h1, h2, ⟨fun e => hgs.ne (List.map_eq_nil_iff.mp e), List.pairwise_map.mpr (List.Pairwise.imp (fun hne e => hne (List.reverse_inj.mp e)) hgs.nd), by rw [List.length_map]; exact hgs.few, fun g hg => ?_⟩, zr, fun g hg => ?_, by rw [List.length_map]; omega, fun H5 D5 s5 hD5 h5 => ?_⟩
      · obtain ⟨y, hy, rfl⟩ := List.mem_map.mp hg
        exact srev y (hgs.ok y hy)
      · obtain ⟨y, hy, rfl⟩ := List.mem_map.mp hg
        exact srev y (hps y hy)
      · rw [ea] at h5
        have s25 := (s3.trans s4).trans s5
        refine neD_flat h5 (s25 _ _ (s2 _ _ hD)) (ans_flat ss gs ps) ⟨false, rfl, ?_⟩
        rw [if_neg (by decide)]
        exact ⟨_, _, rfl, s2.trans s25⟩
    rintro σ3 H3 ⟨v5, v6, rfl, s3⟩
    refine ⟨MO3 a l L B D H1, ?_, ?_⟩
    · walk_at "rd"
      refine .inl ⟨_, s3 _ _ hl1, ?_⟩
      rw [List.length_map]
      split
      · refine ⟨MO4 a l L B D v5 gs ps H1, ?_, ?_⟩
        · walk_at "rd"
          obtain ⟨as, hLa, hA⟩ := hL1.same s3
          obtain ⟨bs, hBa, hBs⟩ := hB1.same s3
          have hC := hA.app hBs
          refine ⟨as.map V.ref, .inl (.inl hLa), bs.map V.ref, .inl (.inl hBa), ?_, fun C hC5 => ?_⟩
          · rw [List.length_map, List.length_map, hA.1, hBs.1]
            exact Nat.le_trans (by omega : gs.length + ps.length ≤ 8) (by decide)
          have s6 := Same.new hC5 (o := .lst (as.map V.ref ++ bs.map V.ref))
          have fC : (upd H3 C (.lst (as.map V.ref ++ bs.map V.ref))) C = some (.lst (as.map V.ref ++ bs.map V.ref)) := upd_same
          generalize upd H3 C (HO.lst (as.map V.ref ++ bs.map V.ref)) = H6 at s6 fC ⊢
          rw [← List.map_append] at fC ⊢
          intro J W
          have hC6 := hC.same s6
          have e : ((as ++ bs).map V.ref).length = (gs ++ ps).length := by rw [List.length_map, hC.1]
          rw [e] at W
          refine lcr_tups W (fun i => 0 :: ((gs ++ ps).getD i [])) (by rw [List.length_append]; omega) (fun H7 s7 => s7 _ _ fC) (fun _ _ _ _ y => YAt.same y) ?_ ?_
          · rintro i x H7 H8 Qy hi s7 ⟨rfl, hx⟩ hq
            simp only [List.getElem?_map, Option.map_eq_some_iff] at hx
            obtain ⟨b, hb, rfl⟩ := hx
            have hg := List.getElem?_eq_getElem hi
            have hbx := (hC6.same s7).2 i b _ hb hg
            walk_at "rd"
            intro t ht
            have st := Same.new ht (o := .tup [V.int 0])
            have ft : (upd H8 t (.tup [V.int 0])) t = some (.tup [V.int 0]) := upd_same
            generalize upd H8 t (HO.tup [V.int 0]) = H9 at st ft ⊢
            have e0 : (gs ++ ps).getD i [] = (gs ++ ps)[i] := by rw [List.getD_eq_getElem?_getD, hg]; rfl
            have hxl : (gs ++ ps)[i].length = ss.length := by
              rcases List.mem_append.mp (List.getElem_mem hi) with h | h
              · exact (hgs.ok _ h).len
              · exact (hps _ h).len
            have hz4 := z.hi
            have hz1 := z.lo
            refine ⟨t, b, [V.int 0], _, rfl, rfl, .inl (.inl ft), .inl (.inl (st _ _ hbx)), by simp, ?_, fun e => ?_, fun _ r hr => ?_⟩
            · rw [List.length_map, hxl]
              exact Nat.le_trans (by simp; omega : [V.int 0].length + ss.length ≤ 5) (by decide)
            · have := congrArg List.length e
              rw [List.length_map, hxl, List.length_nil] at this
              omega
            · refine hq r _ (st.trans (Same.new hr)) ?_
              rw [upd_same, e0]
              rfl
          · intro R H7 hR s7 h7
            rw [range_get (α := Int) (gs ++ ps) (fun g => 0 :: g)] at h7
            exact ⟨R, rfl, (s3.trans s6).trans s7, h7⟩
        rintro σ4 H4 ⟨R, rfl, s4, hR⟩
        walk_at "rd"
        intro o1 ho1
        have s5 := Same.new ho1 (o := .lst [V.int 1])
        have f5 : (upd H4 o1 (.lst [V.int 1])) o1 = some (.lst [V.int 1]) := upd_same
        generalize upd H4 o1 (HO.lst [V.int 1]) = H5 at s5 f5 ⊢
        refine ⟨_, .inl (.inl f5), _, .inl (.inl ((s4.trans s5) _ _ hl1)), ?_, fun l1 hnl1 => ?_⟩
        · rw [List.length_map]
          exact Nat.le_trans (by have := z.hi; simp; omega : [V.int 1].length + ss.length ≤ 5) (by decide)
        have s6 := Same.new hnl1 (o := .lst ((1 :: ss).map V.int))
        have f6 : (upd H5 l1 (.lst ((1 :: ss).map V.int))) l1 = some (.lst ((1 :: ss).map V.int)) := upd_same
        rw [show [V.int 1] ++ ss.map V.int = (1 :: ss).map V.int from rfl]
        generalize upd H5 l1 (HO.lst ((1 :: ss).map V.int)) = H6 at s6 f6 ⊢
        have s46 := s5.trans s6
        obtain ⟨as, ms, e1, e2, F⟩ := cut_two (hL1.same (s4.trans s46)) (LstT.same s46 hR)
        refine .inl ⟨_, e1, _, .inl (.inl e2), fun p hp => ?_⟩
        obtain ⟨f1, f2, F⟩ := F p hp
        refine .inl ⟨_, f1, _, .inl (.inl f2), fun p2 hp2 => ?_⟩
        obtain ⟨s7, h1, h2⟩ := F p2 hp2 _ rfl
        have z1 : Sz (1 :: ss) := ⟨by simp, by rw [List.length_cons]; omega, fun n hn => by
          rcases List.mem_cons.mp hn with rfl | hn
          · omega
          · exact z.pos n hn, fun n hn => by
          rcases List.mem_cons.mp hn with rfl | hn
          · exact Nat.one_lt_two_pow (by decide)
          · exact z.bits n hn⟩
        have sone : ∀ g, Seat ss g → Seat (1 :: ss) (0 :: g) := fun g hg => by
          refine ⟨by rw [List.length_cons, List.length_cons, hg.len], fun i p s hp hs' => ?_⟩
          cases i with
          | zero =>
            obtain rfl := Option.some.inj hp
            obtain rfl := Option.some.inj hs'
            omega
          | succ i => exact hg.ok i p s hp hs'
        obtain ⟨c1, c2⟩ := one_same z z1 hgs.ne hlen
        have ea : ansV (1 :: ss) (gs.map fun g => 0 :: g) (ps.map fun g => 0 :: g) = ansV ss gs ps := by
          unfold ansV
          rw [c1, List.map_map]
          congr 1
          refine List.map_congr_left fun p hp => ?_
          show V.str (wordI (1 :: ss) (gs.map fun g => 0 :: g) (0 :: p)) = V.str (wordI ss gs p)
          rw [c2 p (hps p hp).len]
        refine ⟨l1, p, p2, 1 :: ss, _, _, rfl, s7 _ _ f6, h1, h2, ⟨fun e => hgs.ne (List.map_eq_nil_iff.mp e), List.pairwise_map.mpr (List.Pairwise.imp (fun hne e => hne (List.cons.inj e).2) hgs.nd), by rw [List.length_map]; exact hgs.few, fun g hg => ?_⟩, z1, fun g hg => ?_, by rw [List.length_map]; omega, fun H8 D8 s8 hD8 h8 => ?_⟩
        · obtain ⟨y, hy, rfl⟩ := List.mem_map.mp hg
          exact sone y (hgs.ok y hy)
        · obtain ⟨y, hy, rfl⟩ := List.mem_map.mp hg
          exact sone y (hps y hy)
        · rw [ea] at h8
          have s08 := ((s4.trans s46).trans s7).trans s8
          refine neD_flat h8 (s08 _ _ hD) (ans_flat ss gs ps) ⟨false, rfl, ?_⟩
          rw [if_neg (by decide)]
          exact ⟨_, _, rfl, s08⟩
      · exact ⟨_, _, rfl, s3⟩
    rintro σ4 H4 ⟨v5, v6, rfl, s4⟩
    have hs4 := (hs.same s1).same s4
    refine ⟨MO5 a l L B D v5 v6 ss H4, ?_, ?_⟩
    · walk_at "rd"
      refine .inl ⟨_, s4 _ _ hl1, ?_⟩
      rw [List.length_map]
      have h1 := z.lo
      have h4 := z.hi
      refine ⟨a, _, rfl, hs4, by omega, take_small (by omega) (by omega), fun H5 r s5 hs5 r0 r1 => ?_⟩
      obtain ⟨k, rfl⟩ := Int.eq_ofNat_of_zero_le r0
      exact ⟨k, rfl, s5, hs5, by omega⟩
    rintro σ5 H5 ⟨k, rfl, s5, hs5, hk⟩
    have hl5 := s5 _ _ nla (s4 _ _ hl1)
    have hsk := ss_get hk
    have hs1k := z.pos _ (List.mem_of_getElem? hsk)
    have hsb := z2 _ (List.mem_of_getElem? hsk)
    refine ⟨MO6 a l L B D v5 v6 ss k H5, ?_, ?_⟩
    · walk_at "rd"
      refine ⟨_, .inl (.inl hl5), fun p hp => ?_⟩
      rw [cut_to (by rw [List.length_map]; omega), ← List.map_take]
      have t1 := Same.new hp (o := .lst ((ss.take k).map V.int))
      have g1 : (upd H5 p (.lst ((ss.take k).map V.int))) p = some (.lst ((ss.take k).map V.int)) := upd_same
      generalize upd H5 p (HO.lst ((ss.take k).map V.int)) = G1 at t1 g1 ⊢
      refine ⟨_, t1 _ _ hl5, _, atI_nat (by rw [List.getElem?_map, hsk]; rfl), _, rfl, .inr (.inl (by decide)), fun p1 hp1 => ?_⟩
      have t2 := Same.new hp1 (o := .lst [V.int (ss.getD k 0 * 2)])
      have g2 : (upd G1 p1 (.lst [V.int (ss.getD k 0 * 2)])) p1 = some (.lst [V.int (ss.getD k 0 * 2)]) := upd_same
      generalize upd G1 p1 (HO.lst [V.int (ss.getD k 0 * 2)]) = G2 at t2 g2 ⊢
      have h4 := z.hi
      refine ⟨_, .inl (.inl (t2 _ _ g1)), _, .inl (.inl g2), ?_, fun p2 hp2 => ?_⟩
      · rw [List.length_map, List.length_take]
        exact Nat.le_trans (by simp; omega : min k ss.length + [V.int (ss.getD k 0 * 2)].length ≤ 5) (by decide)
      have t3 := Same.new hp2 (o := .lst ((ss.take k).map V.int ++ [V.int (ss.getD k 0 * 2)]))
      have g3 : (upd G2 p2 (.lst ((ss.take k).map V.int ++ [V.int (ss.getD k 0 * 2)]))) p2 = some (.lst ((ss.take k).map V.int ++ [V.int (ss.getD k 0 * 2)])) := upd_same
      generalize upd G2 p2 (HO.lst ((ss.take k).map V.int ++ [V.int (ss.getD k 0 * 2)])) = G3 at t3 g3 ⊢
      refine ⟨_, .inl (.inl (((t1.trans t2).trans t3) _ _ hl5)), fun p3 hp3 => ?_⟩
      rw [show ((k : Int) + 1) = ((k + 1 : Nat) : Int) by omega, cut_from (by rw [List.length_map]; omega), ← List.map_drop]
      have t4 := Same.new hp3 (o := .lst ((ss.drop (k + 1)).map V.int))
      have g4 : (upd G3 p3 (.lst ((ss.drop (k + 1)).map V.int))) p3 = some (.lst ((ss.drop (k + 1)).map V.int)) := upd_same
      generalize upd G3 p3 (HO.lst ((ss.drop (k + 1)).map V.int)) = G4 at t4 g4 ⊢
      refine ⟨_, .inl (.inl (t4 _ _ g3)), _, .inl (.inl g4), ?_, fun p4 hp4 => ?_⟩
      · rw [List.length_append, List.length_map, List.length_map, List.length_take, List.length_drop]
        exact Nat.le_trans (by simp; omega : min k ss.length + [V.int (ss.getD k 0 * 2)].length + (ss.length - (k + 1)) ≤ 9) (by decide)
      refine ⟨p4, rfl, (((t1.trans t2).trans t3).trans t4).trans (Same.new hp4), ?_⟩
      rw [upd_same, List.set_eq_take_append_cons_drop, if_pos hk]
      simp
    rintro σ6 H6 ⟨W, rfl, s6, hW⟩
    have zt : Sz (ss.set k (ss.getD k 0 * 2)) := ⟨by rw [List.length_set]; exact z.lo, by rw [List.length_set]; exact z.hi, fun n hn => by
      rcases List.mem_or_eq_of_mem_set hn with h | h
      · exact z.pos n h
      · omega, fun n hn => by
      rcases List.mem_or_eq_of_mem_set hn with h | h
      · exact z.bits n h
      · rw [h]
        exact Nat.lt_of_lt_of_le (by omega : (ss.getD k 0 * 2).natAbs < 2 ^ 201) (Nat.pow_le_pow_right (by decide) (by decide))⟩
    have hD6 := s6 _ _ (s5 _ _ nDa (s4 _ _ hD))
    have hL6 : LstT H6 L gs := LstT.same s6 (LstT.sx (hL1.same s4) hgs.ne hs4 s5)
    have hs6 := hs5.same s6
    have stwo : ∀ g, Seat ss g → Seat (ss.set k (ss.getD k 0 * 2)) g := fun g hg => by
      refine ⟨by rw [List.length_set]; exact hg.len, fun i p s hp hs' => ?_⟩
      by_cases e : k = i
      · subst e
        rw [List.getElem?_set_self hk] at hs'
        obtain rfl := Option.some.inj hs'
        have := hg.ok _ p _ hp hsk
        omega
      · rw [List.getElem?_set_ne e] at hs'
        exact hg.ok i p s hp hs'
    walk_at "rd"
    intro x dx hx hdx hne
    have s7 : Same H6 (upd (upd H6 dx (.own x)) x (.ins T.c_Table dx [])) := (Same.new hdx).trans (Same.new (by rw [upd_ne hne.symm]; exact hx))
    have f7 : (upd (upd H6 dx (.own x)) x (.ins T.c_Table dx [])) x = some (.ins T.c_Table dx []) := upd_same
    generalize upd (upd H6 dx (HO.own x)) x (HO.ins T.c_Table dx []) = H7 at s7 f7 ⊢
    refine ⟨x, dx, .ref W, W, true, _, rfl, f7, rfl, s7 _ _ hW, zt.lo, zt.hi, zt.pos, fun H8 t s8 h8 ht => ⟨rfl, ?_⟩⟩
    have s68 : Same H6 H8 := fun b o hb => s8 _ _ (ne_some hb hx) (s7 _ _ hb)
    have hT8 : TabAt T.c_Table H8 x (ss.set k (ss.getD k 0 * 2)) := ⟨dx, t, h8, ht⟩
    refine ⟨true, x, L, _, gs, rfl, hT8, LstT.tgt (LstT.same s68 hL6), ⟨hgs.ne, hgs.nd, hgs.few, fun g hg => stwo g (hgs.ok g hg)⟩, zt, fun H9 s9 => ?_⟩
    refine ⟨_, s9 _ _ (s68 _ _ hD6), .int (cosetI ss gs), ?_, rfl, ?_⟩
    · unfold ansV
      exact L2.atI_last _ _
    · rw [two_same hsk hs1k, decide_eq_true rfl]
      exact q H9 (((Sx.of (s1.trans s4)).trans s5).trans (Sx.of ((s6.trans s68).trans s9))) ((hs6.same s68).same s9)
end

section
variable {P : Program} {w : World} {K : PySem.W.Frag} {mg : Str → Option Value} {base : Heap}
/-- first and second, drawn -/
structure Two (f s : Int) : Prop where
  f1 : 1 ≤ f
  s1 : 1 ≤ s
  f2 : f ≤ 45
  s2 : s ≤ 2357947691
  co : Nat.gcd f.natAbs s.natAbs = 1
theorem two_of {f s : Int} (hf : f ∈ ([9, 15, 8, 45] : List Int)) (hs : s ∈ ([7, 2357947691, 49, 1, 13] : List Int)) : Two f s := by
  simp only [List.mem_cons, List.mem_nil_iff, or_false] at hf hs
  rcases hf with rfl | rfl | rfl | rfl <;> rcases hs with rfl | rfl | rfl | rfl | rfl <;> exact ⟨by decide, by decide, by decide, by decide, by decide +kernel⟩
def MP1 (a : Addr) (H : Hp) (σ : L2.St) (H' : Hp) : Prop := ∃ f s, σ = [some (V.ref a), some (V.int f), some (V.int s), none, none, none, none, none, none, none, none, none] ∧ Sx a H H' ∧ Src H' a ∧ Two f s
def MP2 (a : Addr) (f s : Int) (H : Hp) (σ : L2.St) (H' : Hp) : Prop := ∃ (G : Addr) (xs : List Int), σ = [some (V.ref a), some (V.int f), some (V.int s), some (V.ref G), none, none, none, none, none, none, none, none] ∧ Sx a H H' ∧ Src H' a ∧ G ≠ a ∧ H' G = some (.lst (xs.map V.int)) ∧ 1 ≤ xs.length ∧ xs.length ≤ 3
def MP3 (a : Addr) (f s : Int) (G : Addr) (H : Hp) (σ : L2.St) (H' : Hp) : Prop := ∃ c, σ = [some (V.ref a), some (V.int f), some (V.int s), some (V.ref G), some (V.int c), none, none, none, none, none, none, none] ∧ Sx a H H' ∧ Src H' a ∧ 1 ≤ c ∧ c ≤ 21
def MP4 (a : Addr) (f s : Int) (G : Addr) (c : Int) (H : Hp) (σ : L2.St) (H' : Hp) : Prop := ∃ b, σ = [some (V.ref a), some (V.int f), some (V.int s), some (V.ref G), some (V.int c), some (V.int (f * s)), some (V.int b), none, none, none, none, none] ∧ Same H H'
/-- places of a ring, in order -/
structure Plc (m : Int) (xs : List Int) : Prop where
  ne : xs ≠ []
  few : xs.length ≤ 4
  ok : ∀ x ∈ xs, 0 ≤ x ∧ x < m
def MP5 (a : Addr) (f s c b : Int) (H : Hp) (σ : L2.St) (H' : Hp) : Prop := ∃ (G : Addr) (xs : List Int), σ = [some (V.ref a), some (V.int f), some (V.int s), some (V.ref G), some (V.int c), some (V.int (f * s)), some (V.int b), none, none, none, none, none] ∧ Same H H' ∧ H' G = some (.lst (xs.map V.int)) ∧ xs.Nodup ∧ Plc (f * s) xs ∧ H G = none
def MP6 (a : Addr) (f s c b : Int) (G : Addr) (H : Hp) (σ : L2.St) (H' : Hp) : Prop := ∃ (B : Addr) (ys : List Int), σ = [some (V.ref a), some (V.int f), some (V.int s), some (V.ref G), some (V.int c), some (V.int (f * s)), some (V.int b), some (V.ref B), none, none, none, none] ∧ Sx a H H' ∧ Src H' a ∧ H' B = some (.lst (ys.map V.int)) ∧ Plc (f * s) ys
def MP7 (a : Addr) (f s c b : Int) (G B : Addr) (ans : List V) (H : Hp) (σ : L2.St) (H' : Hp) : Prop := ∃ W, σ = [some (V.ref a), some (V.int f), some (V.int s), some (V.ref G), some (V.int c), some (V.int (f * s)), some (V.int b), some (V.ref B), some (V.ref W), none, none, none] ∧ Same H H' ∧ H' W = some (.lst ans)
def MP8 (a : Addr) (f s c b : Int) (G B W : Addr) (gs : List (List Int)) (H : Hp) (σ : L2.St) (H' : Hp) : Prop := ∃ T, σ = [some (V.ref a), some (V.int f), some (V.int s), some (V.ref G), some (V.int c), some (V.int (f * s)), some (V.int b), some (V.ref B), some (V.ref W), some (V.ref T), none, none] ∧ Same H H' ∧ LstT H' T gs
def sp_law_product (K : PySem.W.Frag) : Sp := fun vs H Q _ => ∃ a : Addr, vs = [.ref a] ∧ Src H a ∧ ∀ H', Sx a H H' → Src H' a → Q (.bl true) H'
theorem ok_law_product (T : Tx K mg) : FnOk P w K mg base CX0 6 T.f_law_product T.fd_law_product ["_law_source_here"] (sp_law_product K) := by
  refine T.F_law_product.ok sc_law_product (fun vs H Q E h => ?_) (fun cdv A outer s H vs Q E hr h => ?_)
  · obtain ⟨a, rfl, _⟩ := h; rfl
  · obtain ⟨a, rfl, hs, q⟩ := h
    refine ⟨_, (C8.pss_cut (ps_asg (pe_tup (pa_cons (pe_ix ix_lH (pe_lst (pa_cons pe_int (pa_cons pe_int (pa_cons pe_int (pa_cons pe_int pa_nil))))) (pe_call (ok_law_take T) (hr.mono (by decide)) (by rfl) T.g_law_take T.F_law_take.kp T.b_law_take .nil pass0 (pa_cons (pv 0) (pa_cons pe_int pa_nil))) (fun _ _ => rfl)) (pa_cons (pe_ix ix_lH (pe_lst (pa_cons pe_int (pa_cons (pe_op op_pow pe_int pe_int) (pa_cons pe_int (pa_cons pe_int (pa_cons pe_int pa_nil)))))) (pe_call (ok_law_take T) (hr.mono (by decide)) (by rfl) T.g_law_take T.F_law_take.kp T.b_law_take .nil pass0 (pa_cons (pv 0) (pa_cons pe_int pa_nil))) (fun _ _ => rfl)) pa_nil))) (pg_tupH (n := 2) rfl (pgs_cons (pg_name (i := 1) sc_law_product.nd rfl (Or.inr rfl)) (pgs_cons (pg_name (i := 2) sc_law_product.nd rfl (Or.inr rfl)) pgs_nil))))
      (C8.pss_cut (ps_setLc (i := 3) (own := [("_law_k", 10)]) (g := (gName 10)) (tt := tYes) rfl sc_law_product.nd rfl rfl (sw_true rfl rfl rfl (by decide +kernel)) (pi_range1H (by rfl) T.n_range (pa_cons (pe_op op_add pe_int (pe_call (ok_law_take T) (hr.mono (by decide)) (by rfl) T.g_law_take T.F_law_take.kp T.b_law_take .nil pass0 (pa_cons (pv 0) (pa_cons pe_int pa_nil)))) pa_nil)) (blkOk_by (own := [("_law_k", 10)]) (N := N_law_product) (sc := defScope d_law_product) (by decide +kernel)) (fun _ _ _ _ _ => (pg_name (i := 10) sc_law_product.nd rfl (Or.inl rfl))) (fun _ _ _ _ _ => pts_nil) (fun _ _ _ _ _ => (pe_call (ok_law_take T) (hr.mono (by decide)) (by rfl) T.g_law_take T.F_law_take.kp T.b_law_take .nil pass0 (pa_cons (pv 0) (pa_cons (pe_op op_mulA (pv 1) (pv 2)) pa_nil)))))
      (C8.pss_cut (ps_set (i := 4) sc_law_product.nd rfl (Or.inr rfl) (pe_ix ix_lH (pe_lst (pa_cons pe_int (pa_cons pe_int (pa_cons pe_int (pa_cons pe_int pa_nil))))) (pe_call (ok_law_take T) (hr.mono (by decide)) (by rfl) T.g_law_take T.F_law_take.kp T.b_law_take .nil pass0 (pa_cons (pv 0) (pa_cons pe_int pa_nil))) (fun _ _ => rfl)))
      (C8.pss_cut (ps_asg (pe_tup (pa_cons (pe_op op_mulA (pv 1) (pv 2)) (pa_cons (pe_ix ix_lH (pv 3) pe_int (fun _ _ => rfl)) pa_nil))) (pg_tupH (n := 2) rfl (pgs_cons (pg_name (i := 5) sc_law_product.nd rfl (Or.inr rfl)) (pgs_cons (pg_name (i := 6) sc_law_product.nd rfl (Or.inr rfl)) pgs_nil))))
      (C8.pss_cut (ps_set (i := 3) sc_law_product.nd rfl (Or.inl rfl) (pe_callB (cr_sortLI rfl) (by rfl) T.n_sorted (by decide +kernel) (pa_cons (pe_callTy (cr_setLI rfl) (by rfl) T.n_set (by decide +kernel) (pa_cons (pe_lc (own := [("_law_one", 11)]) (g := (gName 11)) (tt := tYes) rfl sc_law_product.nd (pi_seqH (pv 3)) (blkOk_by (own := [("_law_one", 11)]) (N := N_law_product) (sc := defScope d_law_product) (by decide +kernel)) (fun _ _ _ _ _ => (pg_name (i := 11) sc_law_product.nd rfl (Or.inl rfl))) (fun _ _ _ _ _ => pts_nil) (fun _ _ _ _ _ => (pe_op op_mod (pe_op op_add (pv 6) (pe_op op_mulA (pv 4) (pe_op op_sub (pv 11) (pv 6)))) (pv 5)))) pa_nil)) pa_nil)))
      (C8.pss_cut (ps_set (i := 7) sc_law_product.nd rfl (Or.inl rfl) (pe_op op_catS (pe_lc (own := [("_law_k", 10)]) (g := (gName 10)) (tt := tYes) rfl sc_law_product.nd (pi_range1H (by rfl) T.n_range (pa_cons pe_int pa_nil)) (blkOk_by (own := [("_law_k", 10)]) (N := N_law_product) (sc := defScope d_law_product) (by decide +kernel)) (fun _ _ _ _ _ => (pg_name (i := 10) sc_law_product.nd rfl (Or.inl rfl))) (fun _ _ _ _ _ => pts_nil) (fun _ _ _ _ _ => (pe_call (ok_law_take T) (hr.mono (by decide)) (by rfl) T.g_law_take T.F_law_take.kp T.b_law_take .nil pass0 (pa_cons (pv 0) (pa_cons (pv 5) pa_nil))))) (pe_lst (pa_cons (pe_op op_mod (pe_op op_add (pe_ix ix_lH (pv 3) pe_int (fun _ _ => rfl)) (pv 4)) (pv 5)) pa_nil))))
      (C8.pss_cut (ps_set (i := 8) sc_law_product.nd rfl (Or.inl rfl) (pe_call (ok_law_answers T) (hr.mono (by decide)) (by rfl) T.g_law_answers T.F_law_answers.kp T.b_law_answers .nil pass0 (pa_cons (pe_lst (pa_cons (pv 5) pa_nil)) (pa_cons (pe_lc (own := [("_law_one", 11)]) (g := (gName 11)) (tt := tYes) rfl sc_law_product.nd (pi_seqH (pv 3)) (blkOk_by (own := [("_law_one", 11)]) (N := N_law_product) (sc := defScope d_law_product) (by decide +kernel)) (fun _ _ _ _ _ => (pg_name (i := 11) sc_law_product.nd rfl (Or.inl rfl))) (fun _ _ _ _ _ => pts_nil) (fun _ _ _ _ _ => (pe_tup (pa_cons (pv 11) pa_nil)))) (pa_cons (pe_lc (own := [("_law_one", 11)]) (g := (gName 11)) (tt := tYes) rfl sc_law_product.nd (pi_seqH (pv 7)) (blkOk_by (own := [("_law_one", 11)]) (N := N_law_product) (sc := defScope d_law_product) (by decide +kernel)) (fun _ _ _ _ _ => (pg_name (i := 11) sc_law_product.nd rfl (Or.inl rfl))) (fun _ _ _ _ _ => pts_nil) (fun _ _ _ _ _ => (pe_tup (pa_cons (pv 11) pa_nil)))) pa_nil)))))
      (C8.pss_cut (ps_setLc (i := 9) (own := [("_law_one", 11)]) (g := (gName 11)) (tt := tYes) rfl sc_law_product.nd rfl rfl (sw_true rfl rfl rfl (by decide +kernel)) (pi_seqH (pv 3)) (blkOk_by (own := [("_law_one", 11)]) (N := N_law_product) (sc := defScope d_law_product) (by decide +kernel)) (fun _ _ _ _ _ => (pg_name (i := 11) sc_law_product.nd rfl (Or.inl rfl))) (fun _ _ _ _ _ => pts_nil) (fun _ _ _ _ _ => (pe_tup (pa_cons (pe_op op_mod (pv 11) (pv 1)) (pa_cons (pe_op op_mod (pv 11) (pv 2)) pa_nil)))))
      (pss_one (ps_ret (pe_cmpR (op_eqDK (K := K) rfl hr.units) (pe_call (ok_law_answers T) (hr.mono (by decide)) (by rfl) T.g_law_answers T.F_law_answers.kp T.b_law_answers .nil pass0 (pa_cons (pe_lst (pa_cons (pv 1) (pa_cons (pv 2) pa_nil))) (pa_cons (pv 9) (pa_cons (pe_lc (own := [("_law_one", 11)]) (g := (gName 11)) (tt := tYes) rfl sc_law_product.nd (pi_seqH (pv 7)) (blkOk_by (own := [("_law_one", 11)]) (N := N_law_product) (sc := defScope d_law_product) (by decide +kernel)) (fun _ _ _ _ _ => (pg_name (i := 11) sc_law_product.nd rfl (Or.inl rfl))) (fun _ _ _ _ _ => pts_nil) (fun _ _ _ _ _ => (pe_tup (pa_cons (pe_op op_mod (pv 11) (pv 1)) (pa_cons (pe_op op_mod (pv 11) (pv 2)) pa_nil))))) pa_nil)))) (pv 8) (nomark _)))))))))))), ?_⟩
    refine ⟨MP1 a H, ?_, ?_⟩
    · walk_at "rd"
      intro p hp
      have npa : p ≠ a := hs.ne hp
      have sp := Same.new hp (o := .lst [V.int 9, V.int 15, V.int 8, V.int 45])
      refine ⟨a, 4, rfl, hs.same sp, by decide, take_small (by decide) (by decide), fun H2 r sx hs2 r0 r1 => ⟨r, rfl, _, sx _ _ npa upd_same, ?_⟩⟩
      obtain ⟨f, hf, ef⟩ := atI_ints (ns := [9, 15, 8, 45]) r0 r1
      refine ⟨_, ef, ⟨by decide, by decide, by decide⟩, fun p2 hp2 => ?_⟩
      have np2 : p2 ≠ a := hs2.ne hp2
      have sp2 := Same.new hp2 (o := .lst [V.int 7, V.int 2357947691, V.int 49, V.int 1, V.int 13])
      refine ⟨a, 5, rfl, hs2.same sp2, by decide, take_small (by decide) (by decide), fun H3 r3 sx3 hs3 r30 r31 => ⟨r3, rfl, _, sx3 _ _ np2 upd_same, ?_⟩⟩
      obtain ⟨s, hs', es⟩ := atI_ints (ns := [7, 2357947691, 49, 1, 13]) r30 r31
      refine ⟨_, es, fun T hT => ⟨f, s, rfl, ?_, hs3.same (Same.new hT), two_of hf hs'⟩⟩
      exact (((Sx.of sp).trans sx).trans (Sx.of sp2)).trans (sx3.trans (Sx.of (Same.new hT)))
    rintro σ1 H1 ⟨f, s, rfl, s1, hs1, h2⟩
    have fs1 : 1 ≤ f * s := by
      have := Int.mul_le_mul h2.f1 h2.s1 (by decide) (by have := h2.f1; omega)
      omega
    have fs2 : f * s ≤ 45 * 2357947691 := Int.mul_le_mul h2.f2 h2.s2 (by have := h2.s1; omega) (by decide)
    refine ⟨MP2 a f s H1, ?_, ?_⟩
    · walk_at "rd"
      refine ⟨a, 3, rfl, hs1, by decide, take_small (by decide) (by decide), fun H2 r sx hs2 r0 r1 => ⟨r, rfl, by omega, by omega, fun J W => ?_⟩⟩
      refine lcr_draw W (fun i y => ∃ n : Int, y = V.int n) hs2 (Nat.le_trans (by omega : (1 + r).toNat ≤ 4) (by decide)) (fun _ _ => trivial) (fun _ _ _ _ y => by rw [y.1]; exact Same.refl _) ?_ ?_
      · rintro i x H3 H4 Qy hi s3 hs3 ⟨rfl, rfl⟩ hq
        walk_at "rd"
        refine ⟨.inl (by have := h2.f1; have := h2.f2; omega), a, f * s, rfl, hs3, by omega, take_small (by omega) (by omega), fun H4 r4 s4 hs4 r40 r41 => hq _ _ s4 hs4 ⟨r4, rfl⟩⟩
      · intro D acc H3 hD s3 hs3 hlen hR hD1
        have hacc : ∃ xs : List Int, acc = xs.map V.int := by
          clear hD1 hlen
          induction acc with
          | nil => exact ⟨[], rfl⟩
          | cons y acc ih =>
            obtain ⟨n, rfl⟩ := hR 0 y rfl
            obtain ⟨xs, rfl⟩ := ih fun i y hy => hR (i + 1) y hy
            exact ⟨n :: xs, rfl⟩
        obtain ⟨xs, rfl⟩ := hacc
        rw [List.length_map] at hlen
        exact ⟨D, xs, rfl, sx.trans s3, hs3, hs2.ne hD, hD1, by omega, by omega⟩
    rintro σ2 H2 ⟨G, xs, rfl, s2, hs2, nGa, hG, x1, x3⟩
    refine ⟨MP3 a f s G H2, ?_, ?_⟩
    · walk_at "rd"
      intro p hp
      have npa : p ≠ a := hs2.ne hp
      have sp := Same.new hp (o := .lst [V.int 1, V.int 3, V.int 7, V.int 21])
      refine ⟨a, 4, rfl, hs2.same sp, by decide, take_small (by decide) (by decide), fun H3 r sx hs3 r0 r1 => ⟨r, rfl, _, sx _ _ npa upd_same, ?_⟩⟩
      obtain ⟨c, hc, ec⟩ := atI_ints (ns := [1, 3, 7, 21]) r0 r1
      refine ⟨_, ec, c, rfl, (Sx.of sp).trans sx, hs3, ?_⟩
      simp only [List.mem_cons, List.mem_nil_iff, or_false] at hc
      omega
    rintro σ3 H3 ⟨c, rfl, s3, hs3, c1, c2⟩
    have hG3 := s3 _ _ nGa hG
    refine ⟨MP4 a f s G c H3, ?_, ?_⟩
    · walk_at "rd"
      obtain ⟨x0, xr, rfl⟩ : ∃ x0 xr, xs = x0 :: xr := by
        cases xs with
        | nil => simp at x1
        | cons x0 xr => exact ⟨x0, xr, rfl⟩
      exact ⟨.inl (by have := h2.f1; have := h2.f2; omega), _, hG3, _, atI_nat (j := 0) rfl, fun p hp => ⟨x0, rfl, Same.new hp⟩⟩
    rintro σ4 H4 ⟨b, rfl, s4⟩
    have hG4 := s4 _ _ hG3
    refine ⟨MP5 a f s c b H4, ?_, ?_⟩
    · walk_at "rd"
      refine .inl ⟨_, hG4, fun J W => ?_⟩
      refine lcr_map W ((xs.map fun x => (b + c * (x - b)) % (f * s)).map V.int) (by rw [List.length_map, List.length_map, List.length_map]) (by rw [List.length_map]; exact Nat.le_trans x3 (by decide)) (fun H5 s5 => s5 _ _ hG4) (fun _ _ _ _ y => YAt.same y) ?_ ?_
      · rintro i x H5 H6 y Qy hi s5 ⟨rfl, hx⟩ hr hq
        simp only [List.getElem?_map, Option.map_eq_some_iff] at hr hx
        obtain ⟨x2, hx2, rfl⟩ := hx
        obtain ⟨r, ⟨r2, hr2, rfl⟩, rfl⟩ := hr
        rw [hx2] at hr2
        obtain rfl := Option.some.inj hr2
        walk_at "rd"
        exact ⟨.inl (by omega), by omega, hq _ (Same.refl _)⟩
      · intro D H5 hD s5 h5
        refine ⟨D, rfl, _, h5, by rw [List.length_map]; omega, fun S n hS hn => ?_⟩
        rw [List.length_map] at hn
        have t1 := Same.new hS (o := SetO w S (fun j => decide (j ∈ xs.map fun x => (b + c * (x - b)) % (f * s))) n)
        have g1 : (upd H5 S (SetO w S (fun j => decide (j ∈ xs.map fun x => (b + c * (x - b)) % (f * s))) n)) S = some (SetO w S (fun j => decide (j ∈ xs.map fun x => (b + c * (x - b)) % (f * s))) n) := upd_same
        generalize upd H5 S (SetO w S (fun j => decide (j ∈ xs.map fun x => (b + c * (x - b)) % (f * s))) n) = H6 at t1 g1 ⊢
        refine ⟨S, _, n, rfl, g1, by omega, fun ns p hso hmem hlen hp => ?_⟩
        have s46 := s5.trans t1
        refine ⟨p, ns, rfl, s46.trans (Same.new hp), upd_same, hso.imp (fun h => by omega), ⟨fun e => ?_, by omega, fun x hx => ?_⟩, Same.free s46 hp⟩
        · cases xs with
          | nil => simp at x1
          | cons x0 xr =>
            have := (hmem ((b + c * (x0 - b)) % (f * s))).mpr (decide_eq_true (List.mem_cons_self ..))
            rw [e] at this
            cases this
        · have hx := of_decide_eq_true ((hmem x).mp hx)
          obtain ⟨y, _, rfl⟩ := List.mem_map.mp hx
          exact ⟨Int.emod_nonneg _ (by omega), Int.emod_lt_of_pos _ (by omega)⟩
    rintro σ5 H5 ⟨G, xs, rfl, s5, hG5, hnd, hpl, hnG⟩
    have hs5 := (hs3.same s4).same s5
    have nGa : G ≠ a := (hs3.same s4).ne hnG
    refine ⟨MP6 a f s c b G H5, ?_, ?_⟩
    · walk_at "rd"
      intro J W
      obtain ⟨x0, xr, rfl⟩ : ∃ x0 xr, xs = x0 :: xr := by
        cases xs with
        | nil => exact absurd rfl hpl.ne
        | cons x0 xr => exact ⟨x0, xr, rfl⟩
      refine lcr_draw W (fun i y => ∃ n, y = V.int n ∧ ∀ m, ([f * s, f * s, f * s] : List Int)[i]? = some m → 0 ≤ n ∧ n < m) hs5 (by decide) (fun _ _ => trivial) (fun _ _ _ _ y => by rw [y.1]; exact Same.refl _) ?_ ?_
      · rintro i x H3 H4 Qy hi s3 hs3 ⟨rfl, rfl⟩ hq
        walk_at "rd"
        refine ⟨a, f * s, rfl, hs3, by omega, take_small (by omega) (by omega), fun H4 r4 s4 hs4 r40 r41 => hq _ _ s4 hs4 ⟨r4, rfl, fun m hm => ?_⟩⟩
        match i, hm with
        | 0, hm => obtain rfl := Option.some.inj hm; exact ⟨r40, r41⟩
        | 1, hm => obtain rfl := Option.some.inj hm; exact ⟨r40, r41⟩
        | 2, hm => obtain rfl := Option.some.inj hm; exact ⟨r40, r41⟩
        | i + 3, hm => simp at hm
      · intro D acc H3 hD s3 hs3 hlen hR hD1
        obtain ⟨zs, rfl, hzs⟩ := ints_of hR
        rw [List.length_map] at hlen
        refine ⟨_, s3 _ _ nGa hG5, _, atI_nat (j := 0) rfl, x0, rfl, by omega, fun p hp => ?_⟩
        have t1 := Same.new hp (o := .lst [V.int ((x0 + c) % (f * s))])
        have g1 : (upd H3 p (.lst [V.int ((x0 + c) % (f * s))])) p = some (.lst [V.int ((x0 + c) % (f * s))]) := upd_same
        generalize upd H3 p (HO.lst [V.int ((x0 + c) % (f * s))]) = G1 at t1 g1 ⊢
        refine ⟨D, rfl, _, .inl (.inl (t1 _ _ hD1)), _, .inl (.inl g1), ?_, fun r hr => ?_⟩
        · rw [List.length_map, hlen]
          exact (by decide : 3 + 1 ≤ sizeLine)
        · refine ⟨r, zs ++ [(x0 + c) % (f * s)], rfl, s3.trans (Sx.of (t1.trans (Same.new hr))), (hs3.same t1).same (Same.new hr), by rw [upd_same, List.map_append]; rfl, ⟨by simp, by rw [List.length_append, hlen]; simp, fun x hx => ?_⟩⟩
          rcases List.mem_append.mp hx with h | h
          · obtain ⟨i, hi, e⟩ := List.getElem_of_mem h
            have h3 : ([f * s, f * s, f * s] : List Int)[i]? = some (f * s) := by
              match i, (by omega : i < 3) with
              | 0, _ => rfl
              | 1, _ => rfl
              | 2, _ => rfl
            exact hzs i x (by rw [List.getElem?_eq_getElem hi, e]) (f * s) h3
          · rw [List.mem_singleton.mp h]
            exact ⟨Int.emod_nonneg _ (by omega), Int.emod_lt_of_pos _ (by omega)⟩
    rintro σ6 H6 ⟨B, ys, rfl, s6, hs6, hB6, hyl⟩
    have hG6 := s6 _ _ nGa hG5
    have z1 : Sz [f * s] := ⟨by simp, by simp, fun n hn => by rw [List.mem_singleton.mp hn]; exact fs1, fun n hn => by
      rw [List.mem_singleton.mp hn]
      exact Nat.lt_of_lt_of_le (by omega : (f * s).natAbs < 2 ^ 40) (Nat.pow_le_pow_right (by decide) (by decide))⟩
    have z2 : Sz [f, s] := ⟨by simp, by simp, fun n hn => by
      rcases List.mem_cons.mp hn with rfl | hn
      · exact h2.f1
      · rw [List.mem_singleton.mp hn]; exact h2.s1, fun n hn => by
      refine Nat.lt_of_lt_of_le (?_ : n.natAbs < 2 ^ 40) (Nat.pow_le_pow_right (by decide) (by decide))
      have := h2.f1
      have := h2.f2
      have := h2.s1
      have := h2.s2
      rcases List.mem_cons.mp hn with rfl | hn
      · omega
      · rw [List.mem_singleton.mp hn]; omega⟩
    have seat1 : ∀ x, 0 ≤ x → x < f * s → Seat [f * s] [x] := fun x h0 h1 => ⟨rfl, fun i p s' hp hs' => by
      cases i with
      | zero =>
        obtain rfl := Option.some.inj hp
        obtain rfl := Option.some.inj hs'
        exact ⟨h0, h1⟩
      | succ i => simp at hp⟩
    have seat2 : ∀ x : Int, Seat [f, s] [x % f, x % s] := fun x => ⟨rfl, fun i p s' hp hs' => by
      have := h2.f1
      have := h2.s1
      match i, hp, hs' with
      | 0, hp, hs' =>
        obtain rfl := Option.some.inj hp
        obtain rfl := Option.some.inj hs'
        exact ⟨Int.emod_nonneg _ (by omega), Int.emod_lt_of_pos _ (by omega)⟩
      | 1, hp, hs' =>
        obtain rfl := Option.some.inj hp
        obtain rfl := Option.some.inj hs'
        exact ⟨Int.emod_nonneg _ (by omega), Int.emod_lt_of_pos _ (by omega)⟩
      | i + 2, hp, hs' => simp at hp⟩
    have tg1 : Tgts [f * s] (xs.map fun x => [x]) := ⟨fun e => hpl.ne (List.map_eq_nil_iff.mp e), List.pairwise_map.mpr (hnd.imp fun h e => h (List.cons.inj e).1), by rw [List.length_map]; have := hpl.few; omega, fun g hg => by
      obtain ⟨x, hx, rfl⟩ := List.mem_map.mp hg
      exact seat1 x (hpl.ok x hx).1 (hpl.ok x hx).2⟩
    have crt : ∀ x y : Int, 0 ≤ x → x < f * s → 0 ≤ y → y < f * s → x % f = y % f → x % s = y % s → x = y := fun x y x0 x1 y0 y1 e1 e2 => by
      have d1 : f ∣ x - y := Int.dvd_of_emod_eq_zero (Int.emod_eq_emod_iff_emod_sub_eq_zero.mp e1)
      have d2 : s ∣ x - y := Int.dvd_of_emod_eq_zero (Int.emod_eq_emod_iff_emod_sub_eq_zero.mp e2)
      have d3 : (f.natAbs * s.natAbs) ∣ (x - y).natAbs := Nat.Coprime.mul_dvd_of_dvd_of_dvd h2.co (Int.natAbs_dvd_natAbs.mpr d1) (Int.natAbs_dvd_natAbs.mpr d2)
      rw [← Int.natAbs_mul] at d3
      rcases Nat.eq_zero_or_pos (x - y).natAbs with h | h
      · omega
      · have := Nat.le_of_dvd h d3
        omega
    have tg2 : Tgts [f, s] (xs.map fun x => [x % f, x % s]) := ⟨fun e => hpl.ne (List.map_eq_nil_iff.mp e), List.pairwise_map.mpr (List.Pairwise.imp_of_mem (fun {x y} hx hy h e => by
      obtain ⟨e1, e2⟩ := List.cons.inj e
      obtain ⟨e2, _⟩ := List.cons.inj e2
      exact h (crt x y (hpl.ok x hx).1 (hpl.ok x hx).2 (hpl.ok y hy).1 (hpl.ok y hy).2 e1 e2)) hnd), by rw [List.length_map]; have := hpl.few; omega, fun g hg => by
      obtain ⟨x, hx, rfl⟩ := List.mem_map.mp hg
      exact seat2 x⟩
    obtain ⟨a1, a2⟩ := prod_same h2.f1 h2.s1 h2.co z1 z2 hpl.ne
    have ea : ansV [f, s] (xs.map fun x => [x % f, x % s]) (ys.map fun x => [x % f, x % s]) = ansV [f * s] (xs.map fun x => [x]) (ys.map fun x => [x]) := by
      unfold ansV
      rw [a1, List.map_map, List.map_map]
      congr 1
      refine List.map_congr_left fun y _ => ?_
      show V.str _ = V.str _
      rw [a2 y]
    refine ⟨MP7 a f s c b G B (ansV [f * s] (xs.map fun x => [x]) (ys.map fun x => [x])) H6, ?_, ?_⟩
    · walk_at "rd"
      intro l hl
      have t1 := Same.new hl (o := .lst [V.int (f * s)])
      have g1 : (upd H6 l (.lst [V.int (f * s)])) l = some (.lst ([f * s].map V.int)) := upd_same
      generalize upd H6 l (HO.lst [V.int (f * s)]) = G1 at t1 g1 ⊢
      refine .inl ⟨_, t1 _ _ hG6, fun J W => ?_⟩
      rw [List.length_map] at W
      refine lcr_tups W (fun i => (fun x => [x]) (xs.getD i 0)) (by have := hpl.few; omega) (fun H7 s7 => s7 _ _ (t1 _ _ hG6)) (fun _ _ _ _ y => YAt.same y) (fun i x H7 H8 Qy hi s7 hy hq => ?_) fun X H7 hX s7 h7 => ?_
      · obtain ⟨rfl, hx⟩ := hy
        simp only [List.getElem?_map, Option.map_eq_some_iff] at hx
        obtain ⟨x2, hx2, rfl⟩ := hx
        walk_at "rd"
        exact fun t ht => hq t _ (Same.new ht) (by rw [upd_same, List.getD_eq_getElem?_getD, hx2]; rfl)
      rw [range_getI xs (fun x => [x])] at h7
      refine .inl ⟨_, s7 _ _ (t1 _ _ hB6), fun J W => ?_⟩
      rw [List.length_map] at W
      refine lcr_tups W (fun i => (fun x => [x]) (ys.getD i 0)) (by have := hyl.few; omega) (fun H8 s8 => s8 _ _ (s7 _ _ (t1 _ _ hB6))) (fun _ _ _ _ y => YAt.same y) (fun i x H8 H9 Qy hi s8 hy hq => ?_) fun Y H8 hY s8 h8 => ?_
      · obtain ⟨rfl, hx⟩ := hy
        simp only [List.getElem?_map, Option.map_eq_some_iff] at hx
        obtain ⟨x2, hx2, rfl⟩ := hx
        walk_at "rd"
        exact fun t ht => hq t _ (Same.new ht) (by rw [upd_same, List.getD_eq_getElem?_getD, hx2]; rfl)
      rw [range_getI ys (fun x => [x])] at h8
      refine ⟨l, X, Y, _, _, _, rfl, s8 _ _ (s7 _ _ g1), LstT.same s8 h7, h8, tg1, z1, fun p hp => ?_, by rw [List.length_map]; have := hyl.few; omega, fun H9 D s9 hD h9 => ⟨D, rfl, ((t1.trans s7).trans s8).trans s9, h9⟩⟩
      obtain ⟨y, hy, rfl⟩ := List.mem_map.mp hp
      exact seat1 y (hyl.ok y hy).1 (hyl.ok y hy).2
    rintro σ7 H7 ⟨W, rfl, s7, hW⟩
    refine ⟨MP8 a f s c b G B W (xs.map fun x => [x % f, x % s]) H7, ?_, ?_⟩
    · walk_at "rd"
      refine .inl ⟨_, s7 _ _ hG6, fun J W => ?_⟩
      rw [List.length_map] at W
      refine lcr_tups W (fun i => (fun x => [x % f, x % s]) (xs.getD i 0)) (by have := hpl.few; omega) (fun H8 s8 => s8 _ _ (s7 _ _ hG6)) (fun _ _ _ _ y => YAt.same y) (fun i x H8 H9 Qy hi s8 hy hq => ?_) fun X H8 hX s8 h8 => ?_
      · obtain ⟨rfl, hx⟩ := hy
        simp only [List.getElem?_map, Option.map_eq_some_iff] at hx
        obtain ⟨x2, hx2, rfl⟩ := hx
        walk_at "rd"
        refine ⟨by have := h2.f1; omega, by have := h2.s1; omega, fun t ht => hq t _ (Same.new ht) (by rw [upd_same, List.getD_eq_getElem?_getD, hx2]; rfl)⟩
      rw [range_getI xs (fun x => [x % f, x % s])] at h8
      exact ⟨X, rfl, s8, h8⟩
    rintro σ8 H8 ⟨U, rfl, s8, hU⟩
    have hB8 := s8 _ _ (s7 _ _ hB6)
    walk_at "rd"
    intro l hl
    have t1 := Same.new hl (o := .lst [V.int f, V.int s])
    have g1 : (upd H8 l (.lst [V.int f, V.int s])) l = some (.lst ([f, s].map V.int)) := upd_same
    generalize upd H8 l (HO.lst [V.int f, V.int s]) = G1 at t1 g1 ⊢
    refine .inl ⟨_, t1 _ _ hB8, fun J W => ?_⟩
    rw [List.length_map] at W
    refine lcr_tups W (fun i => (fun x => [x % f, x % s]) (ys.getD i 0)) (by have := hyl.few; omega) (fun H9 s9 => s9 _ _ (t1 _ _ hB8)) (fun _ _ _ _ y => YAt.same y) (fun i x H9 H10 Qy hi s9 hy hq => ?_) fun X H9 hX s9 h9 => ?_
    · obtain ⟨rfl, hx⟩ := hy
      simp only [List.getElem?_map, Option.map_eq_some_iff] at hx
      obtain ⟨x2, hx2, rfl⟩ := hx
      walk_at "rd"
      refine ⟨by have := h2.f1; omega, by have := h2.s1; omega, fun t ht => hq t _ (Same.new ht) (by rw [upd_same, List.getD_eq_getElem?_getD, hx2]; rfl)⟩
    rw [range_getI ys (fun x => [x % f, x % s])] at h9
    refine ⟨l, U, X, _, _, _, rfl, s9 _ _ g1, LstT.same s9 (LstT.same t1 hU), h9, tg2, z2, fun p hp => ?_, by rw [List.length_map]; have := hyl.few; omega, fun H10 D s10 hD h10 => ?_⟩
    · obtain ⟨y, hy, rfl⟩ := List.mem_map.mp hp
      exact seat2 y
    rw [ea] at h10
    have s710 := ((s8.trans t1).trans s9).trans s10
    refine eqD_flat h10 (s710 _ _ hW) (ans_flat _ _ _) ?_
    exact q H10 ((((s1.trans s2).trans s3).trans (Sx.of (s4.trans s5))).trans (s6.trans (Sx.of (s7.trans s710)))) ((hs6.same s7).same s710)
end

section
variable {P : Program} {w : World} {K : PySem.W.Frag} {mg : Str → Option Value} {base : Heap}
def ML1 (a p : Addr) (xs : List V) (H' : Hp) (σ : L2.St) (H2 : Hp) : Prop := ∃ v1 v2 v3 v4 v5, σ = [some (V.ref a), v1, v2, v3, v4, v5, none] ∧ H2 p = some (.lst xs)
def MC1 (a p : Addr) (xs : List V) (H : Hp) (σ : L2.St) (H' : Hp) : Prop := ∃ v1 c v3 v4 v5, σ = [some (V.ref a), v1, some (V.ref c), v3, v4, v5, none] ∧ Same H H' ∧ H c = none ∧ Src H' c
def MC2 (a c : Addr) (v1 : Option V) (H : Hp) (σ : L2.St) (H' : Hp) : Prop := ∃ l ss v4 v5, σ = [some (V.ref a), v1, some (V.ref c), some (V.ref l), v4, v5, none] ∧ Sx c H H' ∧ Src H' c ∧ l ≠ c ∧ H' l = some (.lst (ss.map V.int)) ∧ Sz ss ∧ ∀ n ∈ ss, n.natAbs < 2 ^ 200
def MC3 (a c l : Addr) (v1 : Option V) (ss : List Int) (H : Hp) (σ : L2.St) (H' : Hp) : Prop := ∃ L gs v5, σ = [some (V.ref a), v1, some (V.ref c), some (V.ref l), some (V.ref L), v5, none] ∧ Sx c H H' ∧ Src H' c ∧ LstT H' L gs ∧ Tgts ss gs ∧ gs.length ≤ 5
def MC4 (a c l L : Addr) (v1 : Option V) (ss : List Int) (H : Hp) (σ : L2.St) (H' : Hp) : Prop := ∃ B ps, σ = [some (V.ref a), v1, some (V.ref c), some (V.ref l), some (V.ref L), some (V.ref B), none] ∧ Sx c H H' ∧ Src H' c ∧ LstT H' B ps ∧ (∀ p ∈ ps, Seat ss p) ∧ 1 ≤ ps.length ∧ ps.length ≤ 3
def MC5 (a c l L B : Addr) (v1 : Option V) (H : Hp) (σ : L2.St) (H' : Hp) : Prop := σ = [some (V.ref a), v1, some (V.ref c), some (V.ref l), some (V.ref L), some (V.ref B), none] ∧ Sx c H H' ∧ Src H' c
def sp_law (K : PySem.W.Frag) : Sp := fun vs H Q _ => ∃ (a : Addr) (ns : List Int), vs = [.ref a] ∧ SqL K H a (ns.map V.int) ∧ ns.length ≤ 63 ∧ (∀ z ∈ ns, Builtin.Int.intBits z ≤ 1048576) ∧ ∀ H', Q (.bl true) H'
theorem ok_law (T : Tx K mg) : FnOk P w K mg base CX0 7 T.f_law T.fd_law ["_law_script"] (sp_law K) := by
  refine T.F_law.ok sc_law (fun vs H Q E h => ?_) (fun cdv A outer s H vs Q E hr h => ?_)
  · obtain ⟨a, ns, rfl, _⟩ := h; rfl
  · obtain ⟨a, ns, rfl, hS, hn, hbits, q⟩ := h
    refine ⟨_, (C8.pss_cut (ps_for PassesOwn.never rfl (pi_seqH (pe_slice sl_list (pe_op op_catS (pv 0) (pe_lst (pa_cons pe_int pa_nil))) po_none (po_some pe_int))) (pg_name (i := 1) sc_law.nd rfl (Or.inl rfl))
        (C8.pss_cut (ps_set (i := 2) sc_law.nd rfl (Or.inr rfl) (pe_call (ok_law_source T) (hr.mono (by decide)) (by rfl) T.g_law_source T.F_law_source.kp T.b_law_source .nil pass0 (pa_cons (pv 1) pa_nil)))
        (C8.pss_cut (ps_set (i := 3) sc_law.nd rfl (Or.inr rfl) (pe_call (ok_law_sizes T) (hr.mono (by decide)) (by rfl) T.g_law_sizes T.F_law_sizes.kp T.b_law_sizes .nil pass0 (pa_cons (pv 2) pa_nil)))
        (C8.pss_cut (ps_set (i := 4) sc_law.nd rfl (Or.inr rfl) (pe_call (ok_law_goals T) (hr.mono (by decide)) (by rfl) T.g_law_goals T.F_law_goals.kp T.b_law_goals .nil pass0 (pa_cons (pv 2) (pa_cons (pv 3) pa_nil))))
        (C8.pss_cut (ps_setLc (i := 5) (own := [("_law_k", 6)]) (g := (gName 6)) (tt := tYes) rfl sc_law.nd rfl rfl (sw_true rfl rfl rfl (by decide +kernel)) (pi_range1H (by rfl) T.n_range (pa_cons pe_int pa_nil)) (blkOk_by (own := [("_law_k", 6)]) (N := N_law) (sc := defScope d_law) (by decide +kernel)) (fun _ _ _ _ _ => (pg_name (i := 6) sc_law.nd rfl (Or.inl rfl))) (fun _ _ _ _ _ => pts_nil) (fun _ _ _ _ _ => (pe_call (ok_law_probe T) (hr.mono (by decide)) (by rfl) T.g_law_probe T.F_law_probe.kp T.b_law_probe .nil pass0 (pa_cons (pv 2) (pa_cons (pv 3) (pa_cons (pv 4) pa_nil))))))
        (C8.pss_cut (ps_if (PW.pt (pw_or (pt_not (pt_val (pe_call (ok_law_same_table T) (hr.mono (by decide)) (by rfl) T.g_law_same_table T.F_law_same_table.kp T.b_law_same_table .nil pass0 (pa_cons (pv 2) (pa_cons (pv 3) (pa_cons (pv 4) (pa_cons (pv 5) pa_nil))))))) (pw_or1 (pt_not (pt_val (pe_call (ok_law_product T) (hr.mono (by decide)) (by rfl) T.g_law_product T.F_law_product.kp T.b_law_product .nil pass0 (pa_cons (pv 2) pa_nil))))))) (pss_one (ps_ret pe_bl)) pss_nil)
        (pss_one (ps_if (pt_not (pt_val (pe_call (ok_law_other_table T) (hr.mono (by decide)) (by rfl) T.g_law_other_table T.F_law_other_table.kp T.b_law_other_table .nil pass0 (pa_cons (pv 2) (pa_cons (pv 3) (pa_cons (pv 4) (pa_cons (pv 5) pa_nil))))))) (pss_one (ps_ret pe_bl)) pss_nil))))))))
      (pss_one (ps_ret pe_bl))), ?_⟩
    refine ⟨fun σ H' => σ.length = 7, ?_, ?_⟩
    · walk_at "rd"
      intro p hp
      have f1 : (upd H p (.lst [V.int 0])) p = some (.lst [V.int 0]) := upd_same
      have s1 := Same.new hp (o := .lst [V.int 0])
      generalize upd H p (HO.lst [V.int 0]) = H1 at s1 f1 ⊢
      refine ⟨_, s1.seq hS, _, .inl (.inl f1), ?_, fun p1 hp1 => ⟨_, .inl (.inl upd_same), fun p2 hp2 J W => ?_⟩⟩
      · rw [List.length_map]
        exact Nat.le_trans (by simp; omega : ns.length + [V.int 0].length ≤ 64) (by decide)
      generalize hH2 : upd H1 p1 (HO.lst (ns.map V.int ++ [V.int 0])) = H2 at hp2 ⊢
      have ei : cutV (ns.map V.int ++ [V.int 0]) none (some 3) = ((ns ++ [0]).take 3).map V.int := by
        by_cases e3 : 3 ≤ ns.length + 1
        · have e := cut_to (xs := ns.map V.int ++ [V.int 0]) (n := 3) (by simp; omega)
          rw [show ((3 : Nat) : Int) = 3 by rfl] at e
          rw [e, List.map_take, List.map_append]
          rfl
        · unfold cutV
          have e5 : HT.sIx (ns.map V.int ++ [V.int 0]).length (ns.map V.int ++ [V.int 0]).length (some 3) = (ns.map V.int ++ [V.int 0]).length := by
            show (if (3 : Int) < 0 then ((3 : Int) + ((ns.map V.int ++ [V.int 0]).length : Int)).toNat else min (3 : Int).toNat (ns.map V.int ++ [V.int 0]).length) = _
            rw [if_neg (by decide)]
            simp
            omega
          rw [e5, show HT.sIx (ns.map V.int ++ [V.int 0]).length 0 none = 0 from rfl, List.drop_zero, Nat.sub_zero, List.take_of_length_le (Nat.le_refl _), List.take_of_length_le (by simp; omega), List.map_append]
          rfl
      rw [ei] at W ⊢
      generalize ((ns ++ [0]).take 3) = ms at W ⊢
      have f3 : (upd H2 p2 (.lst (ms.map V.int))) p2 = some (.lst (ms.map V.int)) := upd_same
      generalize upd H2 p2 (HO.lst (ms.map V.int)) = H3 at f3 ⊢
      refine forr W (fun i σ H' => ML1 a p2 (ms.map V.int) H' σ H') ⟨none, none, none, none, none, rfl, f3⟩ (fun _ _ _ _ h => by obtain ⟨_, _, _, _, _, _, h⟩ := h; exact h) ?_ ?_
      · rintro i x σ H4o H4 hi ⟨v1, v2, v3, v4, v5, rfl, h4⟩ ⟨rfl, hx⟩
        simp only [List.getElem?_map, Option.map_eq_some_iff] at hx
        obtain ⟨n, hn, rfl⟩ := hx
        walk_at "rd"
        refine ⟨MC1 a p2 (ms.map V.int) H4, ?_, ?_⟩
        · walk_at "rd"
          exact ⟨n, rfl, fun H5 c s5 hc hsrc => ⟨_, c, _, _, _, rfl, s5, hc, hsrc⟩⟩
        rintro σ5 H5 ⟨v1, c, v3, v4, v5, rfl, s5, hc, hsrc⟩
        have npc : p2 ≠ c := ne_some h4 hc
        have h5 := s5 _ _ h4
        refine ⟨MC2 a c v1 H5, ?_, ?_⟩
        · walk_at "rd"
          exact ⟨c, rfl, hsrc, fun H6 l ss s6 hs6 hHl hl nl z z2 => ⟨l, ss, _, _, rfl, s6, hs6, nl, hl, z, z2⟩⟩
        rintro σ6 H6 ⟨l, ss, v4, v5, rfl, s6, hs6, nlc, hl, z, z2⟩
        refine ⟨MC3 a c l v1 ss H6, ?_, ?_⟩
        · walk_at "rd"
          exact ⟨c, l, ss, rfl, hs6, hl, nlc, z, fun H7 L gs s7 hs7 hnL hL hgs h5 => ⟨L, gs, _, rfl, s7, hs7, hL, hgs, h5⟩⟩
        rintro σ7 H7 ⟨L, gs, v5, rfl, s7, hs7, hL, hgs, g5⟩
        have hl7 := s7 _ _ nlc hl
        refine ⟨MC4 a c l L v1 ss H7, ?_, ?_⟩
        · walk_at "rd"
          intro J W
          refine lcr_tupsD W (Seat ss) hs7 (by decide) (fun _ _ => trivial) (fun _ _ _ _ y => by rw [y.1]; exact Same.refl _) ?_ ?_
          · rintro i x H8 H9 Qy hi s8 hs8 ⟨rfl, rfl⟩ hq
            walk_at "rd"
            exact ⟨c, l, L, ss, gs, rfl, hs8, s8 _ _ nlc hl7, nlc, z, LstT.sx hL hgs.ne hs7 s8, hgs.ne, by omega, hgs.ok, fun H9 t zs s9 hs9 ht hS => hq t zs H9 s9 hs9 hS ht⟩
          · intro B ps H8 hB s8 hs8 hlen hps hLB
            exact ⟨B, ps, rfl, s8, hs8, hLB, hps, by omega, by omega⟩
        rintro σ8 H8 ⟨B, ps, rfl, s8, hs8, hB, hps, p1', p3⟩
        have hl8 := s8 _ _ nlc hl7
        have hL8 := LstT.sx hL hgs.ne hs7 s8
        have h8 := s8 _ _ npc (s7 _ _ npc (s6 _ _ npc h5))
        refine ⟨MC5 a c l L B v1 H8, ?_, ?_⟩
        · walk_at "rd"
          refine ⟨c, l, L, B, ss, gs, ps, rfl, hs8, hl8, nlc, hL8, hB, hgs, g5, z, hps, p1', p3, fun H9 s9 hs9 => ⟨true, rfl, ?_⟩⟩
          walk_at "rd"
          refine ⟨c, rfl, hs9, fun H10 s10 hs10 => ⟨true, rfl, ?_⟩⟩
          walk_at "rd"
          exact ⟨rfl, s9.trans s10, hs10⟩
        rintro σ9 H9 ⟨rfl, s9, hs9⟩
        have hpsne : ps ≠ [] := fun e => by rw [e] at p1'; simp at p1'
        walk_at "rd"
        refine ⟨c, l, L, B, ss, gs, ps, rfl, hs9, s9 _ _ nlc hl8, nlc, LstT.sx hL8 hgs.ne hs8 s9, LstT.sx hB hpsne hs8 s9, hgs, g5, z, z2, hps, p1', p3, fun H10 s10 hs10 => ⟨true, rfl, ?_⟩⟩
        walk_at "rd"
        exact ⟨_, _, _, _, _, rfl, s10 _ _ npc (s9 _ _ npc h8)⟩
      · rintro σ H4 ⟨v1, v2, v3, v4, v5, rfl, h4⟩
        rfl
    rintro σ H4 _
    walk_at "rd"
    exact q _
end

theorem kit_self (K : PySem.W.Frag) (C : Addr) : PySem.W.kitOne K (.ref C) (.ref C) = some true := by
  unfold PySem.W.kitOne
  rw [if_pos]
  exact beq_self_eq_true _
theorem all_mk {P : Program} {w : World} {K : PySem.W.Frag} {h : Heap} {mg : Str → Option Value} {fa : Addr} (X : K.In h) (G : h.Ns mainGlobals mg) (hfa : mg "law" = some (.ref fa))
    {c_Table : Addr} {f_is_integer : Addr} {od_is_integer an_is_integer : Option Addr} {sl_is_integer : Array (Option Value)} {oc_is_integer kV_is_integer dc_is_integer pm_is_integer cd_is_integer ct_is_integer : Value} {f_is_seat : Addr} {od_is_seat an_is_seat : Option Addr} {sl_is_seat : Array (Option Value)} {oc_is_seat kV_is_seat dc_is_seat pm_is_seat cd_is_seat ct_is_seat : Value} {f_require_seat : Addr} {od_require_seat an_require_seat : Option Addr} {sl_require_seat : Array (Option Value)} {oc_require_seat kV_require_seat dc_require_seat pm_require_seat cd_require_seat ct_require_seat : Value} {f_require_seats : Addr} {od_require_seats an_require_seats : Option Addr} {sl_require_seats : Array (Option Value)} {oc_require_seats kV_require_seats dc_require_seats pm_require_seats cd_require_seats ct_require_seats : Value} {f_require_targets : Addr} {od_require_targets an_require_targets : Option Addr} {sl_require_targets : Array (Option Value)} {oc_require_targets kV_require_targets dc_require_targets pm_require_targets cd_require_targets ct_require_targets : Value} {f_Table_init : Addr} {od_Table_init an_Table_init : Option Addr} {sl_Table_init : Array (Option Value)} {oc_Table_init kV_Table_init dc_Table_init pm_Table_init cd_Table_init ct_Table_init : Value} {f_Table_sizes : Addr} {od_Table_sizes an_Table_sizes : Option Addr} {sl_Table_sizes : Array (Option Value)} {oc_Table_sizes kV_Table_sizes dc_Table_sizes pm_Table_sizes cd_Table_sizes ct_Table_sizes : Value} {f_sizes_of : Addr} {od_sizes_of an_sizes_of : Option Addr} {sl_sizes_of : Array (Option Value)} {oc_sizes_of kV_sizes_of dc_sizes_of pm_sizes_of cd_sizes_of ct_sizes_of : Value} {f_are_sizes : Addr} {od_are_sizes an_are_sizes : Option Addr} {sl_are_sizes : Array (Option Value)} {oc_are_sizes kV_are_sizes dc_are_sizes pm_are_sizes cd_are_sizes ct_are_sizes : Value} {f_weighted_sum : Addr} {od_weighted_sum an_weighted_sum : Option Addr} {sl_weighted_sum : Array (Option Value)} {oc_weighted_sum kV_weighted_sum dc_weighted_sum pm_weighted_sum cd_weighted_sum ct_weighted_sum : Value} {f_common_divisor : Addr} {od_common_divisor an_common_divisor : Option Addr} {sl_common_divisor : Array (Option Value)} {oc_common_divisor kV_common_divisor dc_common_divisor pm_common_divisor cd_common_divisor ct_common_divisor : Value} {f_odd_part : Addr} {od_odd_part an_odd_part : Option Addr} {sl_odd_part : Array (Option Value)} {oc_odd_part kV_odd_part dc_odd_part pm_odd_part cd_odd_part ct_odd_part : Value} {f_difference : Addr} {od_difference an_difference : Option Addr} {sl_difference : Array (Option Value)} {oc_difference kV_difference dc_difference pm_difference cd_difference ct_difference : Value} {f_shift_basis : Addr} {od_shift_basis an_shift_basis : Option Addr} {sl_shift_basis : Array (Option Value)} {oc_shift_basis kV_shift_basis dc_shift_basis pm_shift_basis cd_shift_basis ct_shift_basis : Value} {f_pivot_product : Addr} {od_pivot_product an_pivot_product : Option Addr} {sl_pivot_product : Array (Option Value)} {oc_pivot_product kV_pivot_product dc_pivot_product pm_pivot_product cd_pivot_product ct_pivot_product : Value} {f_inverse_column : Addr} {od_inverse_column an_inverse_column : Option Addr} {sl_inverse_column : Array (Option Value)} {oc_inverse_column kV_inverse_column dc_inverse_column pm_inverse_column cd_inverse_column ct_inverse_column : Value} {f_diagonal : Addr} {od_diagonal an_diagonal : Option Addr} {sl_diagonal : Array (Option Value)} {oc_diagonal kV_diagonal dc_diagonal pm_diagonal cd_diagonal ct_diagonal : Value} {f_with_vector : Addr} {od_with_vector an_with_vector : Option Addr} {sl_with_vector : Array (Option Value)} {oc_with_vector kV_with_vector dc_with_vector pm_with_vector cd_with_vector ct_with_vector : Value} {f_reduced : Addr} {od_reduced an_reduced : Option Addr} {sl_reduced : Array (Option Value)} {oc_reduced kV_reduced dc_reduced pm_reduced cd_reduced ct_reduced : Value} {f_coset_count : Addr} {od_coset_count an_coset_count : Option Addr} {sl_coset_count : Array (Option Value)} {oc_coset_count kV_coset_count dc_coset_count pm_coset_count cd_coset_count ct_coset_count : Value} {f_reach : Addr} {od_reach an_reach : Option Addr} {sl_reach : Array (Option Value)} {oc_reach kV_reach dc_reach pm_reach cd_reach ct_reach : Value} {f_short_witness : Addr} {od_short_witness an_short_witness : Option Addr} {sl_short_witness : Array (Option Value)} {oc_short_witness kV_short_witness dc_short_witness pm_short_witness cd_short_witness ct_short_witness : Value} {f_law_mixed : Addr} {od_law_mixed an_law_mixed : Option Addr} {sl_law_mixed : Array (Option Value)} {oc_law_mixed kV_law_mixed dc_law_mixed pm_law_mixed cd_law_mixed ct_law_mixed : Value} {f_law_source : Addr} {od_law_source an_law_source : Option Addr} {sl_law_source : Array (Option Value)} {oc_law_source kV_law_source dc_law_source pm_law_source cd_law_source ct_law_source : Value} {f_law_take : Addr} {od_law_take an_law_take : Option Addr} {sl_law_take : Array (Option Value)} {oc_law_take kV_law_take dc_law_take pm_law_take cd_law_take ct_law_take : Value} {f_law_gcd : Addr} {od_law_gcd an_law_gcd : Option Addr} {sl_law_gcd : Array (Option Value)} {oc_law_gcd kV_law_gcd dc_law_gcd pm_law_gcd cd_law_gcd ct_law_gcd : Value} {f_law_sum : Addr} {od_law_sum an_law_sum : Option Addr} {sl_law_sum : Array (Option Value)} {oc_law_sum kV_law_sum dc_law_sum pm_law_sum cd_law_sum ct_law_sum : Value} {f_law_times : Addr} {od_law_times an_law_times : Option Addr} {sl_law_times : Array (Option Value)} {oc_law_times kV_law_times dc_law_times pm_law_times cd_law_times ct_law_times : Value} {f_law_seat : Addr} {od_law_seat an_law_seat : Option Addr} {sl_law_seat : Array (Option Value)} {oc_law_seat kV_law_seat dc_law_seat pm_law_seat cd_law_seat ct_law_seat : Value} {f_law_sizes : Addr} {od_law_sizes an_law_sizes : Option Addr} {sl_law_sizes : Array (Option Value)} {oc_law_sizes kV_law_sizes dc_law_sizes pm_law_sizes cd_law_sizes ct_law_sizes : Value} {f_law_goals : Addr} {od_law_goals an_law_goals : Option Addr} {sl_law_goals : Array (Option Value)} {oc_law_goals kV_law_goals dc_law_goals pm_law_goals cd_law_goals ct_law_goals : Value} {f_law_probe : Addr} {od_law_probe an_law_probe : Option Addr} {sl_law_probe : Array (Option Value)} {oc_law_probe kV_law_probe dc_law_probe pm_law_probe cd_law_probe ct_law_probe : Value} {f_law_unit : Addr} {od_law_unit an_law_unit : Option Addr} {sl_law_unit : Array (Option Value)} {oc_law_unit kV_law_unit dc_law_unit pm_law_unit cd_law_unit ct_law_unit : Value} {f_law_answers : Addr} {od_law_answers an_law_answers : Option Addr} {sl_law_answers : Array (Option Value)} {oc_law_answers kV_law_answers dc_law_answers pm_law_answers cd_law_answers ct_law_answers : Value} {f_law_same_table : Addr} {od_law_same_table an_law_same_table : Option Addr} {sl_law_same_table : Array (Option Value)} {oc_law_same_table kV_law_same_table dc_law_same_table pm_law_same_table cd_law_same_table ct_law_same_table : Value} {f_law_other_table : Addr} {od_law_other_table an_law_other_table : Option Addr} {sl_law_other_table : Array (Option Value)} {oc_law_other_table kV_law_other_table dc_law_other_table pm_law_other_table cd_law_other_table ct_law_other_table : Value} {f_law_product : Addr} {od_law_product an_law_product : Option Addr} {sl_law_product : Array (Option Value)} {oc_law_product kV_law_product dc_law_product pm_law_product cd_law_product ct_law_product : Value} {f_law : Addr} {od_law an_law : Option Addr} {sl_law : Array (Option Value)} {oc_law kV_law dc_law pm_law cd_law ct_law : Value} {v_MAX_RINGS : Value}
    (ac_Table : PySem.W.nsIn K mainGlobals "Table" = some (some (.ref c_Table)))
    (a_is_integer : PySem.W.nsIn K mainGlobals "is_integer" = some (some (.ref f_is_integer)))
    (l_is_integer : K.lookup f_is_integer = some ⟨oc_is_integer, od_is_integer, .func (PySem.W.fnOf "is_integer" "is_integer" (defArgs d_is_integer) (defBody d_is_integer) (defScope d_is_integer) .none kV_is_integer dc_is_integer pm_is_integer an_is_integer cd_is_integer ct_is_integer), sl_is_integer⟩)
    (x_is_integer : PySem.W.codeIn K cd_is_integer "is_integer" = true)
    (k_is_integer : PySem.W.keepIn K (.ref f_is_integer) = true)
    (a_is_seat : PySem.W.nsIn K mainGlobals "is_seat" = some (some (.ref f_is_seat)))
    (l_is_seat : K.lookup f_is_seat = some ⟨oc_is_seat, od_is_seat, .func (PySem.W.fnOf "is_seat" "is_seat" (defArgs d_is_seat) (defBody d_is_seat) (defScope d_is_seat) .none kV_is_seat dc_is_seat pm_is_seat an_is_seat cd_is_seat ct_is_seat), sl_is_seat⟩)
    (x_is_seat : PySem.W.codeIn K cd_is_seat "is_seat" = true)
    (k_is_seat : PySem.W.keepIn K (.ref f_is_seat) = true)
    (a_require_seat : PySem.W.nsIn K mainGlobals "require_seat" = some (some (.ref f_require_seat)))
    (l_require_seat : K.lookup f_require_seat = some ⟨oc_require_seat, od_require_seat, .func (PySem.W.fnOf "require_seat" "require_seat" (defArgs d_require_seat) (defBody d_require_seat) (defScope d_require_seat) .none kV_require_seat dc_require_seat pm_require_seat an_require_seat cd_require_seat ct_require_seat), sl_require_seat⟩)
    (x_require_seat : PySem.W.codeIn K cd_require_seat "require_seat" = true)
    (k_require_seat : PySem.W.keepIn K (.ref f_require_seat) = true)
    (a_require_seats : PySem.W.nsIn K mainGlobals "require_seats" = some (some (.ref f_require_seats)))
    (l_require_seats : K.lookup f_require_seats = some ⟨oc_require_seats, od_require_seats, .func (PySem.W.fnOf "require_seats" "require_seats" (defArgs d_require_seats) (defBody d_require_seats) (defScope d_require_seats) .none kV_require_seats dc_require_seats pm_require_seats an_require_seats cd_require_seats ct_require_seats), sl_require_seats⟩)
    (x_require_seats : PySem.W.codeIn K cd_require_seats "require_seats" = true)
    (k_require_seats : PySem.W.keepIn K (.ref f_require_seats) = true)
    (a_require_targets : PySem.W.nsIn K mainGlobals "require_targets" = some (some (.ref f_require_targets)))
    (l_require_targets : K.lookup f_require_targets = some ⟨oc_require_targets, od_require_targets, .func (PySem.W.fnOf "require_targets" "require_targets" (defArgs d_require_targets) (defBody d_require_targets) (defScope d_require_targets) .none kV_require_targets dc_require_targets pm_require_targets an_require_targets cd_require_targets ct_require_targets), sl_require_targets⟩)
    (x_require_targets : PySem.W.codeIn K cd_require_targets "require_targets" = true)
    (k_require_targets : PySem.W.keepIn K (.ref f_require_targets) = true)
    (a_Table_init : PySem.W.findIn K (.ref c_Table) "__init__" = some (some (.ref f_Table_init)))
    (i_Table_init : PySem.W.isFn K (.ref f_Table_init) = true)
    (l_Table_init : K.lookup f_Table_init = some ⟨oc_Table_init, od_Table_init, .func (PySem.W.fnOf "__init__" "Table.__init__" (defArgs d_Table_init) (defBody d_Table_init) (defScope d_Table_init) .none kV_Table_init dc_Table_init pm_Table_init an_Table_init cd_Table_init ct_Table_init), sl_Table_init⟩)
    (x_Table_init : PySem.W.codeIn K cd_Table_init "Table.__init__" = true)
    (k_Table_init : PySem.W.keepIn K (.ref f_Table_init) = true)
    (a_Table_sizes : PySem.W.findIn K (.ref c_Table) "sizes" = some (some (.ref f_Table_sizes)))
    (i_Table_sizes : PySem.W.isFn K (.ref f_Table_sizes) = true)
    (l_Table_sizes : K.lookup f_Table_sizes = some ⟨oc_Table_sizes, od_Table_sizes, .func (PySem.W.fnOf "sizes" "Table.sizes" (defArgs d_Table_sizes) (defBody d_Table_sizes) (defScope d_Table_sizes) .none kV_Table_sizes dc_Table_sizes pm_Table_sizes an_Table_sizes cd_Table_sizes ct_Table_sizes), sl_Table_sizes⟩)
    (x_Table_sizes : PySem.W.codeIn K cd_Table_sizes "Table.sizes" = true)
    (k_Table_sizes : PySem.W.keepIn K (.ref f_Table_sizes) = true)
    (a_sizes_of : PySem.W.nsIn K mainGlobals "sizes_of" = some (some (.ref f_sizes_of)))
    (l_sizes_of : K.lookup f_sizes_of = some ⟨oc_sizes_of, od_sizes_of, .func (PySem.W.fnOf "sizes_of" "sizes_of" (defArgs d_sizes_of) (defBody d_sizes_of) (defScope d_sizes_of) .none kV_sizes_of dc_sizes_of pm_sizes_of an_sizes_of cd_sizes_of ct_sizes_of), sl_sizes_of⟩)
    (x_sizes_of : PySem.W.codeIn K cd_sizes_of "sizes_of" = true)
    (k_sizes_of : PySem.W.keepIn K (.ref f_sizes_of) = true)
    (a_are_sizes : PySem.W.nsIn K mainGlobals "_are_sizes" = some (some (.ref f_are_sizes)))
    (l_are_sizes : K.lookup f_are_sizes = some ⟨oc_are_sizes, od_are_sizes, .func (PySem.W.fnOf "_are_sizes" "_are_sizes" (defArgs d_are_sizes) (defBody d_are_sizes) (defScope d_are_sizes) .none kV_are_sizes dc_are_sizes pm_are_sizes an_are_sizes cd_are_sizes ct_are_sizes), sl_are_sizes⟩)
    (x_are_sizes : PySem.W.codeIn K cd_are_sizes "_are_sizes" = true)
    (k_are_sizes : PySem.W.keepIn K (.ref f_are_sizes) = true)
    (a_weighted_sum : PySem.W.nsIn K mainGlobals "weighted_sum" = some (some (.ref f_weighted_sum)))
    (l_weighted_sum : K.lookup f_weighted_sum = some ⟨oc_weighted_sum, od_weighted_sum, .func (PySem.W.fnOf "weighted_sum" "weighted_sum" (defArgs d_weighted_sum) (defBody d_weighted_sum) (defScope d_weighted_sum) .none kV_weighted_sum dc_weighted_sum pm_weighted_sum an_weighted_sum cd_weighted_sum ct_weighted_sum), sl_weighted_sum⟩)
    (x_weighted_sum : PySem.W.codeIn K cd_weighted_sum "weighted_sum" = true)
    (k_weighted_sum : PySem.W.keepIn K (.ref f_weighted_sum) = true)
    (a_common_divisor : PySem.W.nsIn K mainGlobals "common_divisor" = some (some (.ref f_common_divisor)))
    (l_common_divisor : K.lookup f_common_divisor = some ⟨oc_common_divisor, od_common_divisor, .func (PySem.W.fnOf "common_divisor" "common_divisor" (defArgs d_common_divisor) (defBody d_common_divisor) (defScope d_common_divisor) .none kV_common_divisor dc_common_divisor pm_common_divisor an_common_divisor cd_common_divisor ct_common_divisor), sl_common_divisor⟩)
    (x_common_divisor : PySem.W.codeIn K cd_common_divisor "common_divisor" = true)
    (k_common_divisor : PySem.W.keepIn K (.ref f_common_divisor) = true)
    (a_odd_part : PySem.W.nsIn K mainGlobals "odd_part" = some (some (.ref f_odd_part)))
    (l_odd_part : K.lookup f_odd_part = some ⟨oc_odd_part, od_odd_part, .func (PySem.W.fnOf "odd_part" "odd_part" (defArgs d_odd_part) (defBody d_odd_part) (defScope d_odd_part) .none kV_odd_part dc_odd_part pm_odd_part an_odd_part cd_odd_part ct_odd_part), sl_odd_part⟩)
    (x_odd_part : PySem.W.codeIn K cd_odd_part "odd_part" = true)
    (k_odd_part : PySem.W.keepIn K (.ref f_odd_part) = true)
    (a_difference : PySem.W.nsIn K mainGlobals "difference" = some (some (.ref f_difference)))
    (l_difference : K.lookup f_difference = some ⟨oc_difference, od_difference, .func (PySem.W.fnOf "difference" "difference" (defArgs d_difference) (defBody d_difference) (defScope d_difference) .none kV_difference dc_difference pm_difference an_difference cd_difference ct_difference), sl_difference⟩)
    (x_difference : PySem.W.codeIn K cd_difference "difference" = true)
    (k_difference : PySem.W.keepIn K (.ref f_difference) = true)
    (a_shift_basis : PySem.W.nsIn K mainGlobals "shift_basis" = some (some (.ref f_shift_basis)))
    (l_shift_basis : K.lookup f_shift_basis = some ⟨oc_shift_basis, od_shift_basis, .func (PySem.W.fnOf "shift_basis" "shift_basis" (defArgs d_shift_basis) (defBody d_shift_basis) (defScope d_shift_basis) .none kV_shift_basis dc_shift_basis pm_shift_basis an_shift_basis cd_shift_basis ct_shift_basis), sl_shift_basis⟩)
    (x_shift_basis : PySem.W.codeIn K cd_shift_basis "shift_basis" = true)
    (k_shift_basis : PySem.W.keepIn K (.ref f_shift_basis) = true)
    (a_pivot_product : PySem.W.nsIn K mainGlobals "pivot_product" = some (some (.ref f_pivot_product)))
    (l_pivot_product : K.lookup f_pivot_product = some ⟨oc_pivot_product, od_pivot_product, .func (PySem.W.fnOf "pivot_product" "pivot_product" (defArgs d_pivot_product) (defBody d_pivot_product) (defScope d_pivot_product) .none kV_pivot_product dc_pivot_product pm_pivot_product an_pivot_product cd_pivot_product ct_pivot_product), sl_pivot_product⟩)
    (x_pivot_product : PySem.W.codeIn K cd_pivot_product "pivot_product" = true)
    (k_pivot_product : PySem.W.keepIn K (.ref f_pivot_product) = true)
    (a_inverse_column : PySem.W.nsIn K mainGlobals "inverse_column" = some (some (.ref f_inverse_column)))
    (l_inverse_column : K.lookup f_inverse_column = some ⟨oc_inverse_column, od_inverse_column, .func (PySem.W.fnOf "inverse_column" "inverse_column" (defArgs d_inverse_column) (defBody d_inverse_column) (defScope d_inverse_column) .none kV_inverse_column dc_inverse_column pm_inverse_column an_inverse_column cd_inverse_column ct_inverse_column), sl_inverse_column⟩)
    (x_inverse_column : PySem.W.codeIn K cd_inverse_column "inverse_column" = true)
    (k_inverse_column : PySem.W.keepIn K (.ref f_inverse_column) = true)
    (a_diagonal : PySem.W.nsIn K mainGlobals "_diagonal" = some (some (.ref f_diagonal)))
    (l_diagonal : K.lookup f_diagonal = some ⟨oc_diagonal, od_diagonal, .func (PySem.W.fnOf "_diagonal" "_diagonal" (defArgs d_diagonal) (defBody d_diagonal) (defScope d_diagonal) .none kV_diagonal dc_diagonal pm_diagonal an_diagonal cd_diagonal ct_diagonal), sl_diagonal⟩)
    (x_diagonal : PySem.W.codeIn K cd_diagonal "_diagonal" = true)
    (k_diagonal : PySem.W.keepIn K (.ref f_diagonal) = true)
    (a_with_vector : PySem.W.nsIn K mainGlobals "_with_vector" = some (some (.ref f_with_vector)))
    (l_with_vector : K.lookup f_with_vector = some ⟨oc_with_vector, od_with_vector, .func (PySem.W.fnOf "_with_vector" "_with_vector" (defArgs d_with_vector) (defBody d_with_vector) (defScope d_with_vector) .none kV_with_vector dc_with_vector pm_with_vector an_with_vector cd_with_vector ct_with_vector), sl_with_vector⟩)
    (x_with_vector : PySem.W.codeIn K cd_with_vector "_with_vector" = true)
    (k_with_vector : PySem.W.keepIn K (.ref f_with_vector) = true)
    (a_reduced : PySem.W.nsIn K mainGlobals "_reduced" = some (some (.ref f_reduced)))
    (l_reduced : K.lookup f_reduced = some ⟨oc_reduced, od_reduced, .func (PySem.W.fnOf "_reduced" "_reduced" (defArgs d_reduced) (defBody d_reduced) (defScope d_reduced) .none kV_reduced dc_reduced pm_reduced an_reduced cd_reduced ct_reduced), sl_reduced⟩)
    (x_reduced : PySem.W.codeIn K cd_reduced "_reduced" = true)
    (k_reduced : PySem.W.keepIn K (.ref f_reduced) = true)
    (a_coset_count : PySem.W.nsIn K mainGlobals "coset_count" = some (some (.ref f_coset_count)))
    (l_coset_count : K.lookup f_coset_count = some ⟨oc_coset_count, od_coset_count, .func (PySem.W.fnOf "coset_count" "coset_count" (defArgs d_coset_count) (defBody d_coset_count) (defScope d_coset_count) .none kV_coset_count dc_coset_count pm_coset_count an_coset_count cd_coset_count ct_coset_count), sl_coset_count⟩)
    (x_coset_count : PySem.W.codeIn K cd_coset_count "coset_count" = true)
    (k_coset_count : PySem.W.keepIn K (.ref f_coset_count) = true)
    (a_reach : PySem.W.nsIn K mainGlobals "reach" = some (some (.ref f_reach)))
    (l_reach : K.lookup f_reach = some ⟨oc_reach, od_reach, .func (PySem.W.fnOf "reach" "reach" (defArgs d_reach) (defBody d_reach) (defScope d_reach) .none kV_reach dc_reach pm_reach an_reach cd_reach ct_reach), sl_reach⟩)
    (x_reach : PySem.W.codeIn K cd_reach "reach" = true)
    (k_reach : PySem.W.keepIn K (.ref f_reach) = true)
    (a_short_witness : PySem.W.nsIn K mainGlobals "_short_witness" = some (some (.ref f_short_witness)))
    (l_short_witness : K.lookup f_short_witness = some ⟨oc_short_witness, od_short_witness, .func (PySem.W.fnOf "_short_witness" "_short_witness" (defArgs d_short_witness) (defBody d_short_witness) (defScope d_short_witness) .none kV_short_witness dc_short_witness pm_short_witness an_short_witness cd_short_witness ct_short_witness), sl_short_witness⟩)
    (x_short_witness : PySem.W.codeIn K cd_short_witness "_short_witness" = true)
    (k_short_witness : PySem.W.keepIn K (.ref f_short_witness) = true)
    (a_law_mixed : PySem.W.nsIn K mainGlobals "_law_mixed" = some (some (.ref f_law_mixed)))
    (l_law_mixed : K.lookup f_law_mixed = some ⟨oc_law_mixed, od_law_mixed, .func (PySem.W.fnOf "_law_mixed" "_law_mixed" (defArgs d_law_mixed) (defBody d_law_mixed) (defScope d_law_mixed) .none kV_law_mixed dc_law_mixed pm_law_mixed an_law_mixed cd_law_mixed ct_law_mixed), sl_law_mixed⟩)
    (x_law_mixed : PySem.W.codeIn K cd_law_mixed "_law_mixed" = true)
    (k_law_mixed : PySem.W.keepIn K (.ref f_law_mixed) = true)
    (a_law_source : PySem.W.nsIn K mainGlobals "_law_source" = some (some (.ref f_law_source)))
    (l_law_source : K.lookup f_law_source = some ⟨oc_law_source, od_law_source, .func (PySem.W.fnOf "_law_source" "_law_source" (defArgs d_law_source) (defBody d_law_source) (defScope d_law_source) .none kV_law_source dc_law_source pm_law_source an_law_source cd_law_source ct_law_source), sl_law_source⟩)
    (x_law_source : PySem.W.codeIn K cd_law_source "_law_source" = true)
    (k_law_source : PySem.W.keepIn K (.ref f_law_source) = true)
    (a_law_take : PySem.W.nsIn K mainGlobals "_law_take" = some (some (.ref f_law_take)))
    (l_law_take : K.lookup f_law_take = some ⟨oc_law_take, od_law_take, .func (PySem.W.fnOf "_law_take" "_law_take" (defArgs d_law_take) (defBody d_law_take) (defScope d_law_take) .none kV_law_take dc_law_take pm_law_take an_law_take cd_law_take ct_law_take), sl_law_take⟩)
    (x_law_take : PySem.W.codeIn K cd_law_take "_law_take" = true)
    (k_law_take : PySem.W.keepIn K (.ref f_law_take) = true)
    (a_law_gcd : PySem.W.nsIn K mainGlobals "_law_gcd" = some (some (.ref f_law_gcd)))
    (l_law_gcd : K.lookup f_law_gcd = some ⟨oc_law_gcd, od_law_gcd, .func (PySem.W.fnOf "_law_gcd" "_law_gcd" (defArgs d_law_gcd) (defBody d_law_gcd) (defScope d_law_gcd) .none kV_law_gcd dc_law_gcd pm_law_gcd an_law_gcd cd_law_gcd ct_law_gcd), sl_law_gcd⟩)
    (x_law_gcd : PySem.W.codeIn K cd_law_gcd "_law_gcd" = true)
    (k_law_gcd : PySem.W.keepIn K (.ref f_law_gcd) = true)
    (a_law_sum : PySem.W.nsIn K mainGlobals "_law_sum" = some (some (.ref f_law_sum)))
    (l_law_sum : K.lookup f_law_sum = some ⟨oc_law_sum, od_law_sum, .func (PySem.W.fnOf "_law_sum" "_law_sum" (defArgs d_law_sum) (defBody d_law_sum) (defScope d_law_sum) .none kV_law_sum dc_law_sum pm_law_sum an_law_sum cd_law_sum ct_law_sum), sl_law_sum⟩)
    (x_law_sum : PySem.W.codeIn K cd_law_sum "_law_sum" = true)
    (k_law_sum : PySem.W.keepIn K (.ref f_law_sum) = true)
    (a_law_times : PySem.W.nsIn K mainGlobals "_law_times" = some (some (.ref f_law_times)))
    (l_law_times : K.lookup f_law_times = some ⟨oc_law_times, od_law_times, .func (PySem.W.fnOf "_law_times" "_law_times" (defArgs d_law_times) (defBody d_law_times) (defScope d_law_times) .none kV_law_times dc_law_times pm_law_times an_law_times cd_law_times ct_law_times), sl_law_times⟩)
    (x_law_times : PySem.W.codeIn K cd_law_times "_law_times" = true)
    (k_law_times : PySem.W.keepIn K (.ref f_law_times) = true)
    (a_law_seat : PySem.W.nsIn K mainGlobals "_law_seat" = some (some (.ref f_law_seat)))
    (l_law_seat : K.lookup f_law_seat = some ⟨oc_law_seat, od_law_seat, .func (PySem.W.fnOf "_law_seat" "_law_seat" (defArgs d_law_seat) (defBody d_law_seat) (defScope d_law_seat) .none kV_law_seat dc_law_seat pm_law_seat an_law_seat cd_law_seat ct_law_seat), sl_law_seat⟩)
    (x_law_seat : PySem.W.codeIn K cd_law_seat "_law_seat" = true)
    (k_law_seat : PySem.W.keepIn K (.ref f_law_seat) = true)
    (a_law_sizes : PySem.W.nsIn K mainGlobals "_law_sizes" = some (some (.ref f_law_sizes)))
    (l_law_sizes : K.lookup f_law_sizes = some ⟨oc_law_sizes, od_law_sizes, .func (PySem.W.fnOf "_law_sizes" "_law_sizes" (defArgs d_law_sizes) (defBody d_law_sizes) (defScope d_law_sizes) .none kV_law_sizes dc_law_sizes pm_law_sizes an_law_sizes cd_law_sizes ct_law_sizes), sl_law_sizes⟩)
    (x_law_sizes : PySem.W.codeIn K cd_law_sizes "_law_sizes" = true)
    (k_law_sizes : PySem.W.keepIn K (.ref f_law_sizes) = true)
    (a_law_goals : PySem.W.nsIn K mainGlobals "_law_goals" = some (some (.ref f_law_goals)))
    (l_law_goals : K.lookup f_law_goals = some ⟨oc_law_goals, od_law_goals, .func (PySem.W.fnOf "_law_goals" "_law_goals" (defArgs d_law_goals) (defBody d_law_goals) (defScope d_law_goals) .none kV_law_goals dc_law_goals pm_law_goals an_law_goals cd_law_goals ct_law_goals), sl_law_goals⟩)
    (x_law_goals : PySem.W.codeIn K cd_law_goals "_law_goals" = true)
    (k_law_goals : PySem.W.keepIn K (.ref f_law_goals) = true)
    (a_law_probe : PySem.W.nsIn K mainGlobals "_law_probe" = some (some (.ref f_law_probe)))
    (l_law_probe : K.lookup f_law_probe = some ⟨oc_law_probe, od_law_probe, .func (PySem.W.fnOf "_law_probe" "_law_probe" (defArgs d_law_probe) (defBody d_law_probe) (defScope d_law_probe) .none kV_law_probe dc_law_probe pm_law_probe an_law_probe cd_law_probe ct_law_probe), sl_law_probe⟩)
    (x_law_probe : PySem.W.codeIn K cd_law_probe "_law_probe" = true)
    (k_law_probe : PySem.W.keepIn K (.ref f_law_probe) = true)
    (a_law_unit : PySem.W.nsIn K mainGlobals "_law_unit" = some (some (.ref f_law_unit)))
    (l_law_unit : K.lookup f_law_unit = some ⟨oc_law_unit, od_law_unit, .func (PySem.W.fnOf "_law_unit" "_law_unit" (defArgs d_law_unit) (defBody d_law_unit) (defScope d_law_unit) .none kV_law_unit dc_law_unit pm_law_unit an_law_unit cd_law_unit ct_law_unit), sl_law_unit⟩)
    (x_law_unit : PySem.W.codeIn K cd_law_unit "_law_unit" = true)
    (k_law_unit : PySem.W.keepIn K (.ref f_law_unit) = true)
    (a_law_answers : PySem.W.nsIn K mainGlobals "_law_answers" = some (some (.ref f_law_answers)))
    (l_law_answers : K.lookup f_law_answers = some ⟨oc_law_answers, od_law_answers, .func (PySem.W.fnOf "_law_answers" "_law_answers" (defArgs d_law_answers) (defBody d_law_answers) (defScope d_law_answers) .none kV_law_answers dc_law_answers pm_law_answers an_law_answers cd_law_answers ct_law_answers), sl_law_answers⟩)
    (x_law_answers : PySem.W.codeIn K cd_law_answers "_law_answers" = true)
    (k_law_answers : PySem.W.keepIn K (.ref f_law_answers) = true)
    (a_law_same_table : PySem.W.nsIn K mainGlobals "_law_same_table" = some (some (.ref f_law_same_table)))
    (l_law_same_table : K.lookup f_law_same_table = some ⟨oc_law_same_table, od_law_same_table, .func (PySem.W.fnOf "_law_same_table" "_law_same_table" (defArgs d_law_same_table) (defBody d_law_same_table) (defScope d_law_same_table) .none kV_law_same_table dc_law_same_table pm_law_same_table an_law_same_table cd_law_same_table ct_law_same_table), sl_law_same_table⟩)
    (x_law_same_table : PySem.W.codeIn K cd_law_same_table "_law_same_table" = true)
    (k_law_same_table : PySem.W.keepIn K (.ref f_law_same_table) = true)
    (a_law_other_table : PySem.W.nsIn K mainGlobals "_law_other_table" = some (some (.ref f_law_other_table)))
    (l_law_other_table : K.lookup f_law_other_table = some ⟨oc_law_other_table, od_law_other_table, .func (PySem.W.fnOf "_law_other_table" "_law_other_table" (defArgs d_law_other_table) (defBody d_law_other_table) (defScope d_law_other_table) .none kV_law_other_table dc_law_other_table pm_law_other_table an_law_other_table cd_law_other_table ct_law_other_table), sl_law_other_table⟩)
    (x_law_other_table : PySem.W.codeIn K cd_law_other_table "_law_other_table" = true)
    (k_law_other_table : PySem.W.keepIn K (.ref f_law_other_table) = true)
    (a_law_product : PySem.W.nsIn K mainGlobals "_law_product" = some (some (.ref f_law_product)))
    (l_law_product : K.lookup f_law_product = some ⟨oc_law_product, od_law_product, .func (PySem.W.fnOf "_law_product" "_law_product" (defArgs d_law_product) (defBody d_law_product) (defScope d_law_product) .none kV_law_product dc_law_product pm_law_product an_law_product cd_law_product ct_law_product), sl_law_product⟩)
    (x_law_product : PySem.W.codeIn K cd_law_product "_law_product" = true)
    (k_law_product : PySem.W.keepIn K (.ref f_law_product) = true)
    (a_law : PySem.W.nsIn K mainGlobals "law" = some (some (.ref f_law)))
    (l_law : K.lookup f_law = some ⟨oc_law, od_law, .func (PySem.W.fnOf "law" "law" (defArgs d_law) (defBody d_law) (defScope d_law) .none kV_law dc_law pm_law an_law cd_law ct_law), sl_law⟩)
    (x_law : PySem.W.codeIn K cd_law "law" = true)
    (k_law : PySem.W.keepIn K (.ref f_law) = true)
    (pg_Table : PySem.W.plainGet K c_Table Str.empty = true)
    (hd_Table : PySem.W.hasDictIn K c_Table = true)
    (po_Table : PySem.W.plainOver K c_Table = true)
    (sa_Table : PySem.W.findIn K (.ref c_Table) "__setattr__" = some (some (.builtin "object.__setattr__")))
    (mk_Table : PySem.W.makesIn K c_Table = true)
    (kc_Table : PySem.W.keepIn K (.ref c_Table) = true)
    (no_Table_sizes : PySem.W.findIn K (.ref c_Table) "_sizes" = some none)
    (ih_Table : PySem.W.findIn K (.ref c_Table) "__class__" = some (some (.builtin "object.__class__")))
    (in_Table : PySem.W.specialIn K (.builtin "object.__class__") "__get__" = some (some (.builtin "getset_descriptor.__get__")))
    (it_Table : PySem.W.takesIn K (.builtin "object.__class__") = some true)
    (im_Table : PySem.W.mroIn K c_Table (.type "object") = some true)
    (w_gcd : PySem.W.nsIn K mainGlobals "gcd" = some (some (.builtin "math.gcd")))
    (y_MAX_RINGS : PySem.W.nsIn K mainGlobals "MAX_RINGS" = some (some v_MAX_RINGS))
    (r_MAX_RINGS : RelV (.int 4) v_MAX_RINGS)
    (z_abs : PySem.W.nsIn K mainGlobals "abs" = some none)
    (z_all : PySem.W.nsIn K mainGlobals "all" = some none)
    (z_bool : PySem.W.nsIn K mainGlobals "bool" = some none)
    (z_enumerate : PySem.W.nsIn K mainGlobals "enumerate" = some none)
    (z_int : PySem.W.nsIn K mainGlobals "int" = some none)
    (z_isinstance : PySem.W.nsIn K mainGlobals "isinstance" = some none)
    (z_len : PySem.W.nsIn K mainGlobals "len" = some none)
    (z_list : PySem.W.nsIn K mainGlobals "list" = some none)
    (z_range : PySem.W.nsIn K mainGlobals "range" = some none)
    (z_reversed : PySem.W.nsIn K mainGlobals "reversed" = some none)
    (z_set : PySem.W.nsIn K mainGlobals "set" = some none)
    (z_sorted : PySem.W.nsIn K mainGlobals "sorted" = some none)
    (z_sum : PySem.W.nsIn K mainGlobals "sum" = some none)
    (z_tuple : PySem.W.nsIn K mainGlobals "tuple" = some none)
    (z_zip : PySem.W.nsIn K mainGlobals "zip" = some none)
    (ho_CX0 : Unit := ()) : ∃ fd : FuncData, (∀ (s : Shared) (v : Value), BindsTo s fd ⟨[v], []⟩ [("_law_script", v)]) ∧ ∀ base : Heap, K.In base → base.Ns mainGlobals mg → FnOk P w K mg base CX0 7 fa fd ["_law_script"] (sp_law K) := by
  have e := hfa.symm.trans (PySem.W.mg_of X G a_law)
  cases e
  have F_is_integer := fun_mk (st := d_is_integer) l_is_integer x_is_integer k_is_integer
  have b_is_integer := F_is_integer.binds (ps := ["number"]) fun _ _ _ _ _ _ us hl => match us, hl with | [_], _ => rfl
  have F_is_seat := fun_mk (st := d_is_seat) l_is_seat x_is_seat k_is_seat
  have b_is_seat := F_is_seat.binds (ps := ["sizes", "seat"]) fun _ _ _ _ _ _ us hl => match us, hl with | [_, _], _ => rfl
  have F_require_seat := fun_mk (st := d_require_seat) l_require_seat x_require_seat k_require_seat
  have b_require_seat := F_require_seat.binds (ps := ["sizes", "seat"]) fun _ _ _ _ _ _ us hl => match us, hl with | [_, _], _ => rfl
  have F_require_seats := fun_mk (st := d_require_seats) l_require_seats x_require_seats k_require_seats
  have b_require_seats := F_require_seats.binds (ps := ["sizes", "seats"]) fun _ _ _ _ _ _ us hl => match us, hl with | [_, _], _ => rfl
  have F_require_targets := fun_mk (st := d_require_targets) l_require_targets x_require_targets k_require_targets
  have b_require_targets := F_require_targets.binds (ps := ["sizes", "targets"]) fun _ _ _ _ _ _ us hl => match us, hl with | [_, _], _ => rfl
  have F_Table_init := fun_mk (st := d_Table_init) l_Table_init x_Table_init k_Table_init
  have b_Table_init := F_Table_init.binds (ps := ["self", "rings"]) fun _ _ _ _ _ _ us hl => match us, hl with | [_, _], _ => rfl
  have F_Table_sizes := fun_mk (st := d_Table_sizes) l_Table_sizes x_Table_sizes k_Table_sizes
  have b_Table_sizes := F_Table_sizes.binds (ps := ["self"]) fun _ _ _ _ _ _ us hl => match us, hl with | [_], _ => rfl
  have F_sizes_of := fun_mk (st := d_sizes_of) l_sizes_of x_sizes_of k_sizes_of
  have b_sizes_of := F_sizes_of.binds (ps := ["table"]) fun _ _ _ _ _ _ us hl => match us, hl with | [_], _ => rfl
  have F_are_sizes := fun_mk (st := d_are_sizes) l_are_sizes x_are_sizes k_are_sizes
  have b_are_sizes := F_are_sizes.binds (ps := ["rings"]) fun _ _ _ _ _ _ us hl => match us, hl with | [_], _ => rfl
  have F_weighted_sum := fun_mk (st := d_weighted_sum) l_weighted_sum x_weighted_sum k_weighted_sum
  have b_weighted_sum := F_weighted_sum.binds (ps := ["weights", "vector"]) fun _ _ _ _ _ _ us hl => match us, hl with | [_, _], _ => rfl
  have F_common_divisor := fun_mk (st := d_common_divisor) l_common_divisor x_common_divisor k_common_divisor
  have b_common_divisor := F_common_divisor.binds (ps := ["modulus", "weights"]) fun _ _ _ _ _ _ us hl => match us, hl with | [_, _], _ => rfl
  have F_odd_part := fun_mk (st := d_odd_part) l_odd_part x_odd_part k_odd_part
  have b_odd_part := F_odd_part.binds (ps := ["size"]) fun _ _ _ _ _ _ us hl => match us, hl with | [_], _ => rfl
  have F_difference := fun_mk (st := d_difference) l_difference x_difference k_difference
  have b_difference := F_difference.binds (ps := ["seat", "other"]) fun _ _ _ _ _ _ us hl => match us, hl with | [_, _], _ => rfl
  have F_shift_basis := fun_mk (st := d_shift_basis) l_shift_basis x_shift_basis k_shift_basis
  have b_shift_basis := F_shift_basis.binds (ps := ["sizes", "targets"]) fun _ _ _ _ _ _ us hl => match us, hl with | [_, _], _ => rfl
  have F_pivot_product := fun_mk (st := d_pivot_product) l_pivot_product x_pivot_product k_pivot_product
  have b_pivot_product := F_pivot_product.binds (ps := ["basis"]) fun _ _ _ _ _ _ us hl => match us, hl with | [_], _ => rfl
  have F_inverse_column := fun_mk (st := d_inverse_column) l_inverse_column x_inverse_column k_inverse_column
  have b_inverse_column := F_inverse_column.binds (ps := ["basis", "modulus", "column"]) fun _ _ _ _ _ _ us hl => match us, hl with | [_, _, _], _ => rfl
  have F_diagonal := fun_mk (st := d_diagonal) l_diagonal x_diagonal k_diagonal
  have b_diagonal := F_diagonal.binds (ps := ["entries"]) fun _ _ _ _ _ _ us hl => match us, hl with | [_], _ => rfl
  have F_with_vector := fun_mk (st := d_with_vector) l_with_vector x_with_vector k_with_vector
  have b_with_vector := F_with_vector.binds (ps := ["basis", "odds", "vector"]) fun _ _ _ _ _ _ us hl => match us, hl with | [_, _, _], _ => rfl
  have F_reduced := fun_mk (st := d_reduced) l_reduced x_reduced k_reduced
  have b_reduced := F_reduced.binds (ps := ["vector", "odds"]) fun _ _ _ _ _ _ us hl => match us, hl with | [_, _], _ => rfl
  have F_coset_count := fun_mk (st := d_coset_count) l_coset_count x_coset_count k_coset_count
  have b_coset_count := F_coset_count.binds (ps := ["table", "targets"]) fun _ _ _ _ _ _ us hl => match us, hl with | [_, _], _ => rfl
  have F_reach := fun_mk (st := d_reach) l_reach x_reach k_reach
  have b_reach := F_reach.binds (ps := ["table", "targets", "seat"]) fun _ _ _ _ _ _ us hl => match us, hl with | [_, _, _], _ => rfl
  have F_short_witness := fun_mk (st := d_short_witness) l_short_witness x_short_witness k_short_witness
  have b_short_witness := F_short_witness.binds (ps := ["modulus", "weights", "target"]) fun _ _ _ _ _ _ us hl => match us, hl with | [_, _, _], _ => rfl
  have F_law_mixed := fun_mk (st := d_law_mixed) l_law_mixed x_law_mixed k_law_mixed
  have b_law_mixed := F_law_mixed.binds (ps := ["_law_cell", "_law_draw"]) fun _ _ _ _ _ _ us hl => match us, hl with | [_, _], _ => rfl
  have F_law_source := fun_mk (st := d_law_source) l_law_source x_law_source k_law_source
  have b_law_source := F_law_source.binds (ps := ["_law_cell"]) fun _ _ _ _ _ _ us hl => match us, hl with | [_], _ => rfl
  have F_law_take := fun_mk (st := d_law_take) l_law_take x_law_take k_law_take
  have b_law_take := F_law_take.binds (ps := ["_law_source_here", "_law_count"]) fun _ _ _ _ _ _ us hl => match us, hl with | [_, _], _ => rfl
  have F_law_gcd := fun_mk (st := d_law_gcd) l_law_gcd x_law_gcd k_law_gcd
  have b_law_gcd := F_law_gcd.binds (ps := ["_law_first", "_law_second"]) fun _ _ _ _ _ _ us hl => match us, hl with | [_, _], _ => rfl
  have F_law_sum := fun_mk (st := d_law_sum) l_law_sum x_law_sum k_law_sum
  have b_law_sum := F_law_sum.binds (ps := ["_law_first", "_law_second", "_law_sizes_here"]) fun _ _ _ _ _ _ us hl => match us, hl with | [_, _, _], _ => rfl
  have F_law_times := fun_mk (st := d_law_times) l_law_times x_law_times k_law_times
  have b_law_times := F_law_times.binds (ps := ["_law_factor", "_law_first", "_law_sizes_here"]) fun _ _ _ _ _ _ us hl => match us, hl with | [_, _, _], _ => rfl
  have F_law_seat := fun_mk (st := d_law_seat) l_law_seat x_law_seat k_law_seat
  have b_law_seat := F_law_seat.binds (ps := ["_law_source_here", "_law_sizes_here"]) fun _ _ _ _ _ _ us hl => match us, hl with | [_, _], _ => rfl
  have F_law_sizes := fun_mk (st := d_law_sizes) l_law_sizes x_law_sizes k_law_sizes
  have b_law_sizes := F_law_sizes.binds (ps := ["_law_source_here"]) fun _ _ _ _ _ _ us hl => match us, hl with | [_], _ => rfl
  have F_law_goals := fun_mk (st := d_law_goals) l_law_goals x_law_goals k_law_goals
  have b_law_goals := F_law_goals.binds (ps := ["_law_source_here", "_law_sizes_here"]) fun _ _ _ _ _ _ us hl => match us, hl with | [_, _], _ => rfl
  have F_law_probe := fun_mk (st := d_law_probe) l_law_probe x_law_probe k_law_probe
  have b_law_probe := F_law_probe.binds (ps := ["_law_source_here", "_law_sizes_here", "_law_goals_here"]) fun _ _ _ _ _ _ us hl => match us, hl with | [_, _, _], _ => rfl
  have F_law_unit := fun_mk (st := d_law_unit) l_law_unit x_law_unit k_law_unit
  have b_law_unit := F_law_unit.binds (ps := ["_law_source_here", "_law_size"]) fun _ _ _ _ _ _ us hl => match us, hl with | [_, _], _ => rfl
  have F_law_answers := fun_mk (st := d_law_answers) l_law_answers x_law_answers k_law_answers
  have b_law_answers := F_law_answers.binds (ps := ["_law_sizes_here", "_law_goals_here", "_law_probes"]) fun _ _ _ _ _ _ us hl => match us, hl with | [_, _, _], _ => rfl
  have F_law_same_table := fun_mk (st := d_law_same_table) l_law_same_table x_law_same_table k_law_same_table
  have b_law_same_table := F_law_same_table.binds (ps := ["_law_source_here", "_law_sizes_here", "_law_goals_here", "_law_probes"]) fun _ _ _ _ _ _ us hl => match us, hl with | [_, _, _, _], _ => rfl
  have F_law_other_table := fun_mk (st := d_law_other_table) l_law_other_table x_law_other_table k_law_other_table
  have b_law_other_table := F_law_other_table.binds (ps := ["_law_source_here", "_law_sizes_here", "_law_goals_here", "_law_probes"]) fun _ _ _ _ _ _ us hl => match us, hl with | [_, _, _, _], _ => rfl
  have F_law_product := fun_mk (st := d_law_product) l_law_product x_law_product k_law_product
  have b_law_product := F_law_product.binds (ps := ["_law_source_here"]) fun _ _ _ _ _ _ us hl => match us, hl with | [_], _ => rfl
  have F_law := fun_mk (st := d_law) l_law x_law k_law
  have b_law := F_law.binds (ps := ["_law_script"]) fun _ _ _ _ _ _ us hl => match us, hl with | [_], _ => rfl
  let T : Tx K mg := { f_is_integer := f_is_integer, fd_is_integer := _, F_is_integer := F_is_integer, b_is_integer := b_is_integer, g_is_integer := PySem.W.mg_of X G a_is_integer, f_is_seat := f_is_seat, fd_is_seat := _, F_is_seat := F_is_seat, b_is_seat := b_is_seat, g_is_seat := PySem.W.mg_of X G a_is_seat, f_require_seat := f_require_seat, fd_require_seat := _, F_require_seat := F_require_seat, b_require_seat := b_require_seat, g_require_seat := PySem.W.mg_of X G a_require_seat, f_require_seats := f_require_seats, fd_require_seats := _, F_require_seats := F_require_seats, b_require_seats := b_require_seats, g_require_seats := PySem.W.mg_of X G a_require_seats, f_require_targets := f_require_targets, fd_require_targets := _, F_require_targets := F_require_targets, b_require_targets := b_require_targets, g_require_targets := PySem.W.mg_of X G a_require_targets, f_Table_init := f_Table_init, fd_Table_init := _, F_Table_init := F_Table_init, b_Table_init := b_Table_init, f_Table_sizes := f_Table_sizes, fd_Table_sizes := _, F_Table_sizes := F_Table_sizes, b_Table_sizes := b_Table_sizes, f_sizes_of := f_sizes_of, fd_sizes_of := _, F_sizes_of := F_sizes_of, b_sizes_of := b_sizes_of, g_sizes_of := PySem.W.mg_of X G a_sizes_of, f_are_sizes := f_are_sizes, fd_are_sizes := _, F_are_sizes := F_are_sizes, b_are_sizes := b_are_sizes, g_are_sizes := PySem.W.mg_of X G a_are_sizes, f_weighted_sum := f_weighted_sum, fd_weighted_sum := _, F_weighted_sum := F_weighted_sum, b_weighted_sum := b_weighted_sum, g_weighted_sum := PySem.W.mg_of X G a_weighted_sum, f_common_divisor := f_common_divisor, fd_common_divisor := _, F_common_divisor := F_common_divisor, b_common_divisor := b_common_divisor, g_common_divisor := PySem.W.mg_of X G a_common_divisor, f_odd_part := f_odd_part, fd_odd_part := _, F_odd_part := F_odd_part, b_odd_part := b_odd_part, g_odd_part := PySem.W.mg_of X G a_odd_part, f_difference := f_difference, fd_difference := _, F_difference := F_difference, b_difference := b_difference, g_difference := PySem.W.mg_of X G a_difference, f_shift_basis := f_shift_basis, fd_shift_basis := _, F_shift_basis := F_shift_basis, b_shift_basis := b_shift_basis, g_shift_basis := PySem.W.mg_of X G a_shift_basis, f_pivot_product := f_pivot_product, fd_pivot_product := _, F_pivot_product := F_pivot_product, b_pivot_product := b_pivot_product, g_pivot_product := PySem.W.mg_of X G a_pivot_product, f_inverse_column := f_inverse_column, fd_inverse_column := _, F_inverse_column := F_inverse_column, b_inverse_column := b_inverse_column, g_inverse_column := PySem.W.mg_of X G a_inverse_column, f_diagonal := f_diagonal, fd_diagonal := _, F_diagonal := F_diagonal, b_diagonal := b_diagonal, g_diagonal := PySem.W.mg_of X G a_diagonal, f_with_vector := f_with_vector, fd_with_vector := _, F_with_vector := F_with_vector, b_with_vector := b_with_vector, g_with_vector := PySem.W.mg_of X G a_with_vector, f_reduced := f_reduced, fd_reduced := _, F_reduced := F_reduced, b_reduced := b_reduced, g_reduced := PySem.W.mg_of X G a_reduced, f_coset_count := f_coset_count, fd_coset_count := _, F_coset_count := F_coset_count, b_coset_count := b_coset_count, g_coset_count := PySem.W.mg_of X G a_coset_count, f_reach := f_reach, fd_reach := _, F_reach := F_reach, b_reach := b_reach, g_reach := PySem.W.mg_of X G a_reach, f_short_witness := f_short_witness, fd_short_witness := _, F_short_witness := F_short_witness, b_short_witness := b_short_witness, g_short_witness := PySem.W.mg_of X G a_short_witness, f_law_mixed := f_law_mixed, fd_law_mixed := _, F_law_mixed := F_law_mixed, b_law_mixed := b_law_mixed, g_law_mixed := PySem.W.mg_of X G a_law_mixed, f_law_source := f_law_source, fd_law_source := _, F_law_source := F_law_source, b_law_source := b_law_source, g_law_source := PySem.W.mg_of X G a_law_source, f_law_take := f_law_take, fd_law_take := _, F_law_take := F_law_take, b_law_take := b_law_take, g_law_take := PySem.W.mg_of X G a_law_take, f_law_gcd := f_law_gcd, fd_law_gcd := _, F_law_gcd := F_law_gcd, b_law_gcd := b_law_gcd, g_law_gcd := PySem.W.mg_of X G a_law_gcd, f_law_sum := f_law_sum, fd_law_sum := _, F_law_sum := F_law_sum, b_law_sum := b_law_sum, g_law_sum := PySem.W.mg_of X G a_law_sum, f_law_times := f_law_times, fd_law_times := _, F_law_times := F_law_times, b_law_times := b_law_times, g_law_times := PySem.W.mg_of X G a_law_times, f_law_seat := f_law_seat, fd_law_seat := _, F_law_seat := F_law_seat, b_law_seat := b_law_seat, g_law_seat := PySem.W.mg_of X G a_law_seat, f_law_sizes := f_law_sizes, fd_law_sizes := _, F_law_sizes := F_law_sizes, b_law_sizes := b_law_sizes, g_law_sizes := PySem.W.mg_of X G a_law_sizes, f_law_goals := f_law_goals, fd_law_goals := _, F_law_goals := F_law_goals, b_law_goals := b_law_goals, g_law_goals := PySem.W.mg_of X G a_law_goals, f_law_probe := f_law_probe, fd_law_probe := _, F_law_probe := F_law_probe, b_law_probe := b_law_probe, g_law_probe := PySem.W.mg_of X G a_law_probe, f_law_unit := f_law_unit, fd_law_unit := _, F_law_unit := F_law_unit, b_law_unit := b_law_unit, g_law_unit := PySem.W.mg_of X G a_law_unit, f_law_answers := f_law_answers, fd_law_answers := _, F_law_answers := F_law_answers, b_law_answers := b_law_answers, g_law_answers := PySem.W.mg_of X G a_law_answers, f_law_same_table := f_law_same_table, fd_law_same_table := _, F_law_same_table := F_law_same_table, b_law_same_table := b_law_same_table, g_law_same_table := PySem.W.mg_of X G a_law_same_table, f_law_other_table := f_law_other_table, fd_law_other_table := _, F_law_other_table := F_law_other_table, b_law_other_table := b_law_other_table, g_law_other_table := PySem.W.mg_of X G a_law_other_table, f_law_product := f_law_product, fd_law_product := _, F_law_product := F_law_product, b_law_product := b_law_product, g_law_product := PySem.W.mg_of X G a_law_product, f_law := fa, fd_law := _, F_law := F_law, b_law := b_law, g_law := PySem.W.mg_of X G a_law, c_Table := c_Table, g_Table := PySem.W.mg_of X G ac_Table, cl_Table := ⟨pg_Table, hd_Table, po_Table, sa_Table⟩, M_Table := ⟨mk_Table, a_Table_init, i_Table_init, kc_Table⟩, m_Table_sizes := ⟨a_Table_sizes, i_Table_sizes, k_Table_sizes⟩, no_Table_sizes := no_Table_sizes, ins_Table := ⟨⟨pg_Table, hd_Table, po_Table, sa_Table⟩, ih_Table, in_Table, it_Table, im_Table, kit_self _ _⟩, b_gcd := PySem.W.mg_of X G w_gcd, v_MAX_RINGS := _, g_MAX_RINGS := PySem.W.mg_of X G y_MAX_RINGS, r_MAX_RINGS := r_MAX_RINGS, n_abs := PySem.W.mg_none_of X G z_abs, n_all := PySem.W.mg_none_of X G z_all, n_bool := PySem.W.mg_none_of X G z_bool, n_enumerate := PySem.W.mg_none_of X G z_enumerate, n_int := PySem.W.mg_none_of X G z_int, n_isinstance := PySem.W.mg_none_of X G z_isinstance, n_len := PySem.W.mg_none_of X G z_len, n_list := PySem.W.mg_none_of X G z_list, n_range := PySem.W.mg_none_of X G z_range, n_reversed := PySem.W.mg_none_of X G z_reversed, n_set := PySem.W.mg_none_of X G z_set, n_sorted := PySem.W.mg_none_of X G z_sorted, n_sum := PySem.W.mg_none_of X G z_sum, n_tuple := PySem.W.mg_none_of X G z_tuple, n_zip := PySem.W.mg_none_of X G z_zip }
  exact ⟨PySem.W.fnOf "law" "law" (defArgs d_law) (defBody d_law) (defScope d_law) .none kV_law dc_law pm_law an_law cd_law ct_law, fun s v => .of_eq rfl, fun base _ _ => ok_law (P := P) (w := w) (base := base) T⟩
end Lw
open PySem PySem.W PyProof.Rows in
set_option maxHeartbeats 0 in
theorem PySem.Challenge.cw_calledseats_k15_whole_tables_transformed_holds : PySem.Challenge.rw_calledseats_k15_whole_tables_transformed.Holds := by
  w_on; o_law; k_head; (case hw => w_witness2)
  k_fill
  refine L2.walk_ofB (l := PySem.Challenge.rw_calledseats_k15_whole_tables_transformed) (n := 63) (k := 7) (x := "_law_script") (CX := fun _ => L2.CX0) (sp := fun w => Lw.sp_law _) rfl (by decide) rfl ⟨rfl, by decide, by decide⟩ (fun w h Y => PySem.W.kIn_of Y) ?F (fun _ _ a ns hl hb _ hS => ⟨a, ns, rfl, hS, hl, hb, fun _ => rfl⟩) (fun _ _ _ _ _ h => h)
  case F =>
    intro w mg fa h KX G hmg
    refine' Lw.all_mk KX G hmg ?ac_Table ?a_is_integer ?l_is_integer ?x_is_integer ?k_is_integer ?a_is_seat ?l_is_seat ?x_is_seat ?k_is_seat ?a_require_seat ?l_require_seat ?x_require_seat ?k_require_seat ?a_require_seats ?l_require_seats ?x_require_seats ?k_require_seats ?a_require_targets ?l_require_targets ?x_require_targets ?k_require_targets ?a_Table_init ?i_Table_init ?l_Table_init ?x_Table_init ?k_Table_init ?a_Table_sizes ?i_Table_sizes ?l_Table_sizes ?x_Table_sizes ?k_Table_sizes ?a_sizes_of ?l_sizes_of ?x_sizes_of ?k_sizes_of ?a_are_sizes ?l_are_sizes ?x_are_sizes ?k_are_sizes ?a_weighted_sum ?l_weighted_sum ?x_weighted_sum ?k_weighted_sum ?a_common_divisor ?l_common_divisor ?x_common_divisor ?k_common_divisor ?a_odd_part ?l_odd_part ?x_odd_part ?k_odd_part ?a_difference ?l_difference ?x_difference ?k_difference ?a_shift_basis ?l_shift_basis ?x_shift_basis ?k_shift_basis ?a_pivot_product ?l_pivot_product ?x_pivot_product ?k_pivot_product ?a_inverse_column ?l_inverse_column ?x_inverse_column ?k_inverse_column ?a_diagonal ?l_diagonal ?x_diagonal ?k_diagonal ?a_with_vector ?l_with_vector ?x_with_vector ?k_with_vector ?a_reduced ?l_reduced ?x_reduced ?k_reduced ?a_coset_count ?l_coset_count ?x_coset_count ?k_coset_count ?a_reach ?l_reach ?x_reach ?k_reach ?a_short_witness ?l_short_witness ?x_short_witness ?k_short_witness ?a_law_mixed ?l_law_mixed ?x_law_mixed ?k_law_mixed ?a_law_source ?l_law_source ?x_law_source ?k_law_source ?a_law_take ?l_law_take ?x_law_take ?k_law_take ?a_law_gcd ?l_law_gcd ?x_law_gcd ?k_law_gcd ?a_law_sum ?l_law_sum ?x_law_sum ?k_law_sum ?a_law_times ?l_law_times ?x_law_times ?k_law_times ?a_law_seat ?l_law_seat ?x_law_seat ?k_law_seat ?a_law_sizes ?l_law_sizes ?x_law_sizes ?k_law_sizes ?a_law_goals ?l_law_goals ?x_law_goals ?k_law_goals ?a_law_probe ?l_law_probe ?x_law_probe ?k_law_probe ?a_law_unit ?l_law_unit ?x_law_unit ?k_law_unit ?a_law_answers ?l_law_answers ?x_law_answers ?k_law_answers ?a_law_same_table ?l_law_same_table ?x_law_same_table ?k_law_same_table ?a_law_other_table ?l_law_other_table ?x_law_other_table ?k_law_other_table ?a_law_product ?l_law_product ?x_law_product ?k_law_product ?a_law ?l_law ?x_law ?k_law ?pg_Table ?hd_Table ?po_Table ?sa_Table ?mk_Table ?kc_Table ?no_Table_sizes ?ih_Table ?in_Table ?it_Table ?im_Table ?w_gcd ?y_MAX_RINGS ?r_MAX_RINGS ?z_abs ?z_all ?z_bool ?z_enumerate ?z_int ?z_isinstance ?z_len ?z_list ?z_range ?z_reversed ?z_set ?z_sorted ?z_sum ?z_tuple ?z_zip
    (case ac_Table => k_is)
    (case a_is_integer => k_is)
    (case l_is_integer => k_is)
    (case x_is_integer => k_is)
    (case k_is_integer => k_is)
    (case a_is_seat => k_is)
    (case l_is_seat => k_is)
    (case x_is_seat => k_is)
    (case k_is_seat => k_is)
    (case a_require_seat => k_is)
    (case l_require_seat => k_is)
    (case x_require_seat => k_is)
    (case k_require_seat => k_is)
    (case a_require_seats => k_is)
    (case l_require_seats => k_is)
    (case x_require_seats => k_is)
    (case k_require_seats => k_is)
    (case a_require_targets => k_is)
    (case l_require_targets => k_is)
    (case x_require_targets => k_is)
    (case k_require_targets => k_is)
    (case a_Table_init => k_is)
    (case i_Table_init => k_is)
    (case l_Table_init => k_is)
    (case x_Table_init => k_is)
    (case k_Table_init => k_is)
    (case a_Table_sizes => k_is)
    (case i_Table_sizes => k_is)
    (case l_Table_sizes => k_is)
    (case x_Table_sizes => k_is)
    (case k_Table_sizes => k_is)
    (case a_sizes_of => k_is)
    (case l_sizes_of => k_is)
    (case x_sizes_of => k_is)
    (case k_sizes_of => k_is)
    (case a_are_sizes => k_is)
    (case l_are_sizes => k_is)
    (case x_are_sizes => k_is)
    (case k_are_sizes => k_is)
    (case a_weighted_sum => k_is)
    (case l_weighted_sum => k_is)
    (case x_weighted_sum => k_is)
    (case k_weighted_sum => k_is)
    (case a_common_divisor => k_is)
    (case l_common_divisor => k_is)
    (case x_common_divisor => k_is)
    (case k_common_divisor => k_is)
    (case a_odd_part => k_is)
    (case l_odd_part => k_is)
    (case x_odd_part => k_is)
    (case k_odd_part => k_is)
    (case a_difference => k_is)
    (case l_difference => k_is)
    (case x_difference => k_is)
    (case k_difference => k_is)
    (case a_shift_basis => k_is)
    (case l_shift_basis => k_is)
    (case x_shift_basis => k_is)
    (case k_shift_basis => k_is)
    (case a_pivot_product => k_is)
    (case l_pivot_product => k_is)
    (case x_pivot_product => k_is)
    (case k_pivot_product => k_is)
    (case a_inverse_column => k_is)
    (case l_inverse_column => k_is)
    (case x_inverse_column => k_is)
    (case k_inverse_column => k_is)
    (case a_diagonal => k_is)
    (case l_diagonal => k_is)
    (case x_diagonal => k_is)
    (case k_diagonal => k_is)
    (case a_with_vector => k_is)
    (case l_with_vector => k_is)
    (case x_with_vector => k_is)
    (case k_with_vector => k_is)
    (case a_reduced => k_is)
    (case l_reduced => k_is)
    (case x_reduced => k_is)
    (case k_reduced => k_is)
    (case a_coset_count => k_is)
    (case l_coset_count => k_is)
    (case x_coset_count => k_is)
    (case k_coset_count => k_is)
    (case a_reach => k_is)
    (case l_reach => k_is)
    (case x_reach => k_is)
    (case k_reach => k_is)
    (case a_short_witness => k_is)
    (case l_short_witness => k_is)
    (case x_short_witness => k_is)
    (case k_short_witness => k_is)
    (case a_law_mixed => k_is)
    (case l_law_mixed => k_is)
    (case x_law_mixed => k_is)
    (case k_law_mixed => k_is)
    (case a_law_source => k_is)
    (case l_law_source => k_is)
    (case x_law_source => k_is)
    (case k_law_source => k_is)
    (case a_law_take => k_is)
    (case l_law_take => k_is)
    (case x_law_take => k_is)
    (case k_law_take => k_is)
    (case a_law_gcd => k_is)
    (case l_law_gcd => k_is)
    (case x_law_gcd => k_is)
    (case k_law_gcd => k_is)
    (case a_law_sum => k_is)
    (case l_law_sum => k_is)
    (case x_law_sum => k_is)
    (case k_law_sum => k_is)
    (case a_law_times => k_is)
    (case l_law_times => k_is)
    (case x_law_times => k_is)
    (case k_law_times => k_is)
    (case a_law_seat => k_is)
    (case l_law_seat => k_is)
    (case x_law_seat => k_is)
    (case k_law_seat => k_is)
    (case a_law_sizes => k_is)
    (case l_law_sizes => k_is)
    (case x_law_sizes => k_is)
    (case k_law_sizes => k_is)
    (case a_law_goals => k_is)
    (case l_law_goals => k_is)
    (case x_law_goals => k_is)
    (case k_law_goals => k_is)
    (case a_law_probe => k_is)
    (case l_law_probe => k_is)
    (case x_law_probe => k_is)
    (case k_law_probe => k_is)
    (case a_law_unit => k_is)
    (case l_law_unit => k_is)
    (case x_law_unit => k_is)
    (case k_law_unit => k_is)
    (case a_law_answers => k_is)
    (case l_law_answers => k_is)
    (case x_law_answers => k_is)
    (case k_law_answers => k_is)
    (case a_law_same_table => k_is)
    (case l_law_same_table => k_is)
    (case x_law_same_table => k_is)
    (case k_law_same_table => k_is)
    (case a_law_other_table => k_is)
    (case l_law_other_table => k_is)
    (case x_law_other_table => k_is)
    (case k_law_other_table => k_is)
    (case a_law_product => k_is)
    (case l_law_product => k_is)
    (case x_law_product => k_is)
    (case k_law_product => k_is)
    (case a_law => k_is)
    (case l_law => k_is)
    (case x_law => k_is)
    (case k_law => k_is)
    (case pg_Table => k_is)
    (case hd_Table => k_is)
    (case po_Table => k_is)
    (case sa_Table => k_is)
    (case mk_Table => k_is)
    (case kc_Table => k_is)
    (case no_Table_sizes => k_is)
    (case ih_Table => k_is)
    (case in_Table => k_is)
    (case it_Table => k_is)
    (case im_Table => k_is)
    (case w_gcd => k_is)
    (case y_MAX_RINGS => k_is)
    (case r_MAX_RINGS => exact ⟨_, rfl⟩)
    (case z_abs => k_is)
    (case z_all => k_is)
    (case z_bool => k_is)
    (case z_enumerate => k_is)
    (case z_int => k_is)
    (case z_isinstance => k_is)
    (case z_len => k_is)
    (case z_list => k_is)
    (case z_range => k_is)
    (case z_reversed => k_is)
    (case z_set => k_is)
    (case z_sorted => k_is)
    (case z_sum => k_is)
    (case z_tuple => k_is)
    (case z_zip => k_is)
