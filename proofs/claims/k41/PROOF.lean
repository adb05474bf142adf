import PyProof.Rows.All
import Wide.All
import OpenK.AllK
import Wide.FinOn
import HandS.ForMost
import HandS.Walk
import HandS.IsInst
import HandS.Wide
import HandS.EndBits
import KE.GoesNew
import KE.GoesMore
import HandS.Defaults
import HandS.MakeKwOnly
import HandS.Codes
import HandS.Gcd
import HandS.Star
import HandS.Deep
import HandS.TupMul
import HandS.TupAny
import HandS.Style
import HandS.TupSets
import HandS.Strs
import KE.GoesEnum
import HandS.RevRange
import HandS.WideBits
import HandS.SetFor
import PySem.Challenge.RW_calledseats_k41_records_of_games
set_option Elab.async false
set_option linter.all false
set_option maxRecDepth 100000
set_option maxHeartbeats 4000000
namespace Cs
open PySem PySem.Spec PyProof.Rows L2

/-! ### a list or a tuple -/
def Sqk (K : PySem.W.Frag) (k : Bool) (H : Hp) (a : Addr) (xs : List V) : Prop := match k with
  | true => SqL K H a xs
  | false => SqT K H a xs
def SeqK (k : Bool) (h : Heap) (a : Addr) (its : Array Value) : Prop := match k with
  | true => h.IsList a its
  | false => h.IsTuple a its
def ItK (k : Bool) (h : Heap) (it a : Addr) (i : Nat) : Prop := match k with
  | true => h.IsListIter it a i
  | false => h.IsTupleIter it a i
def itO (k : Bool) (a : Addr) : Obj := match k with
  | true => { cls := .type "list_iterator", data := .fields #[.ref a, .int 0 0] }
  | false => { cls := .type "tuple_iterator", data := .fields #[.ref a, .int 0 0] }
theorem ItK.at {k : Bool} {h h' : Heap} {it a : Addr} {i : Nat} (x : ItK k h it a i) (q : ∀ o, h.get? it = some o → h'.get? it = some o) : ItK k h' it a i := by
  cases k with
  | true => exact PySem.Heap.IsListIter.at x q
  | false => exact PySem.Heap.IsTupleIter.at x q
theorem ItK.obj {k : Bool} {h : Heap} {it a : Addr} {i : Nat} (x : ItK k h it a i) : ∃ o, h.get? it = some o ∧ ∀ v, o.data ≠ .cell v := by
  cases k with
  | true => obtain ⟨o, e, _, d⟩ := x; exact ⟨o, e, fun v q => by rw [d] at q; cases q⟩
  | false => obtain ⟨o, e, _, d⟩ := x; exact ⟨o, e, fun v q => by rw [d] at q; cases q⟩
theorem ItK.new {k : Bool} {h : Heap} {it a : Addr} (e : h.get? it = some (itO k a)) : ItK k h it a 0 := by
  cases k with
  | true => exact ⟨_, e, rfl, rfl⟩
  | false => exact ⟨_, e, rfl, rfl⟩
theorem drawsK {prog : Program} {w : World} {A : Around} (hh : A.handled = none) (k : Bool) (it l : Addr) (hne : l ≠ it) (items : Array Value) :
    Draws prog w A it [it, l] items.size (fun i v => items[i]? = some v) (fun i h => ItK k h it l i ∧ SeqK k h l items) := by
  cases k with
  | true => exact Draws.list hh it l hne items
  | false => exact Draws.tuple hh it l hne items
theorem begK (k : Bool) (a : Addr) (its : Array Value) : Begins (.ref a) (itO k a) fun h => SeqK k h a its := by
  cases k with
  | true => exact begins_list a its
  | false => exact begins_tuple a its
section
variable {X : Cx} {pins : List (Addr × Obj)} {σ : L2.St} {H : Hp} {s : Shared} {k : Bool} {a : Addr} {xs ys : List V}
theorem invK (I : Inv X pins σ H s) (h : Sqk X.K k H a xs) : ∃ its : List Value, Vals xs its ∧ SeqK k s.heap a its.toArray := by
  cases k with
  | true => obtain ⟨its, rv, p, _⟩ := I.list h; exact ⟨its, rv, p.isList⟩
  | false => obtain ⟨its, rv, p, _⟩ := I.tuple h; exact ⟨its, rv, p⟩
theorem injK (I : Inv X pins σ H s) (h : Sqk X.K k H a xs) (h' : Sqk X.K k H a ys) : xs = ys := by
  cases k with
  | true => exact I.list_inj h h'
  | false => exact I.tuple_inj h h'
theorem SeqK.lt {h : Heap} {its : Array Value} (x : SeqK k h a its) : a < h.objs.size := by
  cases k with
  | true => obtain ⟨o, e, _⟩ := x; exact Heap.lt_size e
  | false => obtain ⟨o, e, _⟩ := x; exact Heap.lt_size e
end
theorem Sqk.same {K : PySem.W.Frag} {k : Bool} {H H' : Hp} {a : Addr} {xs : List V} (e : Same H H') (h : Sqk K k H a xs) : Sqk K k H' a xs := by
  cases k with
  | true => exact e.seq h
  | false =>
    rcases h with (h | ⟨o, h⟩) | h
    · exact .inl (.inl (e _ _ h))
    · exact .inl (.inr ⟨o, e _ _ h⟩)
    · exact .inr h

/-! ### for a, b in zip(x, y), x and y lists or tuples -/
def Iz2 (K : PySem.W.Frag) (k1 k2 : Bool) (a b : Addr) : It :=
  ⟨fun i H => ∃ (xs ys : List V) (x y : V), Sqk K k1 H a xs ∧ Sqk K k2 H b ys ∧ xs[i]? = some x ∧ ys[i]? = some y,
    fun i H v H' => ∃ T x y, v = .ref T ∧ H T = none ∧ H' = upd H T (.tup [x, y]) ∧ (∀ xs, Sqk K k1 H a xs → xs[i]? = some x) ∧ ∀ ys, Sqk K k2 H b ys → ys[i]? = some y,
    fun i H => ∃ xs ys : List V, Sqk K k1 H a xs ∧ Sqk K k2 H b ys ∧ xs.length = ys.length ∧ xs.length = i⟩
def Iz3 (K : PySem.W.Frag) (k1 k2 k3 : Bool) (a b c : Addr) : It :=
  ⟨fun i H => ∃ (xs ys zs : List V) (x y z : V), Sqk K k1 H a xs ∧ Sqk K k2 H b ys ∧ Sqk K k3 H c zs ∧ xs[i]? = some x ∧ ys[i]? = some y ∧ zs[i]? = some z,
    fun i H v H' => ∃ T x y z, v = .ref T ∧ H T = none ∧ H' = upd H T (.tup [x, y, z]) ∧ (∀ xs, Sqk K k1 H a xs → xs[i]? = some x) ∧ (∀ ys, Sqk K k2 H b ys → ys[i]? = some y) ∧ ∀ zs, Sqk K k3 H c zs → zs[i]? = some z,
    fun i H => ∃ xs ys zs : List V, Sqk K k1 H a xs ∧ Sqk K k2 H b ys ∧ Sqk K k3 H c zs ∧ xs.length = ys.length ∧ ys.length = zs.length ∧ xs.length = i⟩

theorem turn_z2 {P : Program} {w : World} {K : PySem.W.Frag} {elts : List Expr} {kk : Nat} {tpos : Pos} {k1 k2 : Bool} {a b z TI TO i1 i2 : Addr} (S : ZipSep2 z TI TO i1 i2 [i1, a] [i2, b]) (n1 : a ≠ i1) (n2 : b ≠ i2) :
    Turn P w K (.Tuple elts kk tpos) (Iz2 K k1 k2 a b) [z, TI, TO, i1, i2] z (fun i h => IsZip h z TI TO .none ∧ IsTupOf2 h TI (.ref i1) (.ref i2) ∧ (∃ x y, IsTupOf2 h TO x y) ∧ ItK k1 h i1 a i ∧ ItK k2 h i2 b i) where
  mem := by simp
  obj := fun i h st c hc => by
    obtain ⟨hz, hTI, ⟨x, y, hTO⟩, h1, h2⟩ := st
    have e' : c = z ∨ c = TI ∨ c = TO ∨ c = i1 ∨ c = i2 := by simpa using hc
    rcases e' with q | q | q | q | q
    · rw [q]; exact ⟨_, hz, fun v q => nomatch q⟩
    · rw [q]; exact ⟨_, hTI, fun v q => nomatch q⟩
    · rw [q]; exact ⟨_, hTO, fun v q => nomatch q⟩
    · rw [q]; exact h1.obj
    · rw [q]; exact h2.obj
  keep := fun i h h' st k => by
    obtain ⟨hz, hTI, ⟨x, y, hTO⟩, h1, h2⟩ := st
    exact ⟨k z (by simp) _ hz, k TI (by simp) _ hTI, ⟨x, y, k TO (by simp) _ hTO⟩, h1.at fun o q => k i1 (by simp) o q, h2.at fun o q => k i2 (by simp) o q⟩
  item := by
    intro X hP hw hK hc i pins s σ H E I hf st hg
    subst hP hw hK
    obtain ⟨xs, ys, x, y, hqx, hqy, hx, hy⟩ := hg
    obtain ⟨its, rv, p⟩ := invK I hqx
    obtain ⟨its2, rv2, p2⟩ := invK I hqy
    obtain ⟨u, hu, ru⟩ := rv.get hx
    obtain ⟨u2, hu2, ru2⟩ := rv2.get hy
    have hh : X.A.handled = none := I.ok.hd hc
    have D1 := drawsK (prog := X.prog) (w := X.w) (A := X.A.in1) hh k1 i1 a n1 its.toArray
    have D2 := drawsK (prog := X.prog) (w := X.w) (A := X.A.in1) hh k2 i2 b n2 its2.toArray
    have l1 : i < its.length := (List.getElem?_eq_some_iff.mp hu).1
    have l2 : i < its2.length := (List.getElem?_eq_some_iff.mp hu2).1
    have W := GoesN.zip2 (elts := elts) (x1 := kk) (pos := tpos) S D1 D2
    refine W.goes i s (fun v s2 => ∃ x H', Inv X pins σ H' s2 ∧ RelV x v ∧ (Iz2 X.K k1 k2 a b).yld i H x H' ∧ (IsZip s2.heap z TI TO .none ∧ IsTupOf2 s2.heap TI (.ref i1) (.ref i2) ∧ (∃ x y, IsTupOf2 s2.heap TO x y) ∧ ItK k1 s2.heap i1 a (i + 1) ∧ ItK k2 s2.heap i2 b (i + 1)) ∧ ∀ b ∈ [z, TI, TO, i1, i2], H' b = none) E (by simp only [List.size_toArray]; omega) ⟨st.1, st.2.1, st.2.2.1, ⟨st.2.2.2.1, p⟩, st.2.2.2.2, p2⟩ fun v h' tk hY st' hk htk => ?_
    obtain ⟨T, v1, v2, rfl, hT, e1, e2, hTu⟩ := hY
    have q1 : v1 = u := by
      have e1' : its[i]? = some v1 := by simpa using e1
      rw [hu] at e1'; exact (Option.some.inj e1').symm
    have q2 : v2 = u2 := by
      have e2' : its2[i]? = some v2 := by simpa using e2
      rw [hu2] at e2'; exact (Option.some.inj e2').symm
    subst q1 q2
    have new : ObjOk X.prog X.w (upd H T (.tup [x, y])) h' T (.tup [x, y]) :=
      ⟨by show 2 ≤ sizeLine; decide, [v1, v2], .cons ru (.cons ru2 .nil), hTu⟩
    have I1 : Inv X pins σ (upd H T (.tup [x, y])) { s with heap := h', toks := tk } :=
      I.turnedNew (t' := tk) (ch := [z, TI, TO, i1, i2]) (fun c o hb q => hk c o (fun hm => hb (by
        simp only [List.mem_cons, List.mem_nil_iff, or_false] at hm ⊢
        rcases hm with q | q | q | q <;> simp [q])) q) hf hT new
    refine ⟨.ref T, _, I1, rfl, ⟨T, x, y, rfl, I.hok.fresh hT, rfl, fun l hl => by rw [injK I hl hqx]; exact hx, fun l hl => by rw [injK I hl hqy]; exact hy⟩, ⟨st'.1, st'.2.1, st'.2.2.1, st'.2.2.2.1.1, st'.2.2.2.2.1⟩, fun c hcm => ?_⟩
    have hlt : c < s.heap.objs.size := by
      obtain ⟨hz, hTI, ⟨x0, y0, hTO⟩, h1, h2⟩ := st
      have e' : c = z ∨ c = TI ∨ c = TO ∨ c = i1 ∨ c = i2 := by simpa using hcm
      rcases e' with q | q | q | q | q
      · rw [q]; exact Heap.lt_size hz
      · rw [q]; exact Heap.lt_size hTI
      · rw [q]; exact Heap.lt_size hTO
      · rw [q]; obtain ⟨_, e1, _⟩ := h1.obj; exact Heap.lt_size e1
      · rw [q]; obtain ⟨_, e2, _⟩ := h2.obj; exact Heap.lt_size e2
    rw [upd_ne (Nat.ne_of_lt (Nat.lt_of_lt_of_le hlt hT))]
    exact (hf c hcm).1
  done := by
    intro X hP hw hK hc i pins s σ H E I hf st hg
    subst hP hw hK
    obtain ⟨xs, ys, hqx, hqy, hl, hi⟩ := hg
    obtain ⟨its, rv, p⟩ := invK I hqx
    obtain ⟨its2, rv2, p2⟩ := invK I hqy
    have hh : X.A.handled = none := I.ok.hd hc
    have D1 := drawsK (prog := X.prog) (w := X.w) (A := X.A.in1) hh k1 i1 a n1 its.toArray
    have D2 := drawsK (prog := X.prog) (w := X.w) (A := X.A.in1) hh k2 i2 b n2 its2.toArray
    have W := GoesN.zip2 (elts := elts) (x1 := kk) (pos := tpos) S D1 D2
    have l1 := rv.length
    have l2 := rv2.length
    have en : min its.toArray.size its2.toArray.size = i := by simp only [List.size_toArray]; omega
    have st2 : (IsZip s.heap z TI TO .none ∧ IsTupOf2 s.heap TI (.ref i1) (.ref i2) ∧ (∃ a1 a2, IsTupOf2 s.heap TO a1 a2) ∧ (ItK k1 s.heap i1 a (min its.toArray.size its2.toArray.size) ∧ SeqK k1 s.heap a its.toArray) ∧ ItK k2 s.heap i2 b (min its.toArray.size its2.toArray.size) ∧ SeqK k2 s.heap b its2.toArray) := by
      rw [en]
      exact ⟨st.1, st.2.1, st.2.2.1, ⟨st.2.2.2.1, p⟩, st.2.2.2.2, p2⟩
    refine W.stops s (fun s1 => Inv X pins σ H s1) E st2 fun h' tk hk htk => ?_
    exact I.turnedL (t' := tk) (ch := [z, TI, TO, i1, i2]) (fun c o hb q => hk c o (fun hm => hb (by
        simp only [List.mem_cons, List.mem_nil_iff, or_false] at hm ⊢
        rcases hm with q | q | q | q <;> simp [q])) q) hf
  self := fun A i s Q E st h => wpAny_pyIter_zip st.1 h

theorem turn_z3 {P : Program} {w : World} {K : PySem.W.Frag} {elts : List Expr} {kk : Nat} {tpos : Pos} {k1 k2 k3 : Bool} {a b c z TI TO i1 i2 i3 : Addr} (S : ZipSep3 z TI TO i1 i2 i3 [i1, a] [i2, b] [i3, c]) (n1 : a ≠ i1) (n2 : b ≠ i2) (n3 : c ≠ i3) :
    Turn P w K (.Tuple elts kk tpos) (Iz3 K k1 k2 k3 a b c) [z, TI, TO, i1, i2, i3] z (fun i h => IsZip h z TI TO .none ∧ IsTupOf3 h TI (.ref i1) (.ref i2) (.ref i3) ∧ (∃ x y v, IsTupOf3 h TO x y v) ∧ ItK k1 h i1 a i ∧ ItK k2 h i2 b i ∧ ItK k3 h i3 c i) where
  mem := by simp
  obj := fun i h st c hc => by
    obtain ⟨hz, hTI, ⟨x, y, v, hTO⟩, h1, h2, h3⟩ := st
    have e' : c = z ∨ c = TI ∨ c = TO ∨ c = i1 ∨ c = i2 ∨ c = i3 := by simpa using hc
    rcases e' with q | q | q | q | q | q
    · rw [q]; exact ⟨_, hz, fun v q => nomatch q⟩
    · rw [q]; exact ⟨_, hTI, fun v q => nomatch q⟩
    · rw [q]; exact ⟨_, hTO, fun v q => nomatch q⟩
    · rw [q]; exact h1.obj
    · rw [q]; exact h2.obj
    · rw [q]; exact h3.obj
  keep := fun i h h' st k => by
    obtain ⟨hz, hTI, ⟨x, y, v, hTO⟩, h1, h2, h3⟩ := st
    exact ⟨k z (by simp) _ hz, k TI (by simp) _ hTI, ⟨x, y, v, k TO (by simp) _ hTO⟩, h1.at fun o q => k i1 (by simp) o q, h2.at fun o q => k i2 (by simp) o q, h3.at fun o q => k i3 (by simp) o q⟩
  item := by
    intro X hP hw hK hc i pins s σ H E I hf st hg
    subst hP hw hK
    obtain ⟨xs, ys, zs, x, y, v, hqx, hqy, hqz, hx, hy, hz⟩ := hg
    obtain ⟨its, rv, p⟩ := invK I hqx
    obtain ⟨its2, rv2, p2⟩ := invK I hqy
    obtain ⟨its3, rv3, p3⟩ := invK I hqz
    obtain ⟨u, hu, ru⟩ := rv.get hx
    obtain ⟨u2, hu2, ru2⟩ := rv2.get hy
    obtain ⟨u3, hu3, ru3⟩ := rv3.get hz
    have hh : X.A.handled = none := I.ok.hd hc
    have D1 := drawsK (prog := X.prog) (w := X.w) (A := X.A.in1) hh k1 i1 a n1 its.toArray
    have D2 := drawsK (prog := X.prog) (w := X.w) (A := X.A.in1) hh k2 i2 b n2 its2.toArray
    have D3 := drawsK (prog := X.prog) (w := X.w) (A := X.A.in1) hh k3 i3 c n3 its3.toArray
    have l1 : i < its.length := (List.getElem?_eq_some_iff.mp hu).1
    have l2 : i < its2.length := (List.getElem?_eq_some_iff.mp hu2).1
    have l3 : i < its3.length := (List.getElem?_eq_some_iff.mp hu3).1
    have W := GoesN.zip3 (elts := elts) (x1 := kk) (pos := tpos) S D1 D2 D3
    refine W.goes i s (fun v s2 => ∃ x H', Inv X pins σ H' s2 ∧ RelV x v ∧ (Iz3 X.K k1 k2 k3 a b c).yld i H x H' ∧ (IsZip s2.heap z TI TO .none ∧ IsTupOf3 s2.heap TI (.ref i1) (.ref i2) (.ref i3) ∧ (∃ x y v, IsTupOf3 s2.heap TO x y v) ∧ ItK k1 s2.heap i1 a (i + 1) ∧ ItK k2 s2.heap i2 b (i + 1) ∧ ItK k3 s2.heap i3 c (i + 1)) ∧ ∀ b ∈ [z, TI, TO, i1, i2, i3], H' b = none) E (by simp only [List.size_toArray]; omega) ⟨st.1, st.2.1, st.2.2.1, ⟨st.2.2.2.1, p⟩, ⟨st.2.2.2.2.1, p2⟩, st.2.2.2.2.2, p3⟩ fun v h' tk hY st' hk htk => ?_
    obtain ⟨T, v1, v2, v3, rfl, hT, e1, e2, e3, hTu⟩ := hY
    have q1 : v1 = u := by
      have e1' : its[i]? = some v1 := by simpa using e1
      rw [hu] at e1'; exact (Option.some.inj e1').symm
    have q2 : v2 = u2 := by
      have e2' : its2[i]? = some v2 := by simpa using e2
      rw [hu2] at e2'; exact (Option.some.inj e2').symm
    have q3 : v3 = u3 := by
      have e3' : its3[i]? = some v3 := by simpa using e3
      rw [hu3] at e3'; exact (Option.some.inj e3').symm
    subst q1 q2 q3
    have new : ObjOk X.prog X.w (upd H T (.tup [x, y, v])) h' T (.tup [x, y, v]) :=
      ⟨by show 3 ≤ sizeLine; decide, [v1, v2, v3], .cons ru (.cons ru2 (.cons ru3 .nil)), hTu⟩
    have I1 : Inv X pins σ (upd H T (.tup [x, y, v])) { s with heap := h', toks := tk } :=
      I.turnedNew (t' := tk) (ch := [z, TI, TO, i1, i2, i3]) (fun c o hb q => hk c o (fun hm => hb (by
        simp only [List.mem_cons, List.mem_nil_iff, or_false] at hm ⊢
        rcases hm with q | q | q | q | q <;> simp [q])) q) hf hT new
    refine ⟨.ref T, _, I1, rfl, ⟨T, x, y, v, rfl, I.hok.fresh hT, rfl, fun l hl => by rw [injK I hl hqx]; exact hx, fun l hl => by rw [injK I hl hqy]; exact hy, fun l hl => by rw [injK I hl hqz]; exact hz⟩, ⟨st'.1, st'.2.1, st'.2.2.1, st'.2.2.2.1.1, st'.2.2.2.2.1.1, st'.2.2.2.2.2.1⟩, fun c hcm => ?_⟩
    have hlt : c < s.heap.objs.size := by
      obtain ⟨hz, hTI, ⟨x0, y0, v0, hTO⟩, h1, h2, h3⟩ := st
      have e' : c = z ∨ c = TI ∨ c = TO ∨ c = i1 ∨ c = i2 ∨ c = i3 := by simpa using hcm
      rcases e' with q | q | q | q | q | q
      · rw [q]; exact Heap.lt_size hz
      · rw [q]; exact Heap.lt_size hTI
      · rw [q]; exact Heap.lt_size hTO
      · rw [q]; obtain ⟨_, e1, _⟩ := h1.obj; exact Heap.lt_size e1
      · rw [q]; obtain ⟨_, e2, _⟩ := h2.obj; exact Heap.lt_size e2
      · rw [q]; obtain ⟨_, e2, _⟩ := h3.obj; exact Heap.lt_size e2
    rw [upd_ne (Nat.ne_of_lt (Nat.lt_of_lt_of_le hlt hT))]
    exact (hf c hcm).1
  done := by
    intro X hP hw hK hc i pins s σ H E I hf st hg
    subst hP hw hK
    obtain ⟨xs, ys, zs, hqx, hqy, hqz, hl, hl2, hi⟩ := hg
    obtain ⟨its, rv, p⟩ := invK I hqx
    obtain ⟨its2, rv2, p2⟩ := invK I hqy
    obtain ⟨its3, rv3, p3⟩ := invK I hqz
    have hh : X.A.handled = none := I.ok.hd hc
    have D1 := drawsK (prog := X.prog) (w := X.w) (A := X.A.in1) hh k1 i1 a n1 its.toArray
    have D2 := drawsK (prog := X.prog) (w := X.w) (A := X.A.in1) hh k2 i2 b n2 its2.toArray
    have D3 := drawsK (prog := X.prog) (w := X.w) (A := X.A.in1) hh k3 i3 c n3 its3.toArray
    have W := GoesN.zip3 (elts := elts) (x1 := kk) (pos := tpos) S D1 D2 D3
    have l1 := rv.length
    have l2 := rv2.length
    have l3 := rv3.length
    have en : min (min its.toArray.size its2.toArray.size) its3.toArray.size = i := by simp only [List.size_toArray]; omega
    have st2 : (fun i h => IsZip h z TI TO .none ∧ IsTupOf3 h TI (.ref i1) (.ref i2) (.ref i3) ∧ (∃ a1 a2 a3, IsTupOf3 h TO a1 a2 a3) ∧ (ItK k1 h i1 a i ∧ SeqK k1 h a its.toArray) ∧ (ItK k2 h i2 b i ∧ SeqK k2 h b its2.toArray) ∧ ItK k3 h i3 c i ∧ SeqK k3 h c its3.toArray) (min (min its.toArray.size its2.toArray.size) its3.toArray.size) s.heap := by
      rw [en]
      exact ⟨st.1, st.2.1, st.2.2.1, ⟨st.2.2.2.1, p⟩, ⟨st.2.2.2.2.1, p2⟩, st.2.2.2.2.2, p3⟩
    refine W.stops s (fun s1 => Inv X pins σ H s1) E st2 fun h' tk hk htk => ?_
    exact I.turnedL (t' := tk) (ch := [z, TI, TO, i1, i2, i3]) (fun c o hb q => hk c o (fun hm => hb (by
        simp only [List.mem_cons, List.mem_nil_iff, or_false] at hm ⊢
        rcases hm with q | q | q | q | q <;> simp [q])) q) hf
  self := fun A i s Q E st h => wpAny_pyIter_zip st.1 h

/-! ### the walks -/
def iSeq (K : PySem.W.Frag) (tl : TE) : TI := fun σ H R => tl σ H fun x H1 => ∃ (k : Bool) (a : Addr) (xs : List V), x = .ref a ∧ Sqk K k H1 a xs ∧ R (match k with | true => Itl K a | false => Itt K a) H1
theorem pi_seq {X : Cx} {tg l : Expr} {tl : TE} (hl : PE X l tl) : PI X tg l (iSeq X.K tl) := by
  refine ⟨fun pins s σ H R I h => ?_⟩
  refine thn (hl.run pins s σ H _ I h) fun v s1 ⟨x, H1, I1, r1, q1⟩ => ?_
  obtain ⟨k, a, xs, e, hq, q⟩ := q1
  subst e
  cases r1
  cases k with
  | true =>
    obtain ⟨its, rv, p, hz⟩ := I1.list hq
    refine wpAny_pyIter_list p.isList ?_
    refine ⟨s1.heap.objs.size, [s1.heap.objs.size], _, _, H1, rfl, I1.kept (t' := s1.toks) fun b o e => Heap.get?_push_of_some _ e, turn_list a _, ⟨_, Heap.get?_push_size _ rfl, rfl, rfl⟩, fun b hb => ?_, q⟩
    have e : b = s1.heap.objs.size := by simpa using hb
    subst e
    exact I1.fpOk (Nat.le_refl _) (I1.hok.fresh (Nat.le_refl _))
  | false =>
    obtain ⟨its, rv, p, hz⟩ := I1.tuple hq
    refine wpAny_pyIter_tuple (show s1.heap.IsTuple a its.toArray from p) ?_
    refine ⟨s1.heap.objs.size, [s1.heap.objs.size], _, _, H1, rfl, I1.kept (t' := s1.toks) fun b o e => Heap.get?_push_of_some _ e, turn_tuple a _, ⟨_, Heap.get?_push_size _ rfl, rfl, rfl⟩, fun b hb => ?_, q⟩
    have e : b = s1.heap.objs.size := by simpa using hb
    subst e
    exact I1.fpOk (Nat.le_refl _) (I1.hok.fresh (Nat.le_refl _))
theorem walk_seq {K : PySem.W.Frag} {k : Bool} {a : Addr} {xs : List V} : Walk (match k with | true => Itl K a | false => Itt K a) xs.length (fun H => Sqk K k H a xs) (YAt xs) := by
  cases k with
  | true => exact walk_list
  | false => exact walk_tup
def iZ2 (K : PySem.W.Frag) (ta : TA) : TI := fun σ H R => ta σ H fun vs H1 => ∃ (k1 k2 : Bool) (a b : Addr) (xs ys : List V), vs = [.ref a, .ref b] ∧ Sqk K k1 H1 a xs ∧ Sqk K k2 H1 b ys ∧ R (Iz2 K k1 k2 a b) H1
def iZ3 (K : PySem.W.Frag) (ta : TA) : TI := fun σ H R => ta σ H fun vs H1 => ∃ (k1 k2 k3 : Bool) (a b c : Addr) (xs ys zs : List V), vs = [.ref a, .ref b, .ref c] ∧ Sqk K k1 H1 a xs ∧ Sqk K k2 H1 b ys ∧ Sqk K k3 H1 c zs ∧ R (Iz3 K k1 k2 k3 a b c) H1
theorem pi_z2 {X : Cx} {e e2 : Expr} {ta : TA} {p pos tpos : Pos} {elts : List Expr} {kk : Nat} (hg : Gl X "zip") (hm : X.mg "zip" = none) (ha : PA X [e, e2] ta)
    (hs : starEach [e, e2] X.env = (false, eval e X.env) :: starEach [e2] X.env := by rfl) (hpl : (backTo pos (starEach [e2] X.env)).any (·.1) = false := by rfl) :
    PI X (.Tuple elts kk tpos) (.Call (.Name "zip" p) [e, e2] [] pos) (iZ2 X.K ta) := by
  refine ⟨fun pins s σ H R I h => ?_⟩
  refine Call_ (ld_blt I hg hm PyProof.Rows.boot_zip (PyProof.Rows.callWith_type1 (thn (ha.run pos pins s σ H _ I h) fun us s1 ⟨vs, H1, I1, r1, q1⟩ => ?_) hs hpl))
  obtain ⟨k1, k2, a, b, xs, ys, ex, hqx, hqy, q⟩ := q1
  subst ex
  cases r1 with
  | cons r rr =>
    cases rr with
    | cons r' rr =>
      cases rr
      cases r
      cases r'
      obtain ⟨its, rv, p1⟩ := invK I1 hqx
      obtain ⟨its2, rv2, p2⟩ := invK I1 hqy
      have la : a < s1.heap.objs.size := p1.lt
      have lb : b < s1.heap.objs.size := p2.lt
      refine zip_begins2 (begK k1 a its.toArray) (begK k2 b its2.toArray) p1 p2 fun h' hz hTI hTO h1 h2 hsz hk => wpAny_pyIter_zip hz ?_
      have I2 : Inv X pins σ H1 { s1 with heap := h' } := I1.kept (t' := s1.toks) hk
      refine ⟨s1.heap.objs.size + 4, [s1.heap.objs.size + 4, s1.heap.objs.size + 2, s1.heap.objs.size + 3, s1.heap.objs.size, s1.heap.objs.size + 1], _, _, H1, rfl, I2, turn_z2 (zip_sep2 (fun b hb => by simp at hb; rw [hb]; exact la) (fun b hb => by simp at hb; rw [hb]; exact lb)) (Nat.ne_of_lt la) (Nat.ne_of_lt (Nat.lt_succ_of_lt lb)), ⟨hz, hTI, ⟨_, _, hTO⟩, ItK.new h1, ItK.new h2⟩, fun c hcm => ?_, q⟩
      have e' : c = s1.heap.objs.size + 4 ∨ c = s1.heap.objs.size + 2 ∨ c = s1.heap.objs.size + 3 ∨ c = s1.heap.objs.size ∨ c = s1.heap.objs.size + 1 := by simpa using hcm
      have hle : s1.heap.objs.size ≤ c := by
        rcases e' with z | z | z | z | z
        · rw [z]; exact Nat.le_add_right _ _
        · rw [z]; exact Nat.le_add_right _ _
        · rw [z]; exact Nat.le_add_right _ _
        · rw [z]; exact Nat.le_refl _
        · rw [z]; exact Nat.le_add_right _ _
      exact I1.fpOk hle (I1.hok.fresh hle)
theorem pi_z3 {X : Cx} {e e2 e3 : Expr} {ta : TA} {p pos tpos : Pos} {elts : List Expr} {kk : Nat} (hg : Gl X "zip") (hm : X.mg "zip" = none) (ha : PA X [e, e2, e3] ta)
    (hs : starEach [e, e2, e3] X.env = (false, eval e X.env) :: starEach [e2, e3] X.env := by rfl) (hpl : (backTo pos (starEach [e2, e3] X.env)).any (·.1) = false := by rfl) :
    PI X (.Tuple elts kk tpos) (.Call (.Name "zip" p) [e, e2, e3] [] pos) (iZ3 X.K ta) := by
  refine ⟨fun pins s σ H R I h => ?_⟩
  refine Call_ (ld_blt I hg hm PyProof.Rows.boot_zip (PyProof.Rows.callWith_type1 (thn (ha.run pos pins s σ H _ I h) fun us s1 ⟨vs, H1, I1, r1, q1⟩ => ?_) hs hpl))
  obtain ⟨k1, k2, k3, a, b, c, xs, ys, zs, ex, hqx, hqy, hqz, q⟩ := q1
  subst ex
  cases r1 with
  | cons r rr =>
    cases rr with
    | cons r' rr =>
      cases rr with
      | cons r'' rr =>
        cases rr
        cases r
        cases r'
        cases r''
        obtain ⟨its, rv, p1⟩ := invK I1 hqx
        obtain ⟨its2, rv2, p2⟩ := invK I1 hqy
        obtain ⟨its3, rv3, p3⟩ := invK I1 hqz
        have la : a < s1.heap.objs.size := p1.lt
        have lb : b < s1.heap.objs.size := p2.lt
        have lc : c < s1.heap.objs.size := p3.lt
        refine zip_begins3 (begK k1 a its.toArray) (begK k2 b its2.toArray) (begK k3 c its3.toArray) p1 p2 p3 fun h' hz hTI hTO h1 h2 h3 hsz hk => wpAny_pyIter_zip hz ?_
        have I2 : Inv X pins σ H1 { s1 with heap := h' } := I1.kept (t' := s1.toks) hk
        refine ⟨s1.heap.objs.size + 5, [s1.heap.objs.size + 5, s1.heap.objs.size + 3, s1.heap.objs.size + 4, s1.heap.objs.size, s1.heap.objs.size + 1, s1.heap.objs.size + 2], _, _, H1, rfl, I2, turn_z3 (zip_sep3 (fun b hb => by simp at hb; rw [hb]; exact la) (fun b hb => by simp at hb; rw [hb]; exact lb) (fun b hb => by simp at hb; rw [hb]; exact lc)) (Nat.ne_of_lt la) (Nat.ne_of_lt (Nat.lt_succ_of_lt lb)) (Nat.ne_of_lt (Nat.lt_succ_of_lt (Nat.lt_succ_of_lt lc))), ⟨hz, hTI, ⟨_, _, _, hTO⟩, ItK.new h1, ItK.new h2, ItK.new h3⟩, fun c hcm => ?_, q⟩
        have e' : c = s1.heap.objs.size + 5 ∨ c = s1.heap.objs.size + 3 ∨ c = s1.heap.objs.size + 4 ∨ c = s1.heap.objs.size ∨ c = s1.heap.objs.size + 1 ∨ c = s1.heap.objs.size + 2 := by simpa using hcm
        have hle : s1.heap.objs.size ≤ c := by
          rcases e' with z | z | z | z | z | z
          · rw [z]; exact Nat.le_add_right _ _
          · rw [z]; exact Nat.le_add_right _ _
          · rw [z]; exact Nat.le_add_right _ _
          · rw [z]; exact Nat.le_refl _
          · rw [z]; exact Nat.le_add_right _ _
          · rw [z]; exact Nat.le_add_right _ _
        exact I1.fpOk hle (I1.hok.fresh hle)
/-- a new triple -/
def YTrip (xs ys zs : Nat → Option V) : Nat → Hp → V → Hp → Prop := fun i H v H' => ∃ T x y z, v = .ref T ∧ H T = none ∧ H' = upd H T (.tup [x, y, z]) ∧ xs i = some x ∧ ys i = some y ∧ zs i = some z
section
variable {K : PySem.W.Frag} {k1 k2 k3 : Bool} {a b c : Addr} {xs ys zs : List V}
theorem walk_z2 (hl : xs.length = ys.length) : Walk (Iz2 K k1 k2 a b) xs.length (fun H => Sqk K k1 H a xs ∧ Sqk K k2 H b ys) (YPair (fun i => xs[i]?) (fun i => ys[i]?)) := by
  refine ⟨fun i _ hi q => ?_, fun _ q => ⟨xs, ys, q.1, q.2, hl, rfl⟩, fun i H v H' _ q y => ?_⟩
  · have h2 : i < ys.length := by omega
    exact ⟨xs, ys, xs[i], ys[i], q.1, q.2, by simp [hi], by simp [h2]⟩
  · obtain ⟨T, x, z, h1, h2, h3, h4, h5⟩ := y
    exact ⟨T, x, z, h1, h2, h3, h4 xs q.1, h5 ys q.2⟩
theorem walk_z3 (hl : xs.length = ys.length) (hl2 : ys.length = zs.length) : Walk (Iz3 K k1 k2 k3 a b c) xs.length (fun H => Sqk K k1 H a xs ∧ Sqk K k2 H b ys ∧ Sqk K k3 H c zs) (YTrip (fun i => xs[i]?) (fun i => ys[i]?) (fun i => zs[i]?)) := by
  refine ⟨fun i _ hi q => ?_, fun _ q => ⟨xs, ys, zs, q.1, q.2.1, q.2.2, hl, hl2, rfl⟩, fun i H v H' _ q y => ?_⟩
  · have h2 : i < ys.length := by omega
    have h3 : i < zs.length := by omega
    exact ⟨xs, ys, zs, xs[i], ys[i], zs[i], q.1, q.2.1, q.2.2, by simp [hi], by simp [h2], by simp [h3]⟩
  · obtain ⟨T, x, z, v, h1, h2, h3, h4, h5, h6⟩ := y
    exact ⟨T, x, z, v, h1, h2, h3, h4 xs q.1, h5 ys q.2.1, h6 zs q.2.2⟩
end
end Cs

namespace Cs
open PySem PySem.Spec PyProof.Rows L2

/-! ### keywords -/
section
variable {X : Cx} {CX : CXT} {k n : Nat} {f C : Addr} {fd : FuncData} {ps ks : List Str} {sp : Sp} {E : XK} {x m : Str} {p pos apos : Pos} {e o : Expr} {es : List Expr} {kws : List Keyword} {ta : TE} {t tk : TA} {g : List Value → List Value → List Value} {gV : List V → List V → List V}
def tMethK (C : Addr) (m : Str) (n j : Nat) (sp : Sp) (gV : List V → List V → List V) (E : XK) (ta : TE) (t tk : TA) : TE := fun σ H Q => ta σ H fun x H1 => ∃ a dx fs, x = .ref a ∧ H1 a = some (.ins C dx fs) ∧ fs.lookup m = none ∧
  t σ H1 fun vs H2 => tk σ H2 fun zs H3 => vs.length = n ∧ zs.length = j ∧ sp (gV (x :: vs) zs) H3 Q E
theorem pe_methK0 {pl : Sem Bool} (he : PE X o ta) (c : Cls X.K C) (hm : Meth X.K C m f) (F : FnOk X.prog X.w X.K X.mg X.base CX k f fd ps sp) (hr : Room k X.A) (hb : KBn X.K fd ps 1 ks g gV) (hx : Passes CX X E) (hkw : PK X kws tk)
    (hall : (backToKw pos (keywordEach kws X.env)).all (·.1.isSome) = true := by rfl) (hks : (backToKw pos (keywordEach kws X.env)).filterMap (·.1) = ks := by rfl)
    (hpl : ((backTo pos (starEach [] X.env)).any (·.1) || (backToKw pos (keywordEach kws X.env)).any (·.1.isNone)) = false := by rfl)
    (ht : eval (.Call (.Attribute o m apos) [] kws pos) X.env = (do
      let ov ← eval o X.env
      standAt apos.atName
      let (f, first) ← holding [ov] (getMethod ov m pl)
      callWith pos f first (backTo pos (starEach [] X.env)) (backToKw pos (keywordEach kws X.env))) := by rfl) :
    PE X (.Call (.Attribute o m apos) [] kws pos) (tMethK C m 0 ks.length sp gV E ta tNil tk) := by
  refine ⟨fun pins s σ H Q I h => ?_⟩
  refine PySem.W.methodCall_KW (pl := pl) (thn (he.run pins s σ H _ I h) fun u s1 ⟨x, H1, I1, rx, a, dx, fs, ex, ea, l, q⟩ => ?_) ht
  subst ex
  obtain rfl : u = Value.ref a := rx
  refine getmeth_ok I1 ea c hm l ?_
  refine PySem.W.callWith_KW0 (h₀ := X.base) (first := [.ref a]) I1.ok.mod.kin hm.kp hall ?_ hpl
  refine thn (hkw.run pos pins s1 σ H1 _ I1 q) fun ws s2 ⟨zs, H2, I2, rz, l1, l2, q2⟩ => ⟨I2.kIn, ?_⟩
  rw [hks]
  exact run_fnN (us := [.ref a]) (vs := [.ref a]) F hr hb hx I2 (.cons rfl .nil) rz rfl l2 q2
end

/-! ### list + list, the left one of any standing -/
theorem op_catS {X : Cx} : OpR X (binaryOp .Add) (fun x y H Q => ∃ l b xs zs, x = .ref l ∧ y = .ref b ∧ SqL X.K H l xs ∧ SqL X.K H b zs ∧ xs.length + zs.length ≤ sizeLine ∧ ∀ p, H p = none → Q (.ref p) (upd H p (.lst (xs ++ zs)))) := by
  intro pins s σ H x y v u Q I rx ry h
  obtain ⟨l, b, xs, zs, rfl, rfl, hH, hB, hz, q⟩ := h
  cases rx
  cases ry
  obtain ⟨its, r, p1, z⟩ := I.list hH
  obtain ⟨its2, r2, p2, z2⟩ := I.list hB
  have e1 := r.length
  have e2 := r2.length
  obtain ⟨⟨cls, dd, data, sl⟩, n, ho, hc, hs, hd⟩ := p1
  obtain ⟨⟨cls2, dd2, data2, sl2⟩, n2, ho2, hc2, hs2, hd2⟩ := p2
  simp only at hc hd hc2 hd2 hs hs2
  subst hc hd hc2 hd2 hs hs2
  have ea : its.toArray ++ its2.toArray = (its ++ its2).toArray := by simp
  refine concat_meets ⟨_, ho, rfl⟩ ⟨_, ho2, rfl⟩ noFill_list_add seq_list_add PySem.F.slot_list_add PySem.F.entry_list_add (PySem.F.args_list_add_2 _ _) (list_addW l b its.toArray its2.toArray n n2 none none sl sl2 (by simp only [List.size_toArray]; omega)) ⟨ho, ho2, ?_⟩
  rw [ea]
  exact ⟨.ref _, _, I.lnew (t' := s.toks) (r.append r2) (by rw [List.length_append]; omega), rfl, q _ I.fresh⟩

/-! ### heaps -/
theorem upd_old {H : Hp} {p q : Addr} {o : HO} (hp : H p = none) (hq : H q ≠ none) : upd H p o q = H q := upd_ne (fun e => hq (by rw [e]; exact hp))
/-- all that was tracked is as it was, but what stands at a -/
def Sx (a : Addr) (H H' : Hp) : Prop := ∀ b o, b ≠ a → H b = some o → H' b = some o
theorem Sx.refl {a : Addr} {H : Hp} : Sx a H H := fun _ _ _ h => h
theorem Sx.trans {a : Addr} {H H1 H2 : Hp} (x : Sx a H H1) (y : Sx a H1 H2) : Sx a H H2 := fun b o n h => y b o n (x b o n h)
theorem Sx.of {a : Addr} {H H' : Hp} (x : Same H H') : Sx a H H' := fun b o _ h => x b o h
theorem Sx.new {a p : Addr} {H : Hp} {o : HO} (hp : H p = none) : Sx a H (upd H p o) := fun b u _ h => by rw [upd_old hp (by rw [h]; simp)]; exact h
theorem Sx.put {a : Addr} {H : Hp} {o : HO} : Sx a H (upd H a o) := fun b u n h => by rw [upd_ne n]; exact h
theorem Same.new {p : Addr} {H : Hp} {o : HO} (hp : H p = none) : Same H (upd H p o) := fun b u h => by rw [upd_old hp (by rw [h]; simp)]; exact h
theorem Sx.same {a : Addr} {H H' : Hp} (x : Sx a H H') (h : H a = none) : Same H H' := fun b o e => x b o (fun z => by rw [z, h] at e; cases e) e
theorem ne_some {H : Hp} {p q : Addr} {o : HO} (hq : H q = some o) (hp : H p = none) : q ≠ p := fun e => by rw [e, hp] at hq; cases hq
theorem ne_two {H : Hp} {p q : Addr} {o u : HO} (hq : H q = some o) (hp : H p = some u) (d : o ≠ u) : q ≠ p := fun e => by rw [e, hp] at hq; exact d (Option.some.inj hq).symm

/-! ### comprehensions -/
section
variable {J : It} {n : Nat} {G : Hp → Prop} {Y : Nat → Hp → V → Hp → Prop}
/-- a comprehension without a test: Ia by the turn, what is made so far, and the heap; it does not look at the new list -/
theorem lc_gen (w : Walk J n G Y) {g : TG} {te : TE} {vs : List Nat} {σ : L2.St} {H1 : Hp} {D : Addr} {Qd : Hp → Prop} (Ia : Nat → List V → Hp → Prop) (hn : n ≤ sizeLine)
    (h0 : Ia 0 [] (upd H1 D (.lst []))) (hG : ∀ i acc H, i ≤ n → Ia i acc H → H D = some (.lst acc) → G H) (hst : ∀ i acc H l, Ia i acc H → H D ≠ none → Ia i acc (upd H D (.lst l)))
    (hs : ∀ i acc x H H' (Qy : VK), i < n → acc.length = i → Ia i acc H → H D = some (.lst acc) → Y i H x H' → (∀ y H4, H4 D = some (.lst acc) → Ia (i + 1) (acc ++ [y]) H4 → Qy y H4) → g x (wipe σ vs) H' fun σ2 H2 => wipe σ2 vs = wipe σ vs ∧ te σ2 H2 Qy)
    (hd : ∀ acc H, acc.length = n → Ia n acc H → H D = some (.lst acc) → Qd H) :
    ∃ W : Nat → Nat → Hp → Prop, (∃ m, W 0 m (upd H1 D (.lst []))) ∧ ∀ i m H, W i m H →
      (J.stop i H ∧ Qd H) ∨ (J.go i H ∧ ∃ Nx : Hp → Prop, (∀ H', Nx H' → ∃ m', m' < m ∧ W (i + 1) m' H') ∧ ∀ x H', J.yld i H x H' → g x (wipe σ vs) H' fun σ2 H2 => wipe σ2 vs = wipe σ vs ∧ tYes σ2 H2 fun b H3 =>
        if b = true then te σ2 H3 fun y H4 => ∃ acc, H4 D = some (.lst acc) ∧ acc.length < sizeLine ∧ Nx (upd H4 D (.lst (acc ++ [y]))) else Nx H3) := by
  refine lc_it w (fun i H => ∃ acc : List V, acc.length = i ∧ Ia i acc H ∧ H D = some (.lst acc)) ⟨[], rfl, h0, upd_same⟩ (fun i H hi ⟨acc, _, h, e⟩ => hG i acc H hi h e) (fun i x H H' hi ⟨acc, hl, h, e⟩ hy => ?_) (fun H ⟨acc, hl, h, e⟩ => hd acc H hl h e)
  refine hs i acc x H H' _ hi hl h e hy fun y H4 q1 q2 => ⟨acc, q1, by omega, acc ++ [y], by rw [List.length_append]; simp [hl], ?_, upd_same⟩
  exact hst _ _ _ _ q2 (by rw [q1]; simp)
/-- a comprehension that maps, and leaves all that was tracked as it was -/
theorem lc_map (w : Walk J n G Y) {g : TG} {te : TE} {vs : List Nat} {σ : L2.St} {H1 : Hp} {D : Addr} {Qd : Hp → Prop} (res : List V) (hl : res.length = n) (hn : n ≤ sizeLine) (hD : H1 D = none)
    (hG : ∀ H, Same H1 H → G H)
    (hs : ∀ i x H H' y (Qy : VK), i < n → Same H1 H → H D ≠ none → Y i H x H' → res[i]? = some y → (∀ H4, Same H' H4 → Qy y H4) → g x (wipe σ vs) H' fun σ2 H2 => wipe σ2 vs = wipe σ vs ∧ te σ2 H2 Qy)
    (hY : ∀ i x H H', Y i H x H' → Same H H')
    (hd : ∀ H, Same H1 H → H D = some (.lst res) → Qd H) :
    ∃ W : Nat → Nat → Hp → Prop, (∃ m, W 0 m (upd H1 D (.lst []))) ∧ ∀ i m H, W i m H →
      (J.stop i H ∧ Qd H) ∨ (J.go i H ∧ ∃ Nx : Hp → Prop, (∀ H', Nx H' → ∃ m', m' < m ∧ W (i + 1) m' H') ∧ ∀ x H', J.yld i H x H' → g x (wipe σ vs) H' fun σ2 H2 => wipe σ2 vs = wipe σ vs ∧ tYes σ2 H2 fun b H3 =>
        if b = true then te σ2 H3 fun y H4 => ∃ acc, H4 D = some (.lst acc) ∧ acc.length < sizeLine ∧ Nx (upd H4 D (.lst (acc ++ [y]))) else Nx H3) := by
  refine lc_gen w (fun i acc H => Same H1 H ∧ acc = res.take i) hn ⟨Same.new hD, by simp⟩ (fun i acc H _ h _ => hG H h.1) (fun i acc H l h _ => ⟨fun b o e => ?_, h.2⟩) (fun i acc x H H' Qy hi ha h e hy hq => ?_) (fun acc H ha h e => ?_)
  · rw [upd_ne (ne_some e hD)]
    exact h.1 b o e
  · have hi2 : i < res.length := by omega
    have hr : res[i]? = some res[i] := List.getElem?_eq_getElem hi2
    refine hs i x H H' res[i] Qy hi h.1 (by rw [e]; simp) hy hr fun H4 s4 => hq _ _ (s4 _ _ (hY _ _ _ _ hy _ _ e)) ⟨h.1.trans ((hY _ _ _ _ hy).trans s4), ?_⟩
    rw [h.2, List.take_add_one, hr]
    rfl
  · rw [h.2, ← hl, List.take_length] at e
    exact hd H h.1 e
end
theorem YAt.same {xs : List V} {i : Nat} {x : V} {H H' : Hp} (h : YAt xs i H x H') : Same H H' := by rw [h.1]; exact Same.refl _
theorem YPair.same {f g : Nat → Option V} {i : Nat} {x : V} {H H' : Hp} (h : YPair f g i H x H') : Same H H' := by
  obtain ⟨T, x, y, _, hT, rfl, _⟩ := h
  exact Same.new hT
theorem YTrip.same {f g k : Nat → Option V} {i : Nat} {x : V} {H H' : Hp} (h : YTrip f g k i H x H') : Same H H' := by
  obtain ⟨T, x, y, z, _, hT, rfl, _⟩ := h
  exact Same.new hT

/-! ### isinstance -/
/-- isinstance(x, c) is b -/
def IsI (K : PySem.W.Frag) (H : Hp) (x c : V) (b : Bool) : Prop := ∃ t u : Value, ClsV c u ∧ TyX K H x t ∧ PySem.W.kitOne K t u = some b
def rIsI (K : PySem.W.Frag) : List V → Hp → VK → Prop := fun vs H Q => ∃ x c b, vs = [x, c] ∧ IsI K H x c b ∧ Q (.bl b) H
theorem call_isI {X : Cx} : CallR X (.builtin "isinstance") (rIsI X.K) := by
  intro pins s σ H xs us Q I r h
  obtain ⟨x, c, b, rfl, ⟨t, u, h1, h2, h3⟩, q⟩ := h
  exact call_isi pins s σ H _ us Q I r ⟨x, c, t, u, b, rfl, h1, h2, h3, q⟩
/-- a value that is no object: its type's name -/
def tyN : V → Option String
  | .non => some "NoneType"
  | .bl _ => some "bool"
  | .int _ => some "int"
  | .str _ => some "str"
  | _ => none
theorem tyN_of {K : PySem.W.Frag} {H : Hp} {x : V} {t : Value} {n : String} (h : TyX K H x t) (e : tyN x = some n) : t = .type n := by
  cases h with
  | base b => cases b <;> simp [tyN] at e <;> subst e <;> rfl
  | byt b => simp [tyN] at e
  | set e' => simp [tyN] at e
  | kList e' _ => simp [tyN] at e
  | kTuple e' _ => simp [tyN] at e
  | kDict e' _ => simp [tyN] at e
  | fTuple e' => simp [tyN] at e
  | fDict e' => simp [tyN] at e
theorem isI_ty {K : PySem.W.Frag} {H : Hp} {x : V} {n : String} {c : String} {b : Bool} (ty : TyX K H x (.type n)) (h : kitB n c = some b) : IsI K H x (.ty c) b := ⟨_, _, .ty c, ty, kit_ty h⟩
theorem isI_iff {K : PySem.W.Frag} {H : Hp} {x : V} {n c : String} {b : Bool} {p : Bool → Prop} (e : tyN x = some n) (ty : TyX K H x (.type n)) (h : kitB n c = some b) : (∃ k, IsI K H x (.ty c) k ∧ p k) ↔ p b := by
  constructor
  · rintro ⟨k, ⟨t, u, hc, ht, hk⟩, q⟩
    have e1 := tyN_of ht e
    subst e1
    cases hc
    have e2 := hk.symm.trans (kit_ty (K := K) h)
    cases e2
    exact q
  · intro q
    exact ⟨b, isI_ty ty h, q⟩
section
variable {K : PySem.W.Frag} {H : Hp} {p : Bool → Prop}
theorem isI_int_int (n : Int) : (∃ k, IsI K H (.int n) (.ty "int") k ∧ p k) ↔ p true := isI_iff rfl (.base (.int n)) (by decide +kernel)
theorem isI_int_bool (n : Int) : (∃ k, IsI K H (.int n) (.ty "bool") k ∧ p k) ↔ p false := isI_iff rfl (.base (.int n)) (by decide +kernel)
theorem isI_bl_int (n : Bool) : (∃ k, IsI K H (.bl n) (.ty "int") k ∧ p k) ↔ p true := isI_iff rfl (.base (.bl n)) (by decide +kernel)
theorem isI_bl_bool (n : Bool) : (∃ k, IsI K H (.bl n) (.ty "bool") k ∧ p k) ↔ p true := isI_iff rfl (.base (.bl n)) (by decide +kernel)
theorem isI_str_str (n : Str) : (∃ k, IsI K H (.str n) (.ty "str") k ∧ p k) ↔ p true := isI_iff rfl (.base (.str n)) (by decide +kernel)
end
theorem isI_tup {K : PySem.W.Frag} {H : Hp} {a : Addr} {xs : List V} (h : H a = some (.tup xs)) : IsI K H (.ref a) (.ty "tuple") true := isI_ty (.base (.tup h)) (by decide +kernel)
theorem isI_lst {K : PySem.W.Frag} {H : Hp} {a : Addr} {xs : List V} (h : H a = some (.lst xs)) : IsI K H (.ref a) (.ty "list") true := isI_ty (.base (.lst h)) (by decide +kernel)
theorem isI_tup_list {K : PySem.W.Frag} {H : Hp} {a : Addr} {xs : List V} (h : H a = some (.tup xs)) : IsI K H (.ref a) (.ty "list") false := isI_ty (.base (.tup h)) (by decide +kernel)
theorem isI_lst_tup {K : PySem.W.Frag} {H : Hp} {a : Addr} {xs : List V} (h : H a = some (.lst xs)) : IsI K H (.ref a) (.ty "tuple") false := isI_ty (.base (.lst h)) (by decide +kernel)
/-- isinstance(x, (c1, c2)) is b -/
def IsA (K : PySem.W.Frag) (H : Hp) (x : V) (cs : List V) (b : Bool) : Prop := ∃ (t : Value) (us : List Value), Paired ClsV cs us ∧ TyX K H x t ∧ PySem.W.kitAny K t us = some b
def rIsA (K : PySem.W.Frag) : List V → Hp → VK → Prop := fun vs H Q => ∃ (x : V) (tp : Addr) (cs : List V) (b : Bool), vs = [x, .ref tp] ∧ H tp = some (.tup cs) ∧ IsA K H x cs b ∧ Q (.bl b) H
theorem call_isA {X : Cx} : CallR X (.builtin "isinstance") (rIsA X.K) := by
  intro pins s σ H xs us Q I r h
  obtain ⟨x, tp, cs, b, rfl, hT, ⟨t, ws, h1, h2, h3⟩, q⟩ := h
  exact call_isiT pins s σ H _ us Q I r ⟨x, tp, cs, t, ws, b, rfl, hT, h1, h2, h3, q⟩
theorem isA_two {K : PySem.W.Frag} {H : Hp} {x : V} {n c1 c2 : String} {b1 b2 b : Bool} (ty : TyX K H x (.type n)) (h1 : kitB n c1 = some b1) (h2 : kitB n c2 = some b2) (e : b = (b1 || b2)) : IsA K H x [.ty c1, .ty c2] b := by
  subst e
  refine ⟨_, [_, _], .cons (.ty c1) (.cons (.ty c2) .nil), ty, kitAny_cons (kit_ty h1) (fun e => ?_) fun e => by rw [e]; rfl⟩
  subst e
  exact kitAny_cons (kit_ty h2) (fun e => by subst e; exact kitAny_nil) fun e => by rw [e]; rfl

/-! ### data -/
theorem dpAll_ints {K : PySem.W.Frag} {H : Hp} : ∀ ns : List Int, DpAll K H (ns.map V.int) (ns.map PyData.int)
  | [] => .nil
  | n :: ns => .cons (.int n) (dpAll_ints ns)
theorem canLay_ints : ∀ ns : List Int, PyData.canLayAll0 (ns.map PyData.int) = true
  | [] => rfl
  | n :: ns => by
    show (PyData.canLay0 (.int n) && PyData.canLayAll0 (ns.map PyData.int)) = true
    rw [canLay_ints ns]
    rfl
theorem depth_ints : ∀ ns : List Int, PyData.depthAll (ns.map PyData.int) = 0
  | [] => rfl
  | n :: ns => by
    show max (PyData.depth (.int n)) (PyData.depthAll (ns.map PyData.int)) = 0
    rw [depth_ints ns]
    rfl
theorem eqvAll_ints : ∀ ns ms : List Int, PyData.eqvAll (ns.map PyData.int) (ms.map PyData.int) = decide (ns = ms)
  | [], [] => rfl
  | [], _ :: _ => rfl
  | _ :: _, [] => rfl
  | n :: ns, m :: ms => by
    show (PyData.eqv (.int n) (.int m) && PyData.eqvAll (ns.map PyData.int) (ms.map PyData.int)) = _
    rw [eqvAll_ints ns ms]
    show ((n == m) && decide (ns = ms)) = decide (n :: ns = m :: ms)
    by_cases h : n = m <;> by_cases h2 : ns = ms <;> simp [h, h2]
def tupI (ns : List Int) : PyData := .tuple (ns.map PyData.int)
theorem dp_tupI {K : PySem.W.Frag} {H : Hp} {a : Addr} {ns : List Int} (h : SqT K H a (ns.map V.int)) : Dp K H (.ref a) (tupI ns) := .tup h (dpAll_ints ns)
theorem eqv_tupI (ns ms : List Int) : PyData.eqv (tupI ns) (tupI ms) = decide (ns = ms) := eqvAll_ints ns ms
theorem shaped_tupI (ns : List Int) : SeqAt.shaped (tupI ns) = true := by
  have h1 : PyData.canLay0 (tupI ns) = true := canLay_ints ns
  have h2 : PyData.depth (tupI ns) ≤ 64 := by
    show PyData.depthAll (ns.map PyData.int) + 1 ≤ 64
    rw [depth_ints ns]
    decide
  unfold SeqAt.shaped
  rw [h1, decide_eq_true h2]
  rfl


/-! ### rules over what is tracked alone -/
section
variable {X : Cx}
theorem ix_lH : IxR X (fun x y H Q => ∃ p i, x = .ref p ∧ y = .int i ∧ ∃ xs, H p = some (.lst xs) ∧ ∃ v, atI xs i = some v ∧ Q v H) := by
  intro value slice pins s σ H x y v u Q I rx ry h hs
  obtain ⟨p, i, rfl, rfl, xs, hp, z, hz, q⟩ := h
  exact ix_list value slice pins s σ H _ _ v u Q I rx ry ⟨p, xs, i, z, rfl, rfl, .inl (.inl hp), hz, q⟩ hs
theorem ix_tH : IxR X (fun x y H Q => ∃ p i, x = .ref p ∧ y = .int i ∧ ∃ xs, H p = some (.tup xs) ∧ ∃ v, atI xs i = some v ∧ Q v H) := by
  intro value slice pins s σ H x y v u Q I rx ry h hs
  obtain ⟨p, i, rfl, rfl, xs, hp, z, hz, q⟩ := h
  exact ix_tup value slice pins s σ H _ _ v u Q I rx ry ⟨p, xs, i, z, rfl, rfl, .inl (.inl hp), hz, q⟩ hs
theorem set_lH : PSet X (fun o i v H Q => ∃ p k, o = .ref p ∧ i = .int k ∧ ∃ xs, H p = some (.lst xs) ∧ ∃ j, ixN xs.length k = some j ∧ Q (upd H p (.lst (xs.set j v)))) := by
  intro pins s σ H o i v ov iv u Q I ro ri rv h
  obtain ⟨p, k, e1, e2, xs, hp, j, hj, q⟩ := h
  exact set_list pins s σ H o i v ov iv u Q I ro ri rv ⟨p, xs, k, j, e1, e2, hp, hj, q⟩
theorem len_H : CallR X (.builtin "len") (fun vs H Q => ∃ p, vs = [.ref p] ∧ ((∃ ys, H p = some (.lst ys) ∧ Q (.int ys.length) H) ∨ ∃ ys, H p = some (.tup ys) ∧ Q (.int ys.length) H)) := by
  intro pins s σ H vs us Q I r h
  obtain ⟨p, e, h⟩ := h
  refine call_len_seq pins s σ H vs us Q I r ?_
  rcases h with ⟨ys, hp, q⟩ | ⟨ys, hp, q⟩
  · exact ⟨p, ys, e, .inl (.inl (.inl hp)), q⟩
  · exact ⟨p, ys, e, .inr (.inl (.inl hp)), q⟩
theorem tuple_H : CallR X (.type "tuple") (fun vs H Q => ∃ p, vs = [.ref p] ∧ ((∃ ys, H p = some (.lst ys) ∧ ∀ l, H l = none → Q (.ref l) (upd H l (.tup ys))) ∨ ∃ ys, H p = some (.tup ys) ∧ Q (.ref p) H)) := by
  intro pins s σ H vs us Q I r h
  obtain ⟨p, e, h⟩ := h
  refine call_tuple_of pins s σ H vs us Q I r ?_
  rcases h with ⟨ys, hp, q⟩ | ⟨ys, hp, q⟩
  · exact ⟨p, ys, e, .inl ⟨.inl (.inl hp), q⟩⟩
  · exact ⟨p, ys, e, .inr ⟨.inl (.inl hp), q⟩⟩
theorem list_H : CallR X (.type "list") (fun vs H Q => ∃ p, vs = [.ref p] ∧ ((∃ ys, H p = some (.lst ys) ∧ ∀ l, H l = none → Q (.ref l) (upd H l (.lst ys))) ∨ ∃ ys, H p = some (.tup ys) ∧ ∀ l, H l = none → Q (.ref l) (upd H l (.lst ys)))) := by
  intro pins s σ H vs us Q I r h
  obtain ⟨p, e, h⟩ := h
  refine call_list_of pins s σ H vs us Q I r ?_
  rcases h with ⟨ys, hp, q⟩ | ⟨ys, hp, q⟩
  · exact ⟨p, ys, e, .inl (.inl (.inl hp)), q⟩
  · exact ⟨p, ys, e, .inr (.inl (.inl hp)), q⟩
theorem all_H (hc : X.calm = true) : CallR X (.builtin "all") (fun vs H Q => ∃ p, vs = [.ref p] ∧ ∃ bs : List Bool, H p = some (.lst (bs.map V.bl)) ∧ Q (.bl (bs.all id)) H) := by
  intro pins s σ H vs us Q I r h
  obtain ⟨p, e, bs, hp, q⟩ := h
  exact cr_all hc pins s σ H vs us Q I r ⟨p, bs, e, .inl (.inl hp), q⟩
/-- a, b = t, t tracked -/
def gTupH (n : Nat) (t : TGs) : TG := fun v σ H Q => ∃ a, v = .ref a ∧ ∃ xs, H a = some (.tup xs) ∧ xs.length = n ∧ t xs σ H Q
theorem pg_tupH {es : List Expr} {k : Nat} {t : TGs} {n : Nat} {pos : Pos} (hc : X.calm = true) (h : PGs X es t)
    (hn : (assignEach es X.env).length = n := by rfl) (hst : (assignEach es X.env).findIdx? (·.1) = none := by rfl) : PG X (.Tuple es k pos) (gTupH n t) := by
  refine ⟨fun pins s σ H v u Q I r hw => ?_⟩
  obtain ⟨a, e1, xs, hq, hl, hw⟩ := hw
  exact (pg_tup hc h hn hst).run pins s σ H v u Q I r ⟨a, xs, e1, .inl (.inl hq), hl, hw⟩
/-- l.append(e) -/
def tAppend (to : TE) (t : TA) : TE := fun σ H Q => to σ H fun x H1 => ∃ p, x = .ref p ∧ ∃ xs, H1 p = some (.lst xs) ∧ t σ H1 fun vs H2 => ∃ y, vs = [y] ∧ ∃ ys, H2 p = some (.lst ys) ∧ ys.length < sizeLine ∧ Q .non (upd H2 p (.lst (ys ++ [y])))
theorem pe_append {o e : Expr} {to : TE} {t : TA} {apos cpos : Pos} (ho : PE X o to) (ha : PA X [e] t)
    (hbase : attributeBase o "append" X.env (eval o X.env) = eval o X.env := by rfl)
    (hfew : ((backTo cpos (starEach [e] X.env)).all (fun x => !x.1) && (backToKw cpos (keywordEach [] X.env)).all (fun x => x.1.isSome)
      && decide (([e] : List Expr).length + ([] : List Keyword).length + (if ([] : List Keyword).isEmpty then 0 else 1) < 30)) = true := by rfl)
    (hline : (apos.endLine == cpos.line) = true := by rfl) (hs : starEach [e] X.env = (false, eval e X.env) :: starEach [] X.env := by rfl) :
    PE X (.Call (.Attribute o "append" apos) [e] [] cpos) (tAppend to t) := by
  refine ⟨fun pins s σ H Q I h => ?_⟩
  refine wpAny_Call_method_late hbase hfew hline rfl (thn (ho.run pins s σ H _ I h) fun v s1 ⟨x, H1, I1, r1, p, ex, xs, hp, q1⟩ => ?_)
  subst ex
  have ty : tyV X.K "list" (.ref p) H1 := .inl ⟨rfl, xs, .inl (.inl hp)⟩
  obtain ⟨h1, h2⟩ := tyV_is I1 r1 ty
  refine ⟨"list", _, PySem.F.plainAttrs_list, PySem.F.slot_list_append, PySem.F.type_list_append, h1, h2, ?_⟩
  have hA := ha.run cpos pins s1 σ H1 _ I1 q1
  rw [hs] at hA ⊢
  refine Calls.callWith_builtin (by rfl) (Calls.evalArgs_plain ?_)
  refine thn hA fun us s2 ⟨vs, H2, I2, r2, y, e2, ys, hp2, hz, q2⟩ => ?_
  exact mt_append pins s2 σ H2 (.ref p) vs v us Q I2 r1 r2 ⟨p, ys, y, rfl, e2, hp2, hz, q2⟩
end
/-! ### loops and comprehensions, closed off -/
def LcR (J : It) (g : TG) (tt : TT) (te : TE) (vs : List Nat) (σ : L2.St) (H1 : Hp) (Q : VK) : Prop := ∀ D, H1 D = none → ∃ W : Nat → Nat → Hp → Prop, (∃ m, W 0 m (upd H1 D (.lst []))) ∧ ∀ i m H, W i m H →
  (J.stop i H ∧ Q (.ref D) H) ∨ (J.go i H ∧ ∃ Nx : Hp → Prop, (∀ H', Nx H' → ∃ m', m' < m ∧ W (i + 1) m' H') ∧ ∀ x H', J.yld i H x H' → g x (wipe σ vs) H' fun σ2 H2 => wipe σ2 vs = wipe σ vs ∧ tt σ2 H2 fun b H3 =>
    if b = true then te σ2 H3 fun y H4 => ∃ acc, H4 D = some (.lst acc) ∧ acc.length < sizeLine ∧ Nx (upd H4 D (.lst (acc ++ [y]))) else Nx H3)
theorem tLc_eq {wi : TI} {g : TG} {tt : TT} {te : TE} {vs : List Nat} {σ : L2.St} {H : Hp} {Q : VK} : tLc wi g tt te vs σ H Q = wi σ H fun J H1 => LcR J g tt te vs σ H1 Q := rfl
def ForR (J : It) (g : TG) (tb : TS) (D : Ends) (σ : L2.St) (H1 : Hp) : Prop := ∃ W : Nat → Nat → L2.St → Hp → Prop, (∃ m, W 0 m σ H1) ∧ ∀ i m σ H, W i m σ H →
  (J.stop i H ∧ D.nx σ H) ∨ (J.go i H ∧ ∃ N : L2.St → Hp → Prop, (∀ σ' H', N σ' H' → ∃ m', m' < m ∧ W (i + 1) m' σ' H') ∧ ∀ x H', J.yld i H x H' → g x σ H' fun σ2 H2 => tb { D with nx := N, ct := N, bk := D.nx } σ2 H2)
theorem tFor_eq {wi : TI} {g : TG} {tb : TS} {D : Ends} {σ : L2.St} {H : Hp} : tFor wi g tb D σ H = wi σ H fun J H1 => ForR J g tb D σ H1 := rfl
/-- what is walked, told by Walk alone -/
def iSeqH (tl : TE) : TI := fun σ H R => tl σ H fun x H1 => ∃ a, x = .ref a ∧ ((∃ xs, H1 a = some (.lst xs) ∧ ∀ J : It, Walk J xs.length (fun H => H a = some (.lst xs)) (YAt xs) → R J H1) ∨ ∃ xs, H1 a = some (.tup xs) ∧ ∀ J : It, Walk J xs.length (fun H => H a = some (.tup xs)) (YAt xs) → R J H1)
def iSeqS (K : PySem.W.Frag) (tl : TE) : TI := fun σ H R => tl σ H fun x H1 => ∃ (k : Bool) (a : Addr) (xs : List V), x = .ref a ∧ Sqk K k H1 a xs ∧ ∀ J : It, Walk J xs.length (fun H => Sqk K k H a xs) (YAt xs) → R J H1
theorem PI.mono {X : Cx} {tg it : Expr} {w w' : TI} (h : PI X tg it w) (m : ∀ σ H R, w' σ H R → w σ H R) : PI X tg it w' := ⟨fun pins s σ H R I q => h.run pins s σ H R I (m σ H R q)⟩
section
variable {X : Cx} {tg l : Expr} {tl : TE}
theorem pi_seqH (hl : PE X l tl) : PI X tg l (iSeqH tl) := by
  have h2 : PE X l fun σ H Q => tl σ H fun x H1 => Q x H1 := hl
  refine ⟨fun pins s σ H R I h => ?_⟩
  refine thn (hl.run pins s σ H _ I h) fun v s1 ⟨x, H1, I1, r1, q1⟩ => ?_
  obtain ⟨a, e, q⟩ := q1
  subst e
  have key : ∀ (k : Bool) (xs : List V), Sqk X.K k H1 a xs → R (match k with | true => Itl X.K a | false => Itt X.K a) H1 → wpAny (model X.prog X.w) X.A (pyIter v) (PIE X pins σ tg R) X.xe s1 := fun k xs hs hR => by
    cases r1
    cases k with
    | true =>
      obtain ⟨its, rv, p, hz⟩ := I1.list hs
      refine wpAny_pyIter_list p.isList ?_
      refine ⟨s1.heap.objs.size, [s1.heap.objs.size], _, _, H1, rfl, I1.kept (t' := s1.toks) fun b o e => Heap.get?_push_of_some _ e, turn_list a _, ⟨_, Heap.get?_push_size _ rfl, rfl, rfl⟩, fun b hb => ?_, hR⟩
      have e : b = s1.heap.objs.size := by simpa using hb
      subst e
      exact I1.fpOk (Nat.le_refl _) (I1.hok.fresh (Nat.le_refl _))
    | false =>
      obtain ⟨its, rv, p, hz⟩ := I1.tuple hs
      refine wpAny_pyIter_tuple (show s1.heap.IsTuple a its.toArray from p) ?_
      refine ⟨s1.heap.objs.size, [s1.heap.objs.size], _, _, H1, rfl, I1.kept (t' := s1.toks) fun b o e => Heap.get?_push_of_some _ e, turn_tuple a _, ⟨_, Heap.get?_push_size _ rfl, rfl, rfl⟩, fun b hb => ?_, hR⟩
      have e : b = s1.heap.objs.size := by simpa using hb
      subst e
      exact I1.fpOk (Nat.le_refl _) (I1.hok.fresh (Nat.le_refl _))
  rcases q with ⟨xs, hp, q⟩ | ⟨xs, hp, q⟩
  · exact key true xs (.inl (.inl hp)) (q _ (walk_list.mono (fun H h => .inl (.inl h)) fun _ _ _ _ _ _ y => y))
  · exact key false xs (.inl (.inl hp)) (q _ (walk_tup.mono (fun H h => .inl (.inl h)) fun _ _ _ _ _ _ y => y))
theorem pi_seqS (hl : PE X l tl) : PI X tg l (iSeqS X.K tl) := by
  refine ⟨fun pins s σ H R I h => ?_⟩
  refine thn (hl.run pins s σ H _ I h) fun v s1 ⟨x, H1, I1, r1, q1⟩ => ?_
  obtain ⟨k, a, xs, e, hs, q⟩ := q1
  subst e
  have hR := q _ walk_seq
  cases r1
  cases k with
  | true =>
    obtain ⟨its, rv, p, hz⟩ := I1.list hs
    refine wpAny_pyIter_list p.isList ?_
    refine ⟨s1.heap.objs.size, [s1.heap.objs.size], _, _, H1, rfl, I1.kept (t' := s1.toks) fun b o e => Heap.get?_push_of_some _ e, turn_list a _, ⟨_, Heap.get?_push_size _ rfl, rfl, rfl⟩, fun b hb => ?_, hR⟩
    have e : b = s1.heap.objs.size := by simpa using hb
    subst e
    exact I1.fpOk (Nat.le_refl _) (I1.hok.fresh (Nat.le_refl _))
  | false =>
    obtain ⟨its, rv, p, hz⟩ := I1.tuple hs
    refine wpAny_pyIter_tuple (show s1.heap.IsTuple a its.toArray from p) ?_
    refine ⟨s1.heap.objs.size, [s1.heap.objs.size], _, _, H1, rfl, I1.kept (t' := s1.toks) fun b o e => Heap.get?_push_of_some _ e, turn_tuple a _, ⟨_, Heap.get?_push_size _ rfl, rfl, rfl⟩, fun b hb => ?_, hR⟩
    have e : b = s1.heap.objs.size := by simpa using hb
    subst e
    exact I1.fpOk (Nat.le_refl _) (I1.hok.fresh (Nat.le_refl _))
end
/-- a list or a tuple, tracked -/
def Sqh (k : Bool) (H : Hp) (a : Addr) (xs : List V) : Prop := match k with
  | true => H a = some (.lst xs)
  | false => H a = some (.tup xs)
theorem Sqh.sqk {K : PySem.W.Frag} {k : Bool} {H : Hp} {a : Addr} {xs : List V} (h : Sqh k H a xs) : Sqk K k H a xs := by
  cases k with
  | true => exact .inl (.inl h)
  | false => exact .inl (.inl h)
theorem Sqh.same {k : Bool} {H H' : Hp} {a : Addr} {xs : List V} (e : Same H H') (h : Sqh k H a xs) : Sqh k H' a xs := by
  cases k with
  | true => exact e _ _ h
  | false => exact e _ _ h
def iZ2H (ta : TA) : TI := fun σ H R => ta σ H fun vs H1 => ∃ a b, vs = [.ref a, .ref b] ∧ ∃ (k1 k2 : Bool) (xs ys : List V), Sqh k1 H1 a xs ∧ Sqh k2 H1 b ys ∧ xs.length = ys.length ∧ ∀ J : It, Walk J xs.length (fun H => Sqh k1 H a xs ∧ Sqh k2 H b ys) (YPair (fun i => xs[i]?) (fun i => ys[i]?)) → R J H1
def iZ3H (ta : TA) : TI := fun σ H R => ta σ H fun vs H1 => ∃ a b c, vs = [.ref a, .ref b, .ref c] ∧ ∃ (k1 k2 k3 : Bool) (xs ys zs : List V), Sqh k1 H1 a xs ∧ Sqh k2 H1 b ys ∧ Sqh k3 H1 c zs ∧ xs.length = ys.length ∧ ys.length = zs.length ∧
  ∀ J : It, Walk J xs.length (fun H => Sqh k1 H a xs ∧ Sqh k2 H b ys ∧ Sqh k3 H c zs) (YTrip (fun i => xs[i]?) (fun i => ys[i]?) (fun i => zs[i]?)) → R J H1
theorem PA.weak {X : Cx} {es : List Expr} {t : TA} (h : PA X es t) {pos : Pos} {pins : List (Addr × Obj)} {s : Shared} {σ : L2.St} {H : Hp} {Q : List V → Hp → Prop} (I : Inv X pins σ H s) (q : t σ H Q) : wpAny (model X.prog X.w) X.A (spliced (backTo pos (starEach es X.env))) (AP X pins σ Q) X.xe s := h.run pos pins s σ H Q I q
/-- an argument list whose reading is asked for less -/
theorem PA.of {X : Cx} {es : List Expr} {t : TA} (h : PA X es t) (f : List V → Hp → (List V → Hp → Prop) → Prop) : PA X es fun σ H Q => t σ H fun vs H1 => Q vs H1 := h
section
variable {X : Cx} {e e2 e3 : Expr} {ta : TA} {p pos tpos : Pos} {elts : List Expr} {kk : Nat}
theorem pi_z2H (hg : Gl X "zip") (hm : X.mg "zip" = none) (ha : PA X [e, e2] ta)
    (hs : starEach [e, e2] X.env = (false, eval e X.env) :: starEach [e2] X.env := by rfl) (hpl : (backTo pos (starEach [e2] X.env)).any (·.1) = false := by rfl) :
    PI X (.Tuple elts kk tpos) (.Call (.Name "zip" p) [e, e2] [] pos) (iZ2H ta) := by
  refine ⟨fun pins s σ H R I h => ?_⟩
  let ta' : TA := fun σ H Q => ta σ H fun vs H1 => (∃ a b, vs = [.ref a, .ref b] ∧ ∃ (k1 k2 : Bool) (xs ys : List V), Sqh k1 H1 a xs ∧ Sqh k2 H1 b ys ∧ xs.length = ys.length ∧ ∀ J : It, Walk J xs.length (fun H => Sqh k1 H a xs ∧ Sqh k2 H b ys) (YPair (fun i => xs[i]?) (fun i => ys[i]?)) → R J H1) ∧ Q vs H1
  have ha' : PA X [e, e2] ta' := ⟨fun pos pins s σ H Q I q => thn (ha.run pos pins s σ H _ I q) fun us s1 ⟨vs, H1, I1, r1, _, q1⟩ => ⟨vs, H1, I1, r1, q1⟩⟩
  refine Call_ (ld_blt I hg hm PyProof.Rows.boot_zip (PyProof.Rows.callWith_type1 (thn (ha.run pos pins s σ H _ I h) fun us s1 ⟨vs, H1, I1, r1, q1⟩ => ?_) hs hpl))
  obtain ⟨a, b, ex, k1, k2, xs, ys, hqx, hqy, hl, q⟩ := q1
  subst ex
  have q := q (Iz2 X.K k1 k2 a b) ((walk_z2 (K := X.K) (k1 := k1) (k2 := k2) (a := a) (b := b) hl).mono (fun H h => ⟨h.1.sqk, h.2.sqk⟩) fun _ _ _ _ _ _ y => y)
  have hqx : Sqk X.K k1 H1 a xs := hqx.sqk
  have hqy : Sqk X.K k2 H1 b ys := hqy.sqk
  cases r1 with
  | cons r rr =>
    cases rr with
    | cons r' rr =>
      cases rr
      cases r
      cases r'
      obtain ⟨its, rv, p1⟩ := invK I1 hqx
      obtain ⟨its2, rv2, p2⟩ := invK I1 hqy
      have la : a < s1.heap.objs.size := p1.lt
      have lb : b < s1.heap.objs.size := p2.lt
      refine zip_begins2 (begK k1 a its.toArray) (begK k2 b its2.toArray) p1 p2 fun h' hz hTI hTO h1 h2 hsz hk => wpAny_pyIter_zip hz ?_
      have I2 : Inv X pins σ H1 { s1 with heap := h' } := I1.kept (t' := s1.toks) hk
      refine ⟨s1.heap.objs.size + 4, [s1.heap.objs.size + 4, s1.heap.objs.size + 2, s1.heap.objs.size + 3, s1.heap.objs.size, s1.heap.objs.size + 1], _, _, H1, rfl, I2, turn_z2 (zip_sep2 (fun b hb => by simp at hb; rw [hb]; exact la) (fun b hb => by simp at hb; rw [hb]; exact lb)) (Nat.ne_of_lt la) (Nat.ne_of_lt (Nat.lt_succ_of_lt lb)), ⟨hz, hTI, ⟨_, _, hTO⟩, ItK.new h1, ItK.new h2⟩, fun c hcm => ?_, q⟩
      have e' : c = s1.heap.objs.size + 4 ∨ c = s1.heap.objs.size + 2 ∨ c = s1.heap.objs.size + 3 ∨ c = s1.heap.objs.size ∨ c = s1.heap.objs.size + 1 := by simpa using hcm
      have hle : s1.heap.objs.size ≤ c := by
        rcases e' with z | z | z | z | z
        · rw [z]; exact Nat.le_add_right _ _
        · rw [z]; exact Nat.le_add_right _ _
        · rw [z]; exact Nat.le_add_right _ _
        · rw [z]; exact Nat.le_refl _
        · rw [z]; exact Nat.le_add_right _ _
      exact I1.fpOk hle (I1.hok.fresh hle)
theorem pi_z3H (hg : Gl X "zip") (hm : X.mg "zip" = none) (ha : PA X [e, e2, e3] ta)
    (hs : starEach [e, e2, e3] X.env = (false, eval e X.env) :: starEach [e2, e3] X.env := by rfl) (hpl : (backTo pos (starEach [e2, e3] X.env)).any (·.1) = false := by rfl) :
    PI X (.Tuple elts kk tpos) (.Call (.Name "zip" p) [e, e2, e3] [] pos) (iZ3H ta) := by
  refine ⟨fun pins s σ H R I h => ?_⟩
  refine Call_ (ld_blt I hg hm PyProof.Rows.boot_zip (PyProof.Rows.callWith_type1 (thn (ha.run pos pins s σ H _ I h) fun us s1 ⟨vs, H1, I1, r1, q1⟩ => ?_) hs hpl))
  obtain ⟨a, b, c, ex, k1, k2, k3, xs, ys, zs, hqx, hqy, hqz, hl, hl2, q⟩ := q1
  subst ex
  have q := q (Iz3 X.K k1 k2 k3 a b c) ((walk_z3 (K := X.K) (k1 := k1) (k2 := k2) (k3 := k3) (a := a) (b := b) (c := c) hl hl2).mono (fun H h => ⟨h.1.sqk, h.2.1.sqk, h.2.2.sqk⟩) fun _ _ _ _ _ _ y => y)
  have hqx : Sqk X.K k1 H1 a xs := hqx.sqk
  have hqy : Sqk X.K k2 H1 b ys := hqy.sqk
  have hqz : Sqk X.K k3 H1 c zs := hqz.sqk
  cases r1 with
  | cons r rr =>
    cases rr with
    | cons r' rr =>
      cases rr with
      | cons r'' rr =>
        cases rr
        cases r
        cases r'
        cases r''
        obtain ⟨its, rv, p1⟩ := invK I1 hqx
        obtain ⟨its2, rv2, p2⟩ := invK I1 hqy
        obtain ⟨its3, rv3, p3⟩ := invK I1 hqz
        have la : a < s1.heap.objs.size := p1.lt
        have lb : b < s1.heap.objs.size := p2.lt
        have lc : c < s1.heap.objs.size := p3.lt
        refine zip_begins3 (begK k1 a its.toArray) (begK k2 b its2.toArray) (begK k3 c its3.toArray) p1 p2 p3 fun h' hz hTI hTO h1 h2 h3 hsz hk => wpAny_pyIter_zip hz ?_
        have I2 : Inv X pins σ H1 { s1 with heap := h' } := I1.kept (t' := s1.toks) hk
        refine ⟨s1.heap.objs.size + 5, [s1.heap.objs.size + 5, s1.heap.objs.size + 3, s1.heap.objs.size + 4, s1.heap.objs.size, s1.heap.objs.size + 1, s1.heap.objs.size + 2], _, _, H1, rfl, I2, turn_z3 (zip_sep3 (fun b hb => by simp at hb; rw [hb]; exact la) (fun b hb => by simp at hb; rw [hb]; exact lb) (fun b hb => by simp at hb; rw [hb]; exact lc)) (Nat.ne_of_lt la) (Nat.ne_of_lt (Nat.lt_succ_of_lt lb)) (Nat.ne_of_lt (Nat.lt_succ_of_lt (Nat.lt_succ_of_lt lc))), ⟨hz, hTI, ⟨_, _, _, hTO⟩, ItK.new h1, ItK.new h2, ItK.new h3⟩, fun c hcm => ?_, q⟩
        have e' : c = s1.heap.objs.size + 5 ∨ c = s1.heap.objs.size + 3 ∨ c = s1.heap.objs.size + 4 ∨ c = s1.heap.objs.size ∨ c = s1.heap.objs.size + 1 ∨ c = s1.heap.objs.size + 2 := by simpa using hcm
        have hle : s1.heap.objs.size ≤ c := by
          rcases e' with z | z | z | z | z | z
          · rw [z]; exact Nat.le_add_right _ _
          · rw [z]; exact Nat.le_add_right _ _
          · rw [z]; exact Nat.le_add_right _ _
          · rw [z]; exact Nat.le_refl _
          · rw [z]; exact Nat.le_add_right _ _
          · rw [z]; exact Nat.le_add_right _ _
        exact I1.fpOk hle (I1.hok.fresh hle)
/-- range(n) -/
def iRng1H (ta : TA) : TI := fun σ H R => ta σ H fun vs H1 => ∃ j : Int, vs = [.int j] ∧ -(2 ^ 62) ≤ j ∧ j < 2 ^ 62 ∧ ∀ J : It, Walk J j.toNat (fun _ => True) (YFn fun i => .int (i : Nat)) → R J H1
theorem pi_range1H {a : Expr} {tg : Expr} (hg : Gl X "range") (hm : X.mg "range" = none) (ha : PA X [a] ta) (hs : starEach [a] X.env = [(false, eval a X.env)] := by rfl) : PI X tg (.Call (.Name "range" p) [a] [] pos) (iRng1H ta) := by
  refine ⟨fun pins s σ H R I h => ?_⟩
  have ha' : PA X [a] fun σ H Q => ta σ H fun vs H1 => (∃ j : Int, vs = [.int j] ∧ -(2 ^ 62) ≤ j ∧ j < 2 ^ 62 ∧ ∀ J : It, Walk J j.toNat (fun _ => True) (YFn fun i => .int (i : Nat)) → R J H1) ∧ ∀ j : Int, vs = [.int j] → -(2 ^ 62) ≤ j → j < 2 ^ 62 → R (Itr 0 j.toNat) H1 → Q vs H1 :=
    ⟨fun pos pins s σ H Q I q => thn (ha.run pos pins s σ H _ I q) fun us s1 ⟨vs, H1, I1, r1, ⟨j, ej, h1, h2, hR⟩, q1⟩ => ⟨vs, H1, I1, r1, q1 j ej h1 h2 (hR _ (walk_range.mono (fun _ _ => trivial) fun _ _ _ _ _ _ y => ⟨y.1, by rw [y.2]; show V.int _ = V.int _; rw [Int.zero_add]⟩))⟩⟩
  refine Call_ (ld_blt I hg hm boot_range (PyProof.Rows.callWith_type1 (thn (ha.run pos pins s σ H _ I h) fun us s1 ⟨vs, H1, I1, r1, q1⟩ => ?_) hs rfl))
  obtain ⟨j, e, q1, q2, q⟩ := q1
  subst e
  have q := q (Itr 0 j.toNat) (walk_range.mono (fun _ _ => trivial) fun _ _ _ _ _ _ y => ⟨y.1, by rw [y.2]; show V.int _ = V.int _; rw [Int.zero_add]⟩)
  cases r1 with
  | cons r rr =>
    cases rr
    obtain ⟨t, rfl⟩ := r
    exact call_range_1 (range_it I1 (by omega) (by omega) q1 q2 (by simpa using q))
end
/-- LcR by its lemmas -/
theorem lcr_map {J : It} {n : Nat} {G : Hp → Prop} {Y : Nat → Hp → V → Hp → Prop} (w : Walk J n G Y) {g : TG} {te : TE} {vs : List Nat} {σ : L2.St} {H1 : Hp} {Q : VK} (res : List V) (hl : res.length = n) (hn : n ≤ sizeLine)
    (hG : ∀ H, Same H1 H → G H) (hY : ∀ i x H H', Y i H x H' → Same H H')
    (hs : ∀ i x H H' y (Qy : VK), i < n → Same H1 H → Y i H x H' → res[i]? = some y → (∀ H4, Same H' H4 → Qy y H4) → g x (wipe σ vs) H' fun σ2 H2 => wipe σ2 vs = wipe σ vs ∧ te σ2 H2 Qy)
    (hd : ∀ D H, H1 D = none → Same H1 H → H D = some (.lst res) → Q (.ref D) H) : LcR J g tYes te vs σ H1 Q := fun D hD =>
  lc_map w res hl hn hD hG (fun i x H H' y Qy hi h1 _ hy hr hq => hs i x H H' y Qy hi h1 hy hr hq) hY fun H h1 h2 => hd D H hD h1 h2
theorem forr {J : It} {n : Nat} {G : Hp → Prop} {Y : Nat → Hp → V → Hp → Prop} (w : Walk J n G Y) {g : TG} {tb : TS} {D : Ends} {σ : L2.St} {H : Hp} (Pv : Nat → L2.St → Hp → Prop) (h0 : Pv 0 σ H) (hG : ∀ i σ H, i ≤ n → Pv i σ H → G H)
    (hs : ∀ i x σ H H', i < n → Pv i σ H → Y i H x H' → g x σ H' fun σ2 H2 => tb { D with nx := Pv (i + 1), ct := Pv (i + 1), bk := D.nx } σ2 H2) (hd : ∀ σ H, Pv n σ H → D.nx σ H) : ForR J g tb D σ H := for_it w Pv h0 hG hs hd
theorem map_bl_iff {bs : List Bool} {p : List Bool → Prop} : (∃ cs : List Bool, bs.map V.bl = cs.map V.bl ∧ p cs) ↔ p bs := by
  constructor
  · rintro ⟨cs, e, h⟩
    have inj : ∀ {a b : List Bool}, a.map V.bl = b.map V.bl → a = b := by
      intro a
      induction a with
      | nil => intro b h; cases b with | nil => rfl | cons _ _ => simp at h
      | cons x a ih => intro b h; cases b with
        | nil => simp at h
        | cons y b => simp only [List.map_cons, List.cons.injEq, V.bl.injEq] at h; rw [h.1, ih h.2]
    rw [inj e]; exact h
  · intro h; exact ⟨bs, rfl, h⟩

theorem sz_le {n : Nat} (h : n ≤ 1000) : (n ≤ sizeLine) = True := eq_true (Nat.le_trans h (by decide))
theorem op_inH {X : Cx} : OpR X (compareOp .In) (fun x y H Q => ∃ p, y = .ref p ∧ ∃ xs, H p = some (.tup xs) ∧ flatV x = true ∧ xs.all flatV = true ∧ Q (.bl (inV x xs)) H) := by
  intro pins s σ H x y v u Q I rx ry h
  obtain ⟨p, e, xs, hp, h1, h2, q⟩ := h
  exact op_in_seq pins s σ H x y v u Q I rx ry ⟨p, xs, e, .inr (.inl (.inl hp)), h1, h2, q⟩
theorem putF_one (f : Str) (v : V) : putF f v [] = [(f, v)] := rfl
theorem lookup_one (f : Str) (v : V) : List.lookup f [(f, v)] = some v := by simp [List.lookup]

/-- * of two ints, one of them below 2 ^ 64, or both together below a million bits -/
def CMulA (i j : Int) : Prop := i.natAbs < 2 ^ 64 ∨ j.natAbs < 2 ^ 64 ∨ CMulW i j
theorem op_mulA {X : Cx} : OpR X (binaryOp .Mult) (rI CMulA fun i j => .int (i * j)) := by
  intro pins s σ H x y v u Q I rx ry h
  obtain ⟨i, j, e1, e2, hc, q⟩ := h
  rcases hc with hc | hc | hc
  · exact op_mul pins s σ H x y v u Q I rx ry ⟨i, j, e1, e2, .inl ⟨by omega, by omega⟩, q⟩
  · exact op_mul pins s σ H x y v u Q I rx ry ⟨i, j, e1, e2, .inr ⟨by omega, by omega⟩, q⟩
  · exact op_mulW pins s σ H x y v u Q I rx ry ⟨i, j, e1, e2, hc, q⟩
theorem atI_0 {x : V} {xs : List V} : atI (x :: xs) 0 = some x := atI_nat (j := 0) rfl
theorem atI_1 {x y : V} {xs : List V} : atI (x :: y :: xs) 1 = some y := atI_nat (j := 1) rfl
theorem atI_2 {x y z : V} {xs : List V} : atI (x :: y :: z :: xs) 2 = some z := atI_nat (j := 2) rfl
theorem ixN_30 : ixN 3 0 = some 0 := rfl
theorem ixN_31 : ixN 3 1 = some 1 := rfl
theorem ixN_32 : ixN 3 2 = some 2 := rfl
theorem atI_in {xs : List V} {i : Int} (h0 : 0 ≤ i) (h1 : i < xs.length) : ∃ v, v ∈ xs ∧ atI xs i = some v := by
  obtain ⟨k, rfl⟩ := Int.eq_ofNat_of_zero_le h0
  have hk : k < xs.length := by omega
  exact ⟨xs[k], List.getElem_mem hk, atI_nat (List.getElem?_eq_getElem hk)⟩
theorem cpow_10 {j : Int} (h0 : 0 ≤ j) (h1 : j ≤ 1000000) : CPow 10 j = True := eq_true ⟨h0, h1, by decide⟩
theorem cdivW_small {i j : Int} (h : 0 < j) (h1 : j < 2 ^ 64) : CDivW i j = True := eq_true (wide_div h (b := 64) (by omega) (by decide) (by decide))
theorem Sx.free {a r : Addr} {H H1 : Hp} (h : Sx a H H1) (n : r ≠ a) (e : H1 r = none) : H r = none := by
  cases q : H r with
  | none => rfl
  | some o => rw [h r o n q] at e; cases e
theorem Sx.putN {a r : Addr} {H H1 : Hp} {o : HO} (h : Sx a H H1) (e : H r = none) : Sx a H (upd H1 r o) := fun b u n q => by
  rw [upd_ne (ne_some q e)]
  exact h b u n q
theorem scal_int (i j : Int) : scal (.int i) (.int j) = true := rfl
theorem scal_str (i j : Str) : scal (.str i) (.str j) = true := rfl
section
variable {K : PySem.W.Frag} {H : Hp} {a b c d e f : Addr} {ns ms ks ls : List Int} {Q : VK}
theorem neD_tup (h1 : H a = some (.tup (ns.map V.int))) (h2 : H b = some (.tup (ms.map V.int))) (q : Q (.bl (!decide (ns = ms))) H) : rNeD K (.ref a) (.ref b) H Q :=
  ⟨_, _, dp_tupI (.inl (.inl h1)), dp_tupI (.inl (.inl h2)), shaped_tupI _, shaped_tupI _, by rw [eqv_tupI]; exact q⟩
theorem eqD_tup (h1 : H a = some (.tup (ns.map V.int))) (h2 : H b = some (.tup (ms.map V.int))) (q : Q (.bl (decide (ns = ms))) H) : rEqD K (.ref a) (.ref b) H Q :=
  ⟨_, _, dp_tupI (.inl (.inl h1)), dp_tupI (.inl (.inl h2)), shaped_tupI _, shaped_tupI _, by rw [eqv_tupI]; exact q⟩
theorem depth_tupI (ns : List Int) : PyData.depth (tupI ns) = 1 := by
  show PyData.depthAll (ns.map PyData.int) + 1 = 1
  rw [depth_ints ns]
theorem shaped_two (ns ms : List Int) : SeqAt.shaped (.tuple [tupI ns, tupI ms]) = true := by
  have h1 : PyData.canLay0 (.tuple [tupI ns, tupI ms]) = true := by
    show (PyData.canLayAll0 (ns.map PyData.int) && (PyData.canLayAll0 (ms.map PyData.int) && true)) = true
    rw [canLay_ints, canLay_ints]
    rfl
  have h2 : PyData.depth (.tuple [tupI ns, tupI ms]) ≤ 64 := by
    show max (PyData.depth (tupI ns)) (max (PyData.depth (tupI ms)) 0) + 1 ≤ 64
    rw [depth_tupI, depth_tupI]
    decide
  unfold SeqAt.shaped
  rw [h1, decide_eq_true h2]
  rfl
theorem eqv_two (ns ms ks ls : List Int) : PyData.eqv (.tuple [tupI ns, tupI ms]) (.tuple [tupI ks, tupI ls]) = (decide (ns = ks) && decide (ms = ls)) := by
  show (PyData.eqv (tupI ns) (tupI ks) && (PyData.eqv (tupI ms) (tupI ls) && true)) = _
  rw [eqv_tupI, eqv_tupI, Bool.and_true]
/-- (t, u) != (v, w), four tuples of ints -/
theorem neD_two (h1 : H a = some (.tup [.ref c, .ref d])) (h2 : H b = some (.tup [.ref e, .ref f])) (hc : H c = some (.tup (ns.map V.int))) (hd : H d = some (.tup (ms.map V.int))) (he : H e = some (.tup (ks.map V.int))) (hf : H f = some (.tup (ls.map V.int)))
    (q : Q (.bl (!(decide (ns = ks) && decide (ms = ls)))) H) : rNeD K (.ref a) (.ref b) H Q :=
  ⟨.tuple [tupI ns, tupI ms], .tuple [tupI ks, tupI ls], .tup (.inl (.inl h1)) (.cons (dp_tupI (.inl (.inl hc))) (.cons (dp_tupI (.inl (.inl hd))) .nil)), .tup (.inl (.inl h2)) (.cons (dp_tupI (.inl (.inl he))) (.cons (dp_tupI (.inl (.inl hf))) .nil)), shaped_two _ _, shaped_two _ _, by rw [eqv_two]; exact q⟩
end
theorem Vals.getD {xs : List V} {us : List Value} (r : Vals xs us) (i : Nat) : RelV (xs.getD i .non) (us.getD i Value.none) := by
  rw [List.getD_eq_getElem?_getD, List.getD_eq_getElem?_getD]
  cases h : xs[i]? with
  | none => rw [L2.Vals.none_of r h]; rfl
  | some x =>
    obtain ⟨u, h2, h3⟩ := L2.Vals.get r h
    rw [h2]
    exact h3
theorem kbn_of {K : PySem.W.Frag} {x qual : Str} {st : Stmt} {f : Addr} {fd : FuncData} (F : Fun K x qual st f fd) (ps : List Str) (n : Nat) (ks : List Str) (g : List Value → List Value → List Value) (gV : List V → List V → List V)
    (h : ∀ (kV doc pm : Value) (an : Option Addr) (cdv ct : Value) (us ws : List Value), us.length = n → ws.length = ks.length → bindArgs (PySem.W.fnOf x qual (defArgs st) (defBody st) (defScope st) .none kV doc pm an cdv ct) ⟨us, ks.zip ws⟩ = pure (ps.zip (g us ws)))
    (rel : ∀ {vs : List V} {us : List Value} {zs : List V} {ws : List Value}, Vals vs us → Vals zs ws → Vals (gV vs zs) (g us ws)) : KBn K fd ps n ks g gV := by
  obtain ⟨oc, od, kV, doc, pm, an, cdv, ct, osl, rfl, lk, hcd⟩ := F.ex
  exact ⟨fun s us ws X l1 l2 => .of_eq (h kV doc pm an cdv ct us ws l1 l2), rel⟩

/-! ### a comprehension with two clauses, closed off -/
/-- the second clause's loop -/
def Lc1R (J1 : It) (g1 : TG) (tt1 : TT) (te : TE) (vs1 : List Nat) (D : Addr) (σ2 : L2.St) (H4 : Hp) (Nx : Hp → Prop) : Prop := ∃ W1 : Nat → Nat → Hp → Prop, (∃ m, W1 0 m H4) ∧ ∀ j k H, W1 j k H →
  (J1.stop j H ∧ Nx H) ∨ (J1.go j H ∧ ∃ Nx1 : Hp → Prop, (∀ H', Nx1 H' → ∃ k', k' < k ∧ W1 (j + 1) k' H') ∧ ∀ x H', J1.yld j H x H' → g1 x (wipe σ2 vs1) H' fun σ3 H5 => wipe σ3 vs1 = wipe σ2 vs1 ∧ tt1 σ3 H5 fun b H6 =>
    if b = true then te σ3 H6 fun y H7 => ∃ acc, H7 D = some (.lst acc) ∧ acc.length < sizeLine ∧ Nx1 (upd H7 D (.lst (acc ++ [y]))) else Nx1 H6)
def Lc2R (J : It) (g : TG) (tt : TT) (wi1 : TI) (g1 : TG) (tt1 : TT) (te : TE) (vs vs1 : List Nat) (σ : L2.St) (H1 : Hp) (Q : VK) : Prop := ∀ D, H1 D = none → ∃ W : Nat → Nat → Hp → Prop, (∃ m, W 0 m (upd H1 D (.lst []))) ∧ ∀ i m H, W i m H →
  (J.stop i H ∧ Q (.ref D) H) ∨ (J.go i H ∧ ∃ Nx : Hp → Prop, (∀ H', Nx H' → ∃ m', m' < m ∧ W (i + 1) m' H') ∧ ∀ x H', J.yld i H x H' → g x (wipe σ vs) H' fun σ2 H2 => wipe σ2 vs = wipe σ vs ∧ tt σ2 H2 fun b H3 =>
    if b = true then wi1 σ2 H3 fun J1 H4 => Lc1R J1 g1 tt1 te vs1 D σ2 H4 Nx else Nx H3)
theorem tLc2_eq {wi : TI} {g : TG} {tt : TT} {wi1 : TI} {g1 : TG} {tt1 : TT} {te : TE} {vs vs1 : List Nat} {σ : L2.St} {H : Hp} {Q : VK} : tLc2 wi g tt wi1 g1 tt1 te vs vs1 σ H Q = wi σ H fun J H1 => Lc2R J g tt wi1 g1 tt1 te vs vs1 σ H1 Q := rfl
/-- the second clause's loop by an invariant of the turn, what is made so far and the heap -/
theorem lc1_gen {J1 : It} {n : Nat} {G : Hp → Prop} {Y : Nat → Hp → V → Hp → Prop} (w : Walk J1 n G Y) {g1 : TG} {te : TE} {vs1 : List Nat} {D : Addr} {σ2 : L2.St} {H4 : Hp} {Nx : Hp → Prop} (Ia : Nat → List V → Hp → Prop)
    (h0 : ∃ acc, Ia 0 acc H4 ∧ H4 D = some (.lst acc)) (hG : ∀ j acc H, j ≤ n → Ia j acc H → H D = some (.lst acc) → G H) (hst : ∀ j acc H l l0, Ia j acc H → H D = some (.lst l0) → Ia j acc (upd H D (.lst l))) (hz : ∀ j acc H, Ia j acc H → acc.length < sizeLine)
    (hs : ∀ j acc x H H' (Qy : VK), j < n → Ia j acc H → H D = some (.lst acc) → Y j H x H' → (∀ y H7, H7 D = some (.lst acc) → Ia (j + 1) (acc ++ [y]) H7 → Qy y H7) → g1 x (wipe σ2 vs1) H' fun σ3 H5 => wipe σ3 vs1 = wipe σ2 vs1 ∧ te σ3 H5 Qy)
    (hd : ∀ acc H, Ia n acc H → H D = some (.lst acc) → Nx H) : Lc1R J1 g1 tYes te vs1 D σ2 H4 Nx := by
  obtain ⟨acc0, i0, e0⟩ := h0
  refine ⟨fun j k H => k = n - j ∧ j ≤ n ∧ ∃ acc : List V, Ia j acc H ∧ H D = some (.lst acc), ⟨n, by simp, Nat.zero_le _, acc0, i0, e0⟩, ?_⟩
  rintro j k H ⟨rfl, hj, acc, hI, e⟩
  have q := hG j acc H hj hI e
  by_cases hlt : j < n
  · refine .inr ⟨w.goes j H hlt q, fun H' => ∃ acc : List V, Ia (j + 1) acc H' ∧ H' D = some (.lst acc), fun H' ⟨acc', h1, h2⟩ => ⟨n - (j + 1), by omega, rfl, hlt, acc', h1, h2⟩, fun x H' y => ?_⟩
    exact hs j acc x H H' _ hlt hI e (w.yields j H x H' hlt q y) fun y H7 e7 h7 => ⟨acc, e7, hz j acc H hI, acc ++ [y], hst _ _ _ _ _ h7 e7, upd_same⟩
  · have en : j = n := by omega
    subst en
    exact .inl ⟨w.stops H q, hd acc H hI e⟩
theorem lc2_gen {J : It} {n : Nat} {G : Hp → Prop} {Y : Nat → Hp → V → Hp → Prop} (w : Walk J n G Y) {g : TG} {wi1 : TI} {g1 : TG} {te : TE} {vs vs1 : List Nat} {σ : L2.St} {H1 : Hp} {Q : VK} (Ia : Addr → Nat → List V → Hp → Prop)
    (h0 : ∀ D, H1 D = none → Ia D 0 [] (upd H1 D (.lst []))) (hG : ∀ D i acc H, H1 D = none → i ≤ n → Ia D i acc H → H D = some (.lst acc) → G H)
    (hs : ∀ D i acc x H H' (Nx : Hp → Prop), H1 D = none → i < n → Ia D i acc H → H D = some (.lst acc) → Y i H x H' → (∀ acc' H7, H7 D = some (.lst acc') → Ia D (i + 1) acc' H7 → Nx H7) → g x (wipe σ vs) H' fun σ2 H2 => wipe σ2 vs = wipe σ vs ∧ wi1 σ2 H2 fun J1 H4 => Lc1R J1 g1 tYes te vs1 D σ2 H4 Nx)
    (hd : ∀ D acc H, H1 D = none → Ia D n acc H → H D = some (.lst acc) → Q (.ref D) H) : Lc2R J g tYes wi1 g1 tYes te vs vs1 σ H1 Q := fun D hD => by
  refine ⟨fun i k H => k = n - i ∧ i ≤ n ∧ ∃ acc : List V, Ia D i acc H ∧ H D = some (.lst acc), ⟨n, by simp, Nat.zero_le _, [], h0 D hD, upd_same⟩, ?_⟩
  rintro i k H ⟨rfl, hi, acc, hI, e⟩
  have q := hG D i acc H hD hi hI e
  by_cases hlt : i < n
  · refine .inr ⟨w.goes i H hlt q, fun H' => ∃ acc : List V, Ia D (i + 1) acc H' ∧ H' D = some (.lst acc), fun H' ⟨acc', h1, h2⟩ => ⟨n - (i + 1), by omega, rfl, hlt, acc', h1, h2⟩, fun x H' y => ?_⟩
    exact hs D i acc x H H' _ hD hlt hI e (w.yields i H x H' hlt q y) fun acc' H7 e7 h7 => ⟨acc', h7, e7⟩
  · have en : i = n := by omega
    subst en
    exact .inl ⟨w.stops H q, hd D acc H hD hI e⟩
/-- a comprehension with a test: Ia by the turn, what is made so far, and the heap -/
theorem lcr_if {J : It} {n : Nat} {G : Hp → Prop} {Y : Nat → Hp → V → Hp → Prop} (w : Walk J n G Y) {g : TG} {tt : TT} {te : TE} {vs : List Nat} {σ : L2.St} {H1 : Hp} {Q : VK} (Ia : Addr → Nat → List V → Hp → Prop) (hn : n < sizeLine)
    (h0 : ∀ D, H1 D = none → Ia D 0 [] (upd H1 D (.lst []))) (hG : ∀ D i acc H, H1 D = none → i ≤ n → Ia D i acc H → H D = some (.lst acc) → G H) (hst : ∀ D i acc H l, H1 D = none → Ia D i acc H → H D ≠ none → Ia D i acc (upd H D (.lst l)))
    (hs : ∀ D i acc x H H' (Qn : Hp → Prop) (Qy : VK), H1 D = none → i < n → Ia D i acc H → H D = some (.lst acc) → Y i H x H' → (∀ H4, H4 D = some (.lst acc) → Ia D (i + 1) acc H4 → Qn H4) → (∀ y H4, H4 D = some (.lst acc) → Ia D (i + 1) (acc ++ [y]) H4 → Qy y H4) →
      g x (wipe σ vs) H' fun σ2 H2 => wipe σ2 vs = wipe σ vs ∧ tt σ2 H2 fun b H3 => if b = true then te σ2 H3 Qy else Qn H3)
    (hd : ∀ D acc H, H1 D = none → acc.length ≤ n → Ia D n acc H → H D = some (.lst acc) → Q (.ref D) H) : LcR J g tt te vs σ H1 Q := fun D hD => by
  refine lc_it w (fun i H => ∃ acc : List V, acc.length ≤ i ∧ Ia D i acc H ∧ H D = some (.lst acc)) ⟨[], Nat.le_refl _, h0 D hD, upd_same⟩ (fun i H hi ⟨acc, _, h, e⟩ => hG D i acc H hD hi h e) (fun i x H H' hi ⟨acc, hl, h, e⟩ hy => ?_) (fun H ⟨acc, hl, h, e⟩ => hd D acc H hD hl h e)
  refine hs D i acc x H H' _ _ hD hi h e hy (fun H4 e4 h4 => ⟨acc, by omega, h4, e4⟩) fun y H4 e4 h4 => ⟨acc, e4, by omega, acc ++ [y], by rw [List.length_append]; simp; omega, ?_, upd_same⟩
  exact hst _ _ _ _ _ hD h4 (by rw [e4]; simp)
/-! ### gcd and lcm of wide ints -/
def rLcm : List V → Hp → VK → Prop := fun vs H Q => ∃ a b : Int, vs = [.int a, .int b] ∧ a.natAbs < 2 ^ 6000 ∧ b.natAbs < 2 ^ 6000 ∧ Q (.int ((Nat.lcm a.natAbs b.natAbs : Nat) : Int)) H
theorem lcm_le_mul (m n : Nat) : m.lcm n ≤ m * n := by
  unfold Nat.lcm
  exact Nat.div_le_self _ _
theorem cr_lcm {X : Cx} : CallR X (.builtin "math.lcm") rLcm := by
  intro pins s σ H vs us Q I r h
  obtain ⟨a, b, rfl, ha, hb, q⟩ := h
  obtain ⟨t, u, rfl⟩ := Vals.int2 r
  have e1 : (Nat.lcm 1 a.natAbs) = a.natAbs := by simp [Nat.lcm]
  have lg : ∀ m : Nat, m < 2 ^ 6000 → m.log2 < 6000 := fun m hm => by
    by_cases h0 : m = 0
    · subst h0; decide
    · exact (Nat.log2_lt h0).mpr hm
  have m1 : max 1 a.natAbs < 2 ^ 6000 := by
    have : (1 : Nat) < 2 ^ 6000 := Nat.one_lt_two_pow (by decide)
    omega
  have m2 : max a.natAbs b.natAbs < 2 ^ 6000 := by omega
  have l1 := lg _ m1
  have l2 := lg _ m2
  have hl : (((Nat.lcm 1 a.natAbs).lcm b.natAbs : Nat) : Int).natAbs.log2 < bitsLine := by
    rw [e1, Int.natAbs_natCast]
    have h1 : a.natAbs.lcm b.natAbs ≤ a.natAbs * b.natAbs := lcm_le_mul _ _
    have h2 : a.natAbs * b.natAbs < 2 ^ 12000 := by
      rw [show (12000 : Nat) = 6000 + 6000 by rfl, Nat.pow_add]
      exact Nat.mul_lt_mul'' ha hb
    have eb : bitsLine = 134217728 := by decide
    rw [eb]
    by_cases h0 : a.natAbs.lcm b.natAbs = 0
    · rw [h0]; decide
    · have h3 : (a.natAbs.lcm b.natAbs).log2 < 12000 := (Nat.log2_lt h0).mpr (Nat.lt_of_le_of_lt h1 h2)
      omega
  refine call_function_meets PySem.W.MGF.kind_lcm PySem.W.MGF.plain_lcm PySem.W.MGF.entry_lcm (PySem.W.MGF.args_lcm _ _) (PySem.W.mg_run_lcm a t b u (by omega) (by omega) hl).meets ?_
  rw [e1]
  exact ⟨.int _, H, I.tok _, ⟨_, rfl⟩, q⟩
/-- *t, .. in a display: t a tracked tuple -/
def tStarH (te : TE) (t : TA) : TA := fun σ H Q => te σ H fun x H1 => ∃ p, x = .ref p ∧ ∃ xs, H1 p = some (.tup xs) ∧ t σ H1 fun ys H2 => Q (xs ++ ys) H2
theorem pa_starH {X : Cx} {e : Expr} {es : List Expr} {te : TE} {t : TA} {p : Pos} (he : PE X e te) (hr : PA X es t) (hs : starEach (.Starred e p :: es) X.env = (true, eval e X.env) :: starEach es X.env := by rfl) : PA X (.Starred e p :: es) (tStarH te t) := by
  refine ⟨fun pos pins s σ H Q I h => ?_⟩
  refine PySem.W.items_star (thn (he.run pins s σ H _ I h) fun v s1 ⟨y, H1, I1, ry, a, ey, xs, hx, q⟩ => ?_) hs
  subst ey
  obtain rfl : v = Value.ref a := ry
  refine StX.star_any I1 (.inl (.inl (.inl hx))) fun us s2 I2 rv => ?_
  exact thn (hr.run pos pins s2 σ H1 _ I2 q) fun ws s3 ⟨vs, H3, I3, r3, q3⟩ => ⟨xs ++ vs, H3, I3, rv.append r3, q3⟩
end Cs

/-! tuple * 1, tests of bools -/
namespace Cs
open PySem PySem.Spec PyProof.Rows L2
theorem tuple_mul_one (l : Addr) (items : Array Value) (n : Nat) (dd : Option Addr) (sl : Array (Option Value)) (u : Tok) :
    Meets (Builtin.«tuple.__mul__» ⟨[.ref l, .int 1 u], []⟩) (fun _ R s => s.heap.get? l = some { cls := .type "tuple", dict := dd, data := .seq items n, slots := sl } ∧ R (.ok (.ret (Value.ref l))) s) :=
  .of_wp fun prog w A R s h => by
    obtain ⟨hp, g, d, tk, os⟩ := s
    obtain ⟨hl, h⟩ := h
    have f1 := AutoSeq1.idx_int
    have c0 : (decide ((1 : Int) < -(2 ^ 63)) || decide ((1 : Int) ≥ 2 ^ 63)) = false := by decide
    have c1 : (items.isEmpty || (1 : Int) == 1) = true := by simp
    wp_walk using wpAny_loadPart' hl
    repeat (first
      | (refine wpAny_ite_false (decide_eq_false (by rw [c0]; exact Bool.false_ne_true)) ?_; wp_walk using wpAny_loadPart' hl)
      | (refine wpAny_ite_true (decide_eq_true (by rw [c1])) ?_; wp_walk using wpAny_loadPart' hl))
    exact ⟨_, rfl, h⟩
/-- a tuple times a count of at least one -/
def rRepA (K : PySem.W.Frag) : R2 := fun x y H Q => ∃ (l : Addr) (k : Nat) (xs : List V), x = .ref l ∧ y = .int k ∧ H l = some (.tup xs) ∧ xs ≠ [] ∧ 1 ≤ k ∧ k ≤ 1000 ∧ xs.length ≤ 1000 ∧ ∀ p H', Same H H' → H' p = some (.tup (List.replicate k xs).flatten) → Q (.ref p) H'
section
variable {X : Cx}
theorem op_repA : OpR X (binaryOp .Mult) (rRepA X.K) := by
  intro pins s σ H x y v u Q I rx ry h
  obtain ⟨l, k, xs, rfl, rfl, hT, hne, h1, h2, hz, q⟩ := h
  by_cases hk : 2 ≤ k
  · refine op_repT pins s σ H _ _ _ _ Q I rx ry ⟨l, k, xs, rfl, rfl, .inl (.inl hT), hne, by omega, by omega, hz, fun p hp => ?_⟩
    have e : ((k : Nat) : Int).toNat = k := by simp
    rw [e]
    exact q p _ (Same.new hp) upd_same
  · obtain rfl : k = 1 := by omega
    cases rx
    obtain ⟨t, rfl⟩ := ry
    obtain ⟨its, r, ⟨⟨cls, dd, data, sl⟩, ho, hc, n, hd⟩, hs⟩ := I.tuple (.inl (.inl hT))
    simp only at hc hd
    subst hc hd
    refine wpAny_binaryOp_repeat_ref (T := "tuple") (U := "int") (by decide) ⟨_, ho, rfl⟩ (fun s' => typeIs_int s' 1 t) noFill_tuple_mul F.fills_int_mul F.slot_int_rmul repeat_tuple F.slot_int_index.lookup
      (call_meets F.slot_int_rmul (typeIs_int s 1 t) F.entry_int_rmul (F.args_int_rmul_2 _ _) (int_rmul_tuple 1 t l its.toArray n dd sl)
        ⟨ho, rfl, ⟨_, ho, rfl⟩, call_meets F.slot_tuple_mul ⟨_, ho, rfl⟩ F.entry_tuple_mul (F.args_tuple_mul_2 _ _) (tuple_mul_one l its.toArray n dd sl t) ⟨ho, ?_⟩⟩)
    refine ⟨.ref l, _, I, rfl, q l H (Same.refl _) ?_⟩
    rw [hT]
    simp
end
/-- tuples of ints at the addresses as -/
def AsT (H : Hp) (as : List Addr) (hss : List (List Int)) : Prop := as.length = hss.length ∧ ∀ (i : Nat) t hs, as[i]? = some t → hss[i]? = some hs → H t = some (.tup (hs.map V.int))
theorem AsT.same {H H' : Hp} {as : List Addr} {hss : List (List Int)} (e : Same H H') (h : AsT H as hss) : AsT H' as hss := ⟨h.1, fun i t hs h1 h2 => e _ _ (h.2 i t hs h1 h2)⟩
theorem AsT.nil {H : Hp} : AsT H [] [] := ⟨rfl, fun i t hs h _ => by simp at h⟩
theorem AsT.snoc {H : Hp} {as : List Addr} {hss : List (List Int)} {t : Addr} {hs : List Int} (h : AsT H as hss) (ht : H t = some (.tup (hs.map V.int))) : AsT H (as ++ [t]) (hss ++ [hs]) := by
  refine ⟨by rw [List.length_append, List.length_append, h.1]; rfl, fun i u gs h1 h2 => ?_⟩
  by_cases hlt : i < as.length
  · rw [List.getElem?_append_left hlt] at h1
    rw [List.getElem?_append_left (by rw [← h.1]; exact hlt)] at h2
    exact h.2 i u gs h1 h2
  · rw [List.getElem?_append_right (by omega)] at h1
    rw [List.getElem?_append_right (by rw [← h.1]; omega), ← h.1] at h2
    cases hk : i - as.length with
    | zero =>
      rw [hk] at h1 h2
      simp only [List.getElem?_cons_zero, Option.some.injEq] at h1 h2
      rw [← h1, ← h2]; exact ht
    | succ m => rw [hk] at h1; simp at h1
/-- a list of tuples of ints, at a -/
def LstT (H : Hp) (a : Addr) (hss : List (List Int)) : Prop := ∃ as : List Addr, H a = some (.lst (as.map V.ref)) ∧ AsT H as hss
theorem LstT.same {H H' : Hp} {a : Addr} {hss : List (List Int)} (e : Same H H') (h : LstT H a hss) : LstT H' a hss := by
  obtain ⟨as, h1, h2⟩ := h
  exact ⟨as, e _ _ h1, h2.same e⟩
theorem scal_bl (b c : Bool) : scal (.bl b) (.bl c) = true := rfl
theorem dpAll_tups {K : PySem.W.Frag} {H : Hp} : ∀ {as : List Addr} {hss : List (List Int)}, AsT H as hss → DpAll K H (as.map V.ref) (hss.map tupI)
  | [], [], _ => .nil
  | [], _ :: _, h => by have := h.1; simp at this
  | _ :: _, [], h => by have := h.1; simp at this
  | a :: as, hs :: hss, h => .cons (dp_tupI (.inl (.inl (h.2 0 a hs rfl rfl)))) (dpAll_tups ⟨by simpa using h.1, fun i t gs h1 h2 => h.2 (i + 1) t gs h1 h2⟩)
theorem canLay_tups : ∀ hss : List (List Int), PyData.canLayAll0 (hss.map tupI) = true
  | [] => rfl
  | hs :: hss => by
    show (PyData.canLay0 (tupI hs) && PyData.canLayAll0 (hss.map tupI)) = true
    rw [canLay_tups hss, show PyData.canLay0 (tupI hs) = true from canLay_ints hs]
    rfl
theorem depth_tups : ∀ hss : List (List Int), PyData.depthAll (hss.map tupI) ≤ 1
  | [] => by decide
  | hs :: hss => by
    show max (PyData.depth (tupI hs)) (PyData.depthAll (hss.map tupI)) ≤ 1
    rw [depth_tupI]
    have := depth_tups hss
    omega
theorem shaped_tups (hss : List (List Int)) : SeqAt.shaped (.list (hss.map tupI)) = true := by
  have h1 : PyData.canLay0 (.list (hss.map tupI)) = true := canLay_tups hss
  have h2 : PyData.depth (.list (hss.map tupI)) ≤ 64 := by
    show PyData.depthAll (hss.map tupI) + 1 ≤ 64
    have := depth_tups hss
    omega
  unfold SeqAt.shaped
  rw [h1, decide_eq_true h2]
  rfl
theorem any_tups (ns : List Int) : ∀ hss : List (List Int), ((hss.map tupI).any fun z => PyData.eqv z (tupI ns)) = decide (ns ∈ hss)
  | [] => by simp
  | hs :: hss => by
    rw [List.map_cons, List.any_cons, any_tups ns hss, eqv_tupI]
    by_cases h : hs = ns
    · subst h; simp
    · have h' : ¬ ns = hs := fun e => h e.symm
      simp [h, h']
section
variable {K : PySem.W.Frag} {H : Hp} {a b : Addr} {ns ms : List Int} {hss : List (List Int)} {Q : VK}
theorem dp_lstT (h : LstT H a hss) : Dp K H (.ref a) (.list (hss.map tupI)) := by
  obtain ⟨as, h1, h2⟩ := h
  exact .lst (.inl (.inl h1)) (dpAll_tups h2)
theorem inD_tups (h1 : H a = some (.tup (ns.map V.int))) (h2 : LstT H b hss) (q : Q (.bl (decide (ns ∈ hss))) H) : rInD K (.ref a) (.ref b) H Q :=
  ⟨_, _, dp_tupI (.inl (.inl h1)), dp_lstT h2, shaped_tupI _, shaped_tups _, by rw [any_tups]; exact q⟩
theorem notInD_tups (h1 : H a = some (.tup (ns.map V.int))) (h2 : LstT H b hss) (q : Q (.bl (!decide (ns ∈ hss))) H) : rNotInD K (.ref a) (.ref b) H Q :=
  ⟨_, _, dp_tupI (.inl (.inl h1)), dp_lstT h2, shaped_tupI _, shaped_tups _, by rw [any_tups]; exact q⟩
theorem shaped_lstI (ns : List Int) : SeqAt.shaped (.list (ns.map PyData.int)) = true := by
  have h1 : PyData.canLay0 (.list (ns.map PyData.int)) = true := canLay_ints ns
  have h2 : PyData.depth (.list (ns.map PyData.int)) ≤ 64 := by
    show PyData.depthAll (ns.map PyData.int) + 1 ≤ 64
    rw [depth_ints ns]
    decide
  unfold SeqAt.shaped
  rw [h1, decide_eq_true h2]
  rfl
theorem eqv_lstI (ns ms : List Int) : PyData.eqv (.list (ns.map PyData.int)) (.list (ms.map PyData.int)) = decide (ns = ms) := eqvAll_ints ns ms
theorem eqD_lst (h1 : H a = some (.lst (ns.map V.int))) (h2 : H b = some (.lst (ms.map V.int))) (q : Q (.bl (decide (ns = ms))) H) : rEqD K (.ref a) (.ref b) H Q :=
  ⟨_, _, .lst (.inl (.inl h1)) (dpAll_ints ns), .lst (.inl (.inl h2)) (dpAll_ints ms), shaped_lstI _, shaped_lstI _, by rw [eqv_lstI]; exact q⟩
theorem neD_lst (h1 : H a = some (.lst (ns.map V.int))) (h2 : H b = some (.lst (ms.map V.int))) (q : Q (.bl (!decide (ns = ms))) H) : rNeD K (.ref a) (.ref b) H Q :=
  ⟨_, _, .lst (.inl (.inl h1)) (dpAll_ints ns), .lst (.inl (.inl h2)) (dpAll_ints ms), shaped_lstI _, shaped_lstI _, by rw [eqv_lstI]; exact q⟩
theorem eqv_tups : ∀ (hss gss : List (List Int)), PyData.eqvAll (hss.map tupI) (gss.map tupI) = decide (hss = gss)
  | [], [] => rfl
  | [], _ :: _ => rfl
  | _ :: _, [] => rfl
  | hs :: hss, gs :: gss => by
    show (PyData.eqv (tupI hs) (tupI gs) && PyData.eqvAll (hss.map tupI) (gss.map tupI)) = _
    rw [eqv_tups hss gss, eqv_tupI]
    by_cases h : hs = gs <;> by_cases h2 : hss = gss <;> simp [h, h2]
theorem neD_tups {gss : List (List Int)} (h1 : LstT H a hss) (h2 : LstT H b gss) (q : Q (.bl (!decide (hss = gss))) H) : rNeD K (.ref a) (.ref b) H Q :=
  ⟨_, _, dp_lstT h1, dp_lstT h2, shaped_tups _, shaped_tups _, by rw [show PyData.eqv (.list (hss.map tupI)) (.list (gss.map tupI)) = decide (hss = gss) from eqv_tups hss gss]; exact q⟩
end
theorem _root_.L2.Room.units1 {k : Nat} {A : Around} (r : Room k A) : A.units + 65 < cLine := by have := r.un; omega
theorem call_isIK {X : Cx} {K : PySem.W.Frag} (h : X.K = K) : CallR X (.builtin "isinstance") (rIsI K) := by subst h; exact call_isI
theorem call_isAK {X : Cx} {K : PySem.W.Frag} (h : X.K = K) : CallR X (.builtin "isinstance") (rIsA K) := by subst h; exact call_isA
end Cs

/-! sets of tuples of ints: set(), x in s, x not in s, s.add(x) -/
namespace Cs
open PySem PySem.Spec PyProof.Rows L2
section
variable {P : Program} {w : World} {A : Around} {E : Value → Shared → Prop} {s : Shared} {a : Addr} {L : List (Addr × List Int)} {es : Array (Int × Value)} {ep : Nat} {t : SetTable}
/-- the c-th probe of a search for a hash -/
abbrev pr (t : SetTable) (h : Int) (c : Nat) : SetTable.Probe := nth t.mask (runAt t.mask (SetTable.bits h % (t.mask + 1)) (SetTable.bits h)) c
theorem nth_clean (m : Nat) : ∀ (n : Nat) (p : SetTable.Probe), p.dummy = none → (nth m p n).dummy = none
  | 0, p, h => h
  | n + 1, p, h => nth_clean m n (adv m p) (by unfold adv; split <;> exact h)
/-- what the table's probe meets from the c-th place on: a row of the same hash, or the empty slot -/
theorem probe_at (R : SetTR P w s.heap a L es ep t) {k : List Int} {K c : Nat} (hKf : K < 10 * SetTable.turns t.mask) (hK : way t.mask (thash P w k) K ∉ t.place.toList) (hKb : ∀ c, c < K → way t.mask (thash P w k) c ∈ t.place.toList) (hc : c ≤ K) :
    (∃ q i p, c + q < K ∧ t.place.toList[i]? = some (way t.mask (thash P w k) (c + q)) ∧ L[i]? = some p ∧
      (∀ (q' i' : Nat) (p' : Addr × List Int), q' < q → L[i']? = some p' → t.place.toList[i']? = some (way t.mask (thash P w k) (c + q')) → p'.2 ≠ k) ∧
      t.probe (fun i => (es[i]?.map (·.1)).getD 0) (thash P w k) (pr t (thash P w k) c) = some (.candidate (way t.mask (thash P w k) (c + q)) i (pr t (thash P w k) (c + q + 1)))) ∨
    ((∀ (q' i' : Nat) (p' : Addr × List Int), c + q' < K → L[i']? = some p' → t.place.toList[i']? = some (way t.mask (thash P w k) (c + q')) → p'.2 ≠ k) ∧
      t.probe (fun i => (es[i]?.map (·.1)).getD 0) (thash P w k) (pr t (thash P w k) c) = some (.empty (way t.mask (thash P w k) K) none)) := by
  have shift : ∀ q, nth t.mask (pr t (thash P w k) c) q = pr t (thash P w k) (c + q) := fun q => (nth_add t.mask c _ q).symm
  have shj : ∀ q, (nth t.mask (pr t (thash P w k) c) q).j = way t.mask (thash P w k) (c + q) := fun q => congrArg SetTable.Probe.j (shift q)
  have hash : ∀ (i : Nat) p, L[i]? = some p → (fun i => (es[i]?.map (·.1)).getD 0) i = thash P w p.2 := fun i p hp => by
    show (es[i]?.map (·.1)).getD 0 = _
    rw [R.entry hp]
    rfl
  have same : ∀ {i : Nat} {p : Addr × List Int}, L[i]? = some p → (fun i => (es[i]?.map (·.1)).getD 0) i ≠ thash P w k → p.2 ≠ k := fun {i p} hp hne e => hne (by rw [hash i p hp, e])
  rcases go_spec t R.tab.ris R.tab.dm (fun i => (es[i]?.map (·.1)).getD 0) (thash P w k) (10 * SetTable.turns t.mask) (K - c) (pr t (thash P w k) c) (nth_clean _ _ _ rfl) (by omega)
    (fun q hq => by rw [shj]; exact hKb _ (by omega)) (by rw [shj, show c + (K - c) = K by omega]; exact hK) with ⟨q, i, hq, hi, _, hno, hp⟩ | ⟨hno, hp⟩
  · left
    rw [shj] at hi
    have hil : i < L.length := by
      have h1 := (List.getElem?_eq_some_iff.mp hi).1
      have h2 := R.tab.sz
      rw [List.length_map] at h2
      rw [Array.length_toList] at h1
      omega
    refine ⟨q, i, L[i], by omega, hi, List.getElem?_eq_getElem hil, fun q' i' p' h1 h2 h3 => same h2 (hno q' i' h1 (by rw [shj]; exact h3)), ?_⟩
    rw [shj, shift] at hp
    exact hp
  · right
    refine ⟨fun q' i' p' h1 h2 h3 => same h2 (hno q' i' (by omega) (by rw [shj]; exact h3)), ?_⟩
    rw [shj, show c + (K - c) = K by omega] at hp
    exact hp
/-- the search that a question asks for -/
theorem look_from (R : SetTR P w s.heap a L es ep t) {x : Addr} {k : List Int} (hx : IsT P w s.heap k x) (hu : A.units < cLine) {K : Nat} (hKf : K < 10 * SetTable.turns t.mask) (hK : way t.mask (thash P w k) K ∉ t.place.toList)
    (hKb : ∀ c, c < K → way t.mask (thash P w k) c ∈ t.place.toList) {Q : SetFound → Shared → Prop} (hin : k ∈ L.map (·.2) → ∀ i, Q (.there (some i)) s) (hout : k ∉ L.map (·.2) → ∀ j, Q (.free j false) s) :
    ∀ (f c : Nat) (st : Option SetTable.Probe), st.getD (t.probeStart (thash P w k)) = pr t (thash P w k) c → c ≤ K → K - c < f →
      (∀ (i : Nat) p, L[i]? = some p → p.2 = k → ∃ c', c ≤ c' ∧ c' < K ∧ t.place.toList[i]? = some (way t.mask (thash P w k) c')) → wpAny (model P w) A (setSearchFrom a (.ref x) (thash P w k) false f st) Q E s := by
  intro f
  induction f with
  | zero => intro c st _ _ h _; exact absurd h (Nat.not_lt_zero _)
  | succ f ih =>
    intro c st hst hc hf hre
    obtain ⟨o, ho, hex, hd⟩ := R.ob
    rw [setSearchFrom_succ]
    refine wpAny_bind (wpAny_setState_of ho hd R.fits ?_)
    dsimp only
    refine wp_if_neg R.gw ?_
    try refine wpAny_bind (wpAny_pure ?_)
    rw [hst]
    rcases probe_at R hKf hK hKb hc with ⟨q, i, p, hq, hi, hp, hno, e⟩ | ⟨hno, e⟩
    · rw [e]
      dsimp only
      have hm : p ∈ L := List.mem_of_getElem? hp
      have live : t.slot (way t.mask (thash P w k) (c + q)) = .live i := slot_live R.tab.ris hi
      have rest : wpAny (model P w) A (searchRest a (.ref x) (thash P w k) false f es t (way t.mask (thash P w k) (c + q)) i (pr t (thash P w k) (c + q + 1))) Q E s := by
        unfold searchRest
        rw [R.entry hp]
        dsimp only
        refine wpAny_bind (wpAny_holding (wpAny_eqBool_tuple hu (R.tup p hm) hx ?_))
        refine wpAny_bind (wpAny_setState_of ho hd R.fits ?_)
        dsimp only
        refine wp_if_neg (by simp) ?_
        try refine wpAny_bind (wpAny_pure ?_)
        rw [sameMem]
        dsimp only
        simp only [if_true, live, R.entry hp]
        refine wpAny_bind (wpAny_isSame_ref_self (wpAny_bind (wpAny_pure ?_)))
        simp only [if_true]
        by_cases hk : p.2 = k
        · refine wp_if_pos (by simp [hk]) ?_
          exact wpAny_pure (hin (List.mem_map.mpr ⟨p, hm, hk⟩) i)
        · refine wp_if_neg (by simp [hk]) ?_
          refine ih (c + q + 1) _ rfl (by omega) (by omega) fun i0 p0 h0 hk0 => ?_
          obtain ⟨c', a1, a2, a3⟩ := hre i0 p0 h0 hk0
          refine ⟨c', ?_, a2, a3⟩
          by_cases h1 : c' < c + q
          · exact absurd hk0 (hno (c' - c) i0 p0 (by omega) h0 (by rw [show c + (c' - c) = c' by omega]; exact a3))
          · by_cases h2 : c' = c + q
            · exfalso
              have l2 := slot_live R.tab.ris a3
              rw [h2, live] at l2
              injection l2 with l2
              rw [← l2, hp] at h0
              exact hk ((congrArg Prod.snd (Option.some.inj h0)).trans hk0)
            · omega
      by_cases hl : t.led = true
      · refine wp_if_neg (by simp [hl]) ?_
        try refine wpAny_bind (wpAny_pure ?_)
        exact rest
      · refine wp_if_pos (by simp [hl]) ?_
        refine wpAny_bind (seen_tup hx (fun y hy => ?_) ?_)
        · obtain ⟨e1, he1, rfl⟩ := List.mem_map.mp hy
          have he2 : e1 ∈ es.toList := by
            have h1 : e1 ∈ es ∧ e1.1 = thash P w k := by simpa using he1
            simpa using h1.1
          rw [R.rows] at he2
          obtain ⟨p2, hp2, rfl⟩ := List.mem_map.mp he2
          exact ⟨p2.2, p2.1, rfl, R.tup p2 hp2⟩
        · refine wp_if_neg (by decide) ?_
          try refine wpAny_bind (wpAny_pure ?_)
          exact rest
    · rw [e]
      dsimp only
      refine wpAny_pure (hout (fun hm => ?_) _)
      obtain ⟨p0, h0, hk0⟩ := List.mem_map.mp hm
      obtain ⟨i0, hi0, e0⟩ := List.getElem_of_mem h0
      have h00 : L[i0]? = some p0 := by rw [List.getElem?_eq_getElem hi0, e0]
      obtain ⟨c', a1, a2, a3⟩ := hre i0 p0 h00 hk0
      exact hno (c' - c) i0 p0 (by omega) h00 (by rw [show c + (c' - c) = c' by omega]; exact a3) hk0
theorem look_at (R : SetTR P w s.heap a L es ep t) {x : Addr} {k : List Int} (hx : IsT P w s.heap k x) (hu : A.units < cLine) {Q : SetFound → Shared → Prop} (hin : k ∈ L.map (·.2) → ∀ i, Q (.there (some i)) s) (hout : k ∉ L.map (·.2) → ∀ j, Q (.free j false) s) :
    wpAny (model P w) A (setSearch a (.ref x) (thash P w k)) Q E s := by
  have hroom := R.room
  obtain ⟨K, hKf, hK, hKb⟩ := R.tab.first (by rw [List.length_map]; omega) (thash P w k)
  have hbig : K < 100000 := by
    have : 10 * SetTable.turns t.mask ≤ 1420 := by
      unfold SetTable.turns
      rcases R.tab.mok with e | e | e <;> omega
    omega
  unfold setSearch
  refine look_from R hx hu hKf hK hKb hin hout 100000 0 none rfl (Nat.zero_le _) (by omega) fun i p hp hk => ?_
  have hi : (L.map fun p => thash P w p.2)[i]? = some (thash P w k) := by rw [List.getElem?_map, hp, ← hk]; rfl
  have hil : i < t.place.toList.length := by
    have h1 : i < L.length := (List.getElem?_eq_some_iff.mp hp).1
    have h2 := R.tab.sz
    rw [List.length_map] at h2
    rw [Array.length_toList]
    omega
  obtain ⟨c, hc, e⟩ := R.tab.before hK hi (List.getElem?_eq_getElem hil)
  exact ⟨c, Nat.zero_le _, hc, by rw [List.getElem?_eq_getElem hil, e]⟩
/-- x in s at the model's level -/
theorem find_tup (R : SetTR P w s.heap a L es ep t) {x : Addr} {k : List Int} (hx : IsT P w s.heap k x) (hu : A.units < cLine) {Q : Option Nat → Shared → Prop} (h : ∀ r, r.isSome = decide (k ∈ L.map (·.2)) → Q r s) :
    wpAny (model P w) A (setFind a (.ref x) (thash P w k)) Q E s := by
  obtain ⟨o, ho, hex, hd⟩ := R.ob
  unfold setFind
  rw [show (100000 : Nat) = 99999 + 1 from rfl]
  unfold setFindIn
  refine wpAny_bind (wpAny_setState_of ho hd R.fits ?_)
  dsimp only
  refine wp_if_neg (by simp [byScan, Value.scannable]) ?_
  try refine wpAny_bind (wpAny_pure ?_)
  refine wpAny_bind (look_at R hx hu (fun hm i => ?_) fun hm j => ?_)
  · exact wpAny_pure (h _ (by rw [decide_eq_true hm]; rfl))
  · exact wpAny_pure (h _ (by rw [decide_eq_false hm]; rfl))
end
section
variable {X : Cx}
theorem setTO_got {pins : List (Addr × Obj)} {σ : L2.St} {H : Hp} {s : Shared} {a : Addr} {L : List (Addr × List Int)} (I : Inv X pins σ H s) (ha : H a = some (SetTO X.prog X.w a L)) (hk : ∀ p ∈ L, H p.1 = some (.tup (p.2.map V.int))) :
    ∃ es ep t, SetTR X.prog X.w s.heap a L es ep t := (I.hok a _ ha).1.full fun p hp => I.isT (.inl (.inl (hk p hp)))
/-- set(), to be filled with tuples of ints -/
def rSet0T (P : Program) (w : World) : List V → Hp → VK → Prop := fun xs H Q => xs = [] ∧ ∀ p, H p = none → Q (.ref p) (upd H p (SetTO P w p []))
theorem cr_set0T : CallR X (.type "set") (rSet0T X.prog X.w) := by
  intro pins s σ H xs us Q I r h
  obtain ⟨rfl, q⟩ := h
  cases r
  refine setR_new fun _ => ?_
  exact ⟨.ref _, upd H s.heap.objs.size (SetTO X.prog X.w s.heap.objs.size []), I.laid (t' := s.toks) (fun b u e => Heap.get?_push_of_some _ e) (Nat.le_refl _) (setTO_new (setTR_fresh (Heap.get?_push_size _ rfl)).t0), rfl, q _ (I.hok.fresh (Nat.le_refl _))⟩
/-- t in s, t not in s -/
def rInT (P : Program) (w : World) (neg : Bool) : R2 := fun x y H Q => ∃ (b a : Addr) (k : List Int) (L : List (Addr × List Int)), x = .ref b ∧ y = .ref a ∧ H b = some (.tup (k.map V.int)) ∧ H a = some (SetTO P w a L) ∧ (∀ p ∈ L, H p.1 = some (.tup (p.2.map V.int))) ∧
  Q (.bl (if neg then !decide (k ∈ L.map (·.2)) else decide (k ∈ L.map (·.2)))) H
theorem contains_tup {P : Program} {w : World} {A : Around} {E : Value → Shared → Prop} {s : Shared} {a x : Addr} {L : List (Addr × List Int)} {es : Array (Int × Value)} {ep : Nat} {t : SetTable} {k : List Int} {Q : Bool → Shared → Prop}
    (R : SetTR P w s.heap a L es ep t) (hx : IsT P w s.heap k x) (hu : A.units + 64 < cLine) (h : ∀ tk, Q (decide (k ∈ L.map (·.2))) { s with toks := tk }) : wpAny (model P w) A (contains (.ref a) (.ref x)) Q E s := by
  obtain ⟨o, ho, hex, hd⟩ := id R.ob
  have ty : s.TypeIs (.ref a) "set" := ⟨o, ho, hex.1⟩
  have hu1 : A.in1.units < cLine := by
    show A.units + 1 < cLine
    omega
  unfold contains
  try with_reducible refine wpAny_holding ?_
  refine wpAny_bind (wpAny_specialOf ty F.slot_set_contains.lookup ?_)
  show wpAny _ _ (if (some (Value.builtin "set.__contains__") == some Value.none) = true then _ else _) _ E s
  rw [if_neg (by rw [beq_builtin_none]; exact Bool.false_ne_true)]
  refine wpAny_bind (wpAny_callSpecialUnlessNone?_slot (name := Str.ofString "__contains__") ty F.slot_set_contains
    (wpAny_call_entry F.slot_set_contains ty entry_set_contains ?_ (F.args_set_contains_2 _ _)))
  unfold Builtin.«frozenset.__contains__» Builtin.Frozenset.oneOther
  simp only [List.isEmpty_nil, bind_assoc]
  unfold Builtin.Frozenset.addrOf Builtin.Frozenset.withSetAsKey setContains
  refine wpAny_bind (wpAny_pure ?_)
  try dsimp only
  refine wpAny_bind (wpAny_pure ?_)
  try dsimp only
  refine wpAny_bind (wpAny_tryCatch ?_)
  refine wpAny_holding ?_
  refine wpAny_bind (wpAny_pyHash_tuple hu1 hx ?_)
  refine wpAny_bind (find_tup (s := { s with toks := s.toks + (k.length + 1) }) R hx hu1 fun r hr => ?_)
  refine wpAny_pure ?_
  show wpAny _ _ (ret (Value.bool r.isSome)) _ _ _
  rw [hr]
  exact wpAny_pure ⟨_, rfl, wpAny_truthy_bool (h _)⟩
theorem op_inT (hu : X.A.units + 64 < cLine) : OpR X (compareOp .In) (rInT X.prog X.w false) := by
  intro pins s σ H x y v u Q I rx ry h
  obtain ⟨b, a, k, L, rfl, rfl, hb, ha, hk, q⟩ := h
  cases rx
  cases ry
  obtain ⟨es, ep, t, R⟩ := setTO_got I ha hk
  show wpAny _ _ ((contains (Value.ref a) (Value.ref b)) >>= fun b => pure (Value.bool b)) _ _ s
  exact wpAny_bind (contains_tup R (I.isT (.inl (.inl hb))) hu fun tk => wpAny_pure ⟨.bl _, H, I.tok _, rfl, q⟩)
theorem op_notInT (hu : X.A.units + 64 < cLine) : OpR X (compareOp .NotIn) (rInT X.prog X.w true) := by
  intro pins s σ H x y v u Q I rx ry h
  obtain ⟨b, a, k, L, rfl, rfl, hb, ha, hk, q⟩ := h
  cases rx
  cases ry
  obtain ⟨es, ep, t, R⟩ := setTO_got I ha hk
  show wpAny _ _ ((contains (Value.ref a) (Value.ref b)) >>= fun b => pure (Value.bool !b)) _ _ s
  exact wpAny_bind (contains_tup R (I.isT (.inl (.inl hb))) hu fun tk => wpAny_pure ⟨.bl _, H, I.tok _, rfl, q⟩)
/-- s.add(t) -/
def rAddT (P : Program) (w : World) : V → List V → Hp → VK → Prop := fun x xs H Q => ∃ (b a : Addr) (k : List Int) (L : List (Addr × List Int)), x = .ref a ∧ xs = [.ref b] ∧ H b = some (.tup (k.map V.int)) ∧ H a = some (SetTO P w a L) ∧ (∀ p ∈ L, H p.1 = some (.tup (p.2.map V.int))) ∧ L.length + 1 < 64 ∧
  ∀ L', (k ∈ L.map (·.2) → L' = L) → (k ∉ L.map (·.2) → L'.Perm ((b, k) :: L)) → Q .non (upd H a (SetTO P w a L'))
theorem mt_addT (hu : X.A.units + 64 < cLine) : MtR X "set.add" (rAddT X.prog X.w) := by
  intro pins s σ H x xs v us Q I rx rxs h
  obtain ⟨b, a, k, L, rfl, rfl, hb, ha, hk, hl, q⟩ := h
  cases rx
  cases rxs with
  | cons ry rt =>
    cases rt
    cases ry
    obtain ⟨es, ep, t, R⟩ := setTO_got I ha hk
    obtain ⟨o, ho, hex, hd⟩ := id R.ob
    have ty : s.TypeIs (.ref a) "set" := ⟨o, ho, hex.1⟩
    have hx := I.isT (.inl (.inl hb)) (b := b) (k := k)
    refine wpAny_call_entry F.slot_set_add ty F.entry_set_add ?_ (F.args_set_add_2 _ _)
    have hu1 : X.A.in1.units < cLine := by
      show X.A.units + 1 < cLine
      omega
    unfold Builtin.«set.add» Builtin.Frozenset.oneOther
    simp only [List.isEmpty_nil, bind_assoc]
    unfold Builtin.Frozenset.addrOf setAdd
    refine wpAny_bind (wpAny_pure ?_)
    try dsimp only
    refine wpAny_bind (wpAny_pure ?_)
    try dsimp only
    refine wpAny_bind ?_
    refine wpAny_holding ?_
    refine wpAny_bind (wpAny_pyHash_tuple hu1 hx ?_)
    refine add_at (s := { s with toks := s.toks + (k.length + 1) }) R hx hu1 hl fun b' h' L' es' ep' t' sb R' c1 c2 => ?_
    show wpAny _ _ (ret Value.none) _ _ _
    obtain ⟨o', ho', _⟩ := R'.ob
    exact wpAny_pure ⟨_, rfl, .non, upd H a (SetTO X.prog X.w a L'), I.write (e := a) (t' := s.toks + (k.length + 1)) (by rw [ha]; trivial) (.inl rfl) (fun c u hc hu => (sb.2 c hc).trans hu) ⟨o', ho'⟩ (setTO_new R'.t0), rfl, q L' c1 c2⟩
def tAddT (P : Program) (w : World) (to : TE) (t : TA) : TE := fun σ H Q => to σ H fun x H1 => (∃ a L, x = V.ref a ∧ H1 a = some (SetTO P w a L)) ∧ t σ H1 fun xs H2 => rAddT P w x xs H2 Q
variable {o e : Expr} {to : TE} {t : TA} {apos cpos : Pos}
theorem pe_addT (hu : X.A.units + 64 < cLine) (ho : PE X o to) (ha : PA X [e] t)
    (hbase : attributeBase o "add" X.env (eval o X.env) = eval o X.env := by rfl)
    (hfew : ((backTo cpos (starEach [e] X.env)).all (fun x => !x.1) && (backToKw cpos (keywordEach [] X.env)).all (fun x => x.1.isSome)
      && decide (([e] : List Expr).length + ([] : List Keyword).length + (if ([] : List Keyword).isEmpty then 0 else 1) < 30)) = true := by rfl)
    (hline : (apos.endLine == cpos.line) = true := by rfl) (hs : starEach [e] X.env = (false, eval e X.env) :: starEach [] X.env := by rfl) :
    PE X (.Call (.Attribute o "add" apos) [e] [] cpos) (tAddT X.prog X.w to t) := by
  refine ⟨fun pins s σ H Q I h => wpAny_Call_method_late hbase hfew hline rfl (thn (ho.run pins s σ H _ I h) fun v s1 ⟨x, H1, I1, r1, ty, q1⟩ => ?_)⟩
  obtain ⟨a, L, rfl, hka⟩ := ty
  obtain ⟨_, _, _, ⟨ob, hob, hex, hd⟩, _⟩ := SetT0.ex (I1.hok a _ hka).1
  cases r1
  refine ⟨"set", "set.add", F.plainAttrs_set, F.slot_set_add, F.type_set_add, ⟨ob, hob, hex.1⟩, ?_, ?_⟩
  · intro a' e
    cases e
    exact ⟨ob, hob, hex.2.1⟩
  have hA := ha.run cpos pins s1 σ H1 _ I1 q1
  rw [hs] at hA ⊢
  refine Calls.callWith_builtin rfl (Calls.evalArgs_plain ?_)
  exact thn hA fun us s2 ⟨vs, H2, I2, r2, q2⟩ => mt_addT hu pins s2 σ H2 (.ref a) vs (.ref a) us Q I2 rfl r2 q2
end
end Cs

/-! for i, x in enumerate(v), v a list or a tuple -/
namespace Cs
open PySem PySem.Spec PyProof.Rows L2
theorem enum1_new {v : Value} {o : Obj} {G : Heap → Prop} (B : Begins v o G) :
    Meets (Builtin.«enumerate.__new__» ⟨[.type "enumerate", v], []⟩) (fun _ R s => G s.heap ∧
      R (.ok (.ret (.ref (s.heap.push o).objs.size))) { s with heap := (s.heap.push o).push { cls := .type "enumerate", data := .fields #[.none, .bool false, .ref s.heap.objs.size, rawInt 0, .none, .none] } }) :=
  .of_wp fun prog w A R s h => by
    obtain ⟨hp, g, d, tk, os⟩ := s
    obtain ⟨h1, h⟩ := h
    have hsub := sub_enumerate
    have it : ∀ {A' : Around} {E : Value → Shared → Prop} {Q : Value → Shared → Prop}, Q (.ref hp.objs.size) ⟨hp.push o, g, d, tk, os⟩ → wpAny (model prog w) A' (pyIter v) Q E ⟨hp, g, d, tk, os⟩ :=
      fun q => B.iter prog w _ _ ⟨hp, g, d, tk, os⟩ _ h1 q
    wp_walk using it
    refine wpAny_stack_any fun st => wpAny_pure ?_
    split
    · rename_i c _ _ _ _ _
      cases (c == Value.type "enumerate") <;> (wp_walk using it; exact ⟨_, rfl, h⟩)
    · wp_walk using it
      exact ⟨_, rfl, h⟩
section
variable {prog : Program} {w : World} {A : Around} {E : Value → Shared → Prop} {s : Shared}
theorem enum1_begins {v : Value} {o : Obj} {G : Heap → Prop} {Q : Value → Shared → Prop} (B : Begins v o G) (h1 : G s.heap)
    (h : ∀ h', IsEnum h' (s.heap.objs.size + 1) s.heap.objs.size 0 .none → h'.get? s.heap.objs.size = some o → (∀ b o, s.heap.get? b = some o → h'.get? b = some o) → Q (.ref (s.heap.objs.size + 1)) { s with heap := h' }) :
    wpAny (model prog w) A (call (.type "enumerate") [v]) Q E s := by
  refine callType_new F.called_enumerate (by decide) (F.typeCall_enumerate_1 _) (F.newCall_enumerate_1 _) (fun obj => F.args_object_init_2 obj _) F.entry_enumerate_new (enum1_new B) ⟨h1, ?_⟩
  have hz : (s.heap.push o).objs.size = s.heap.objs.size + 1 := Heap.size_push ..
  have he := Heap.get?_push_size (s.heap.push o) (o := { cls := .type "enumerate", data := .fields #[.none, .bool false, .ref s.heap.objs.size, rawInt 0, .none, .none] }) rfl
  show _ ∧ _
  rw [hz] at he ⊢
  exact ⟨⟨_, he, rfl⟩, h _ he (Heap.get?_push_of_some _ (Heap.get?_push_size _ B.free)) fun b o x => Heap.get?_push_of_some _ (Heap.get?_push_of_some _ x)⟩
end
/-- the items in new pairs with their index -/
def Iek (K : PySem.W.Frag) (k : Bool) (a : Addr) : It :=
  ⟨fun i H => ∃ (xs : List V) (x : V), Sqk K k H a xs ∧ xs[i]? = some x, fun i H v H' => ∃ T x, v = .ref T ∧ H T = none ∧ H' = upd H T (.tup [.int (i : Nat), x]) ∧ ∀ xs, Sqk K k H a xs → xs[i]? = some x, fun i H => ∃ xs : List V, Sqk K k H a xs ∧ xs.length = i⟩
theorem turn_ek {P : Program} {w : World} {K : PySem.W.Frag} {elts : List Expr} {kk : Nat} {tpos : Pos} {k : Bool} {a e it : Addr} (n1 : a ≠ it) (n2 : e ≠ it) (n3 : e ≠ a) :
    Turn P w K (.Tuple elts kk tpos) (Iek K k a) [e, it] e (fun i h => (∃ old, IsEnum h e it ((i : Nat) : Int) old) ∧ ItK k h it a i) where
  mem := by simp
  obj := fun i h st c hc => by
    obtain ⟨⟨old, he⟩, hi⟩ := st
    have e' : c = e ∨ c = it := by simpa using hc
    rcases e' with q | q
    · rw [q]; exact ⟨_, he, fun v q => nomatch q⟩
    · rw [q]; exact hi.obj
  keep := fun i h h' st k => ⟨st.1.imp fun old he => k e (by simp) _ he, st.2.at fun o q => k it (by simp) o q⟩
  item := by
    intro X hP hw hK hc i pins s σ H E I hf st hg
    subst hP hw hK
    obtain ⟨xs, x, hqx, hx⟩ := hg
    obtain ⟨its, rv, p⟩ := invK I hqx
    obtain ⟨u, hu, ru⟩ := rv.get hx
    have D := drawsK (prog := X.prog) (w := X.w) (A := X.A.in1) (I.ok.hd hc) k it a n1 its.toArray
    have l1 : i < its.length := (List.getElem?_eq_some_iff.mp hu).1
    have W := GoesN.enumFrom (elts := elts) (x1 := kk) (pos := tpos) 0 D e n2 (by simp [n2, n3]) (by simp)
    have st0 : (∃ old, IsEnum s.heap e it (0 + ((i : Nat) : Int)) old) ∧ ItK k s.heap it a i ∧ SeqK k s.heap a its.toArray := by
      rw [Int.zero_add]
      exact ⟨st.1, st.2, p⟩
    refine W.goes i s (fun v s2 => ∃ x H', Inv X pins σ H' s2 ∧ RelV x v ∧ (Iek X.K k a).yld i H x H' ∧ ((∃ old, IsEnum s2.heap e it ((i + 1 : Nat) : Int) old) ∧ ItK k s2.heap it a (i + 1)) ∧ ∀ b ∈ [e, it], H' b = none) E (by simpa using l1) st0 fun v h' tk hY st' hk htk => ?_
    obtain ⟨T, tk0, v1, rfl, hT, e1, hTu⟩ := hY
    have q1 : v1 = u := by
      have e1' : its[i]? = some v1 := by simpa using e1
      rw [hu] at e1'; exact (Option.some.inj e1').symm
    subst q1
    have new : ObjOk X.prog X.w (upd H T (.tup [.int (i : Nat), x])) h' T (.tup [.int (i : Nat), x]) :=
      ⟨by show 2 ≤ sizeLine; decide, [.int (0 + (i : Int)) tk0, v1], .cons ⟨tk0, by rw [Int.zero_add]⟩ (.cons ru .nil), hTu⟩
    have I1 : Inv X pins σ (upd H T (.tup [.int (i : Nat), x])) { s with heap := h', toks := tk } :=
      I.turnedNew (t' := tk) (ch := [e, it]) (fun c o hb q => hk c o hb q) hf hT new
    refine ⟨.ref T, _, I1, rfl, ⟨T, x, rfl, I.hok.fresh hT, rfl, fun l hl => by rw [injK I hl hqx]; exact hx⟩, ⟨by have z := st'.1; rw [Int.zero_add] at z; exact z, st'.2.1⟩, fun c hcm => ?_⟩
    have hlt : c < s.heap.objs.size := by
      obtain ⟨⟨old, he⟩, hi⟩ := st
      have e' : c = e ∨ c = it := by simpa using hcm
      rcases e' with q | q
      · rw [q]; exact Heap.lt_size he
      · rw [q]; obtain ⟨_, e1, _⟩ := hi.obj; exact Heap.lt_size e1
    rw [upd_ne (Nat.ne_of_lt (Nat.lt_of_lt_of_le hlt hT))]
    exact (hf c hcm).1
  done := by
    intro X hP hw hK hc i pins s σ H E I hf st hg
    subst hP hw hK
    obtain ⟨xs, hqx, hi⟩ := hg
    obtain ⟨its, rv, p⟩ := invK I hqx
    have D := drawsK (prog := X.prog) (w := X.w) (A := X.A.in1) (I.ok.hd hc) k it a n1 its.toArray
    have W := GoesN.enumFrom (elts := elts) (x1 := kk) (pos := tpos) 0 D e n2 (by simp [n2, n3]) (by simp)
    have en : its.toArray.size = i := by
      have := rv.length
      simp only [List.size_toArray]
      omega
    have st0 : (∃ old, IsEnum s.heap e it (0 + ((its.toArray.size : Nat) : Int)) old) ∧ ItK k s.heap it a its.toArray.size ∧ SeqK k s.heap a its.toArray := by
      rw [en, Int.zero_add]
      exact ⟨st.1, st.2, p⟩
    refine W.stops s (fun s1 => Inv X pins σ H s1) E st0 fun h' tk hk htk => ?_
    exact I.turnedL (t' := tk) (ch := [e, it]) (fun c o hb q => hk c o (fun hm => hb (by simpa using hm)) q) hf
  self := fun A i s Q E st h => let ⟨⟨_, he⟩, _⟩ := st; wpAny_pyIter_enum he h
def YEn (xs : List V) : Nat → Hp → V → Hp → Prop := fun i H v H' => ∃ T x, v = .ref T ∧ H T = none ∧ H' = upd H T (.tup [.int (i : Nat), x]) ∧ xs[i]? = some x
theorem YEn.same {xs : List V} {i : Nat} {x : V} {H H' : Hp} (h : YEn xs i H x H') : Same H H' := by
  obtain ⟨T, y, _, hT, rfl, _⟩ := h
  exact Same.new hT
theorem walk_en {K : PySem.W.Frag} {k : Bool} {a : Addr} {xs : List V} : Walk (Iek K k a) xs.length (fun H => Sqh k H a xs) (YEn xs) := by
  refine ⟨fun i _ hi q => ⟨xs, xs[i], q.sqk, List.getElem?_eq_getElem hi⟩, fun _ q => ⟨xs, q.sqk, rfl⟩, fun i H v H' _ q y => ?_⟩
  obtain ⟨T, x, h1, h2, h3, h4⟩ := y
  exact ⟨T, x, h1, h2, h3, h4 xs q.sqk⟩
def iEnH (ta : TA) : TI := fun σ H R => ta σ H fun vs H1 => ∃ a, vs = [.ref a] ∧ ∃ (k : Bool) (xs : List V), Sqh k H1 a xs ∧ ∀ J : It, Walk J xs.length (fun H => Sqh k H a xs) (YEn xs) → R J H1
theorem pi_enH {X : Cx} {e : Expr} {ta : TA} {p pos tpos : Pos} {elts : List Expr} {kk : Nat} (hg : Gl X "enumerate") (hm : X.mg "enumerate" = none) (ha : PA X [e] ta) (hs : starEach [e] X.env = [(false, eval e X.env)] := by rfl) :
    PI X (.Tuple elts kk tpos) (.Call (.Name "enumerate" p) [e] [] pos) (iEnH ta) := by
  refine ⟨fun pins s σ H R I h => ?_⟩
  refine Call_ (ld_blt I hg hm boot_enumerate (PyProof.Rows.callWith_type1 (thn (ha.run pos pins s σ H _ I h) fun us s1 ⟨vs, H1, I1, r1, q1⟩ => ?_) hs rfl))
  obtain ⟨a, ex, k, xs, hq, q⟩ := q1
  subst ex
  have q := q (Iek X.K k a) walk_en
  cases r1 with
  | cons r rr =>
    cases rr
    cases r
    obtain ⟨its, rv, p'⟩ := invK I1 (hq.sqk (K := X.K))
    have la : a < s1.heap.objs.size := p'.lt
    refine enum1_begins (begK k a its.toArray) p' fun h' he hit hk => wpAny_pyIter_enum he ?_
    have I2 : Inv X pins σ H1 { s1 with heap := h' } := I1.kept (t' := s1.toks) hk
    refine ⟨s1.heap.objs.size + 1, [s1.heap.objs.size + 1, s1.heap.objs.size], _, _, H1, rfl, I2, turn_ek (k := k) (a := a) (Nat.ne_of_lt la) (Nat.succ_ne_self _) (Nat.ne_of_gt (Nat.lt_succ_of_lt la)), ⟨⟨.none, he⟩, ItK.new hit⟩, fun b hb => ?_, q⟩
    have e' : b = s1.heap.objs.size + 1 ∨ b = s1.heap.objs.size := by simpa using hb
    have hle : s1.heap.objs.size ≤ b := by
      rcases e' with z | z
      · rw [z]; exact Nat.le_add_right _ _
      · rw [z]; exact Nat.le_refl _
    exact I1.fpOk hle (I1.hok.fresh hle)
end Cs

namespace Cs
open PySem PySem.Spec PyProof.Rows L2
/-! ### readings that name the frame, for use within comprehensions -/
section
variable {X : Cx} {K : PySem.W.Frag}
theorem op_eqDK (h : X.K = K) (hu : X.A.units + 64 < cLine) : OpR X (compareOp .Eq) (rEqD K) := by subst h; exact op_eqD hu
theorem op_neDK (h : X.K = K) (hu : X.A.units + 64 < cLine) : OpR X (compareOp .NotEq) (rNeD K) := by subst h; exact op_neD hu
theorem op_inDK (h : X.K = K) (hu : X.A.units + 65 < cLine) : OpR X (compareOp .In) (rInD K) := by subst h; exact op_inD hu
theorem op_notInDK (h : X.K = K) (hu : X.A.units + 65 < cLine) : OpR X (compareOp .NotIn) (rNotInD K) := by subst h; exact op_notInD hu
theorem sl_listK (h : X.K = K) : SlR X (rSlL K) := by subst h; exact sl_list
theorem op_repAK (h : X.K = K) : OpR X (binaryOp .Mult) (rRepA K) := by subst h; exact op_repA
/-- xs[::-1] of a list -/
theorem pe_revLK (h : X.K = K) {e : Expr} {te : TE} {k : Nat} {p1 p2 p3 pos : Pos} (he : PE X e te) : PE X (.Subscript e (.Slice none none (some (.UnaryOp .USub (.Constant (.int 1) k p1) p2)) p3) pos) (tRevL K te) := by subst h; exact pe_revL he
end
end Cs

namespace Cs
open PySem PySem.Spec PyProof.Rows L2
/-! ### flat data -/
def dOf : V → PyData
  | .bl b => .bool b
  | .int i => .int i
  | .str x => .str x
  | _ => .none
def Flat0 : V → Prop
  | .non => True
  | .bl _ => True
  | .int _ => True
  | .str x => PyData.canLay0 (.str x) = true
  | _ => False
theorem dp_one {K : PySem.W.Frag} {H : Hp} : ∀ {v : V}, Flat0 v → Dp K H v (dOf v)
  | .non, _ => .non
  | .bl b, _ => .bl b
  | .int i, _ => .int i
  | .str x, _ => .str x
theorem dp_flat {K : PySem.W.Frag} {H : Hp} : ∀ {xs : List V}, (∀ v ∈ xs, Flat0 v) → DpAll K H xs (xs.map dOf)
  | [], _ => .nil
  | x :: xs, h => .cons (dp_one (h x (List.mem_cons_self ..))) (dp_flat fun v hv => h v (List.mem_cons_of_mem _ hv))
theorem lay_one {v : V} (h : Flat0 v) : PyData.canLay0 (dOf v) = true := by
  cases v with
  | str x => exact h
  | _ => rfl
theorem depth_one (v : V) : PyData.depth (dOf v) = 0 := by cases v <;> rfl
theorem lay_flat : ∀ {xs : List V}, (∀ v ∈ xs, Flat0 v) → PyData.canLayAll0 (xs.map dOf) = true
  | [], _ => rfl
  | v :: xs, h => by
    show (PyData.canLay0 (dOf v) && PyData.canLayAll0 (xs.map dOf)) = true
    rw [lay_one (h v (List.mem_cons_self ..)), lay_flat fun u hu => h u (List.mem_cons_of_mem _ hu)]
    rfl
theorem depth_flat : ∀ xs : List V, PyData.depthAll (xs.map dOf) = 0
  | [] => rfl
  | v :: xs => by
    show max (PyData.depth (dOf v)) (PyData.depthAll (xs.map dOf)) = 0
    rw [depth_one, depth_flat xs]
    rfl
theorem shaped_flat {xs : List V} (h : ∀ v ∈ xs, Flat0 v) : SeqAt.shaped (.list (xs.map dOf)) = true := by
  have h1 : PyData.canLay0 (.list (xs.map dOf)) = true := lay_flat h
  have h2 : PyData.depth (.list (xs.map dOf)) ≤ 64 := by
    show PyData.depthAll (xs.map dOf) + 1 ≤ 64
    rw [depth_flat]
    decide
  unfold SeqAt.shaped
  rw [h1, decide_eq_true h2]
  rfl
/-- xs != ys, two lists of the same flat things -/
theorem neD_flat {K : PySem.W.Frag} {H : Hp} {a b : Addr} {xs : List V} {Q : VK} (h1 : H a = some (.lst xs)) (h2 : H b = some (.lst xs)) (hf : ∀ v ∈ xs, Flat0 v) (q : Q (.bl false) H) : rNeD K (.ref a) (.ref b) H Q := by
  refine ⟨_, _, .lst (.inl (.inl h1)) (dp_flat hf), .lst (.inl (.inl h2)) (dp_flat hf), shaped_flat hf, shaped_flat hf, ?_⟩
  have e : PyData.eqv (.list (xs.map dOf)) (.list (xs.map dOf)) = true := SeqAt.eqv_refl _ (lay_flat hf)
  rw [e]
  exact q
theorem eqD_flat {K : PySem.W.Frag} {H : Hp} {a b : Addr} {xs : List V} {Q : VK} (h1 : H a = some (.lst xs)) (h2 : H b = some (.lst xs)) (hf : ∀ v ∈ xs, Flat0 v) (q : Q (.bl true) H) : rEqD K (.ref a) (.ref b) H Q := by
  refine ⟨_, _, .lst (.inl (.inl h1)) (dp_flat hf), .lst (.inl (.inl h2)) (dp_flat hf), shaped_flat hf, shaped_flat hf, ?_⟩
  have e : PyData.eqv (.list (xs.map dOf)) (.list (xs.map dOf)) = true := SeqAt.eqv_refl _ (lay_flat hf)
  rw [e]
  exact q
/-! ### t[::-1] of a tuple -/
section
variable {P : Program} {w : World} {A : Around} {E : Value → Shared → Prop} {s : Shared}
theorem back_adjust (n : Nat) : Builtin.Slice.sliceAdjust none none (-1) (n : Int) = ((n : Int) - 1, -1) := by
  have neg1 : ((-1 : Int) < 0) := by decide
  unfold Builtin.Slice.sliceAdjust
  simp only [neg1, if_true]
theorem back_places (n : Nat) : Builtin.Slice.slicePlaces ((n : Int) - 1) (-1) (-1) = n := by
  unfold Builtin.Slice.slicePlaces
  by_cases h : n = 0
  · subst h; decide
  · have e : ¬ ((-1 : Int) > 0) := by decide
    simp only [e, if_false, Int.neg_neg, Int.ediv_one]
    split <;> omega
theorem filterMap_cong {α β : Type} {f g : α → Option β} : ∀ {l : List α}, (∀ x ∈ l, f x = g x) → l.filterMap f = l.filterMap g
  | [], _ => rfl
  | x :: l, h => by
    rw [List.filterMap_cons, List.filterMap_cons, h x (List.mem_cons_self ..), filterMap_cong fun y hy => h y (List.mem_cons_of_mem _ hy)]
theorem back_pick (xs : Array Value) : ((List.range xs.size).filterMap fun (k : Nat) => xs[((xs.size : Int) - 1 + (k : Int) * (-1)).toNat]?).toArray = xs.toList.reverse.toArray := by
  have e : ((List.range xs.size).filterMap fun (k : Nat) => xs[((xs.size : Int) - 1 + (k : Int) * (-1)).toNat]?) = ((List.range xs.size).map fun k => xs.size - 1 - k).filterMap (xs[·]?) := by
    rw [List.filterMap_map]
    refine filterMap_cong fun k hk => ?_
    have hk := List.mem_range.mp hk
    show xs[((xs.size : Int) - 1 + (k : Int) * (-1)).toNat]? = xs[xs.size - 1 - k]?
    congr 1
    omega
  rw [e, PySem.W.krv_range, List.filterMap_reverse, PySem.W.krv_all]
theorem back_parts {sl : Addr} {vs : Value} {n : Nat} {Q : Int × Int × Nat → Shared → Prop} (hs : s.heap.IsSliceOf sl .none .none vs) (pt : IsPart vs (some (-1)))
    (q : Q ((n : Int) - 1, -1, n) s) : wpAny (model P w) A (Builtin.Slice.sliceApplied (.ref sl) (pure (n : Int))) Q E s := by
  obtain ⟨ob, g1, _, g3⟩ := id hs
  unfold Builtin.Slice.sliceApplied Builtin.Slice.sliceFields
  refine wpAny_bind (wpAny_bind ?_)
  refine wpAny_field g1 g3 (x := .none) rfl (wpAny_bind ?_)
  refine wpAny_field g1 g3 (x := .none) rfl (wpAny_bind ?_)
  refine wpAny_field g1 g3 (x := vs) rfl (wpAny_pure ?_)
  refine wpAny_bind (HT.slicePart_ pt ?_)
  show wpAny _ _ (if ((-1 : Int) == 0) = true then _ else _) _ _ s
  rw [if_neg (show ¬ ((-1 : Int) == 0) = true by decide)]
  refine wpAny_bind (HT.slicePart_ .none (wpAny_bind (HT.slicePart_ .none ?_)))
  refine wpAny_bind (wpAny_pure ?_)
  show wpAny _ _ (match Builtin.Slice.sliceAdjust none none (-1) (n : Int) with | (x, y) => pure (x, (-1 : Int), Builtin.Slice.slicePlaces x y (-1))) _ _ s
  rw [back_adjust]
  show wpAny _ _ (pure ((n : Int) - 1, (-1 : Int), Builtin.Slice.slicePlaces ((n : Int) - 1) (-1) (-1))) _ _ s
  rw [back_places]
  exact wpAny_pure q
theorem back_tuple {t sl : Addr} {xs : Array Value} {vs : Value} {Q : Value → Shared → Prop} (ht : IsTup s.heap t xs) (hs : s.heap.IsSliceOf sl .none .none vs) (pt : IsPart vs (some (-1))) (hz : xs.size ≤ sizeLine)
    (q : Q (.ref s.heap.objs.size) { s with heap := s.heap.push { cls := .type "tuple", data := .seq xs.toList.reverse.toArray } }) : wpAny (model P w) A (getItem (.ref t) (.ref sl)) Q E s := by
  have fits : sizeOk (.seq xs.toList.reverse.toArray) := by
    show xs.toList.reverse.toArray.size ≤ sizeLine
    simpa using hz
  obtain ⟨ob, g1, g2, _⟩ := id hs
  have isSl : s.TypeIs (.ref sl) "slice" := ⟨ob, g1, g2⟩
  unfold getItem
  try with_reducible refine wpAny_holding ?_
  first | refine wpAny_bind (wpAny_pure ?_) | skip
  refine wpAny_bind (wpAny_sequenceKey ht.typeIs (by decide) ?_)
  refine wpAny_bind (wpAny_callSpecial?_slot (name := Str.ofString "__getitem__") ht.typeIs PyProof.Rows.slot_tuple_getitem (wpAny_call_entry PyProof.Rows.slot_tuple_getitem ht.typeIs entry_tuple_getitem ?_ (args_tuple_getitem _ _)))
  show wpAny _ _ (Builtin.Tuple.tupleItemsOf (.ref t) >>= _) _ _ s
  refine wpAny_bind (tupleItemsOf_ ht (wpAny_bind (wpAny_typeOf isSl ?_)))
  rw [if_pos (show (Value.type "slice" == Value.type "slice") = true by decide)]
  refine wpAny_bind (back_parts hs pt ?_)
  show wpAny _ _ (if (((xs.size : Int) - 1) == 0 && (-1 : Int) == 1 && xs.size == xs.size) = true then _ else _) _ _ s
  have no : ¬ ((((xs.size : Int) - 1) == 0 && (-1 : Int) == 1 && xs.size == xs.size) = true) := by
    rw [show ((-1 : Int) == 1) = false by decide, Bool.and_false, Bool.false_and]
    decide
  rw [if_neg no, back_pick]
  first
    | exact wpAny_bind (m := Builtin.Tuple.tupleExact _) (wpAny_newObj_type (wpAny_pure ⟨_, rfl, wpAny_pure q⟩) fits)
    | exact wpAny_bind (m := Builtin.Tuple.tupleExact _) (wpAny_newObj_type (wpAny_bind (wpAny_pure (wpAny_pure ⟨_, rfl, wpAny_pure q⟩))) fits)
    | exact wpAny_bind (wpAny_bind (m := Builtin.Tuple.tupleExact _) (wpAny_newObj_type (wpAny_pure (wpAny_pure ⟨_, rfl, wpAny_pure q⟩)) fits))
    | exact wpAny_bind (wpAny_bind (m := Builtin.Tuple.tupleExact _) (wpAny_newObj_type (wpAny_pure ⟨_, rfl, wpAny_pure q⟩) fits))
end
theorem op_catTK {X : Cx} {K : PySem.W.Frag} (h : X.K = K) : OpR X (binaryOp .Add) (rCatT K) := by subst h; exact op_catT
/-- t[::-1] of a tuple -/
def tRevT (K : PySem.W.Frag) (te : TE) : TE := fun σ H Q => te σ H fun x H1 => ∃ a, x = .ref a ∧ ∃ xs, H1 a = some (.tup xs) ∧ ∀ p, H1 p = none → Q (.ref p) (upd H1 p (.tup xs.reverse))
theorem pe_revT {X : Cx} {K : PySem.W.Frag} (hK : X.K = K) {e : Expr} {te : TE} {k : Nat} {p1 p2 p3 pos : Pos} (he : PE X e te) : PE X (.Subscript e (.Slice none none (some (.UnaryOp .USub (.Constant (.int 1) k p1) p2)) p3) pos) (tRevT K te) := by
  subst hK
  refine ⟨fun pins s0 σ H Q I h => Subscript_ (thn (he.run pins s0 σ H _ I h) fun v s x => ?_)⟩
  obtain ⟨_, H1, I1, r1, a, rfl, xs, hx, q⟩ := x
  cases r1
  have minus : PO X (some (.UnaryOp .USub (.Constant (.int 1) k p1) p2)) (tPart (tUn (rU fun i => .int (-i)) (tC (.int 1)))) := po_some (pe_un un_neg pe_int)
  refine wpAny_Slice (thn (po_none.run pins s σ H1 (fun o G => o = none ∧ G = H1) I1 ⟨rfl, rfl⟩) fun l1 s1 x => ?_)
  obtain ⟨_, _, I2, pl, rfl, rfl⟩ := x
  refine thn (po_none.run pins s1 σ _ (fun o G => o = none ∧ G = _) I2 ⟨rfl, rfl⟩) fun l2 s2 x => ?_
  obtain ⟨_, _, I3, pu, rfl, rfl⟩ := x
  refine thn (minus.run pins s2 σ _ (fun o G => o = some (-1) ∧ G = _) I3 ⟨1, rfl, -1, rfl, rfl, rfl⟩) fun l3 s3 x => ?_
  obtain ⟨_, H4, I4, pt, rfl, rfl⟩ := x
  cases pl
  cases pu
  generalize hs4 : ({ s3 with heap := s3.heap.push { cls := .type "slice", data := .fields #[.none, .none, l3] } } : Shared) = s4
  have I5 : Inv X pins σ H4 s4 := by
    rw [← hs4]
    exact I4.kept (t' := s3.toks) fun b ob y => Heap.get?_push_of_some _ y
  have isl : s4.heap.IsSliceOf s3.heap.objs.size .none .none l3 := by
    rw [← hs4]
    exact Heap.IsSliceOf.new s3.heap .none .none l3
  obtain ⟨its, r, ht, hz⟩ := I5.tuple (.inl (.inl hx))
  have hlen := r.length
  refine tail_any (ops := [.ref a, .ref s3.heap.objs.size]) ht.typeIs PyProof.Rows.slot_tuple_getitem.lookup ?_ (by with_unfolding_all rfl)
  refine back_tuple ht isl pt (by rw [List.size_toArray]; omega) ?_
  refine ⟨.ref s4.heap.objs.size, _, I5.laid (t' := s4.toks) (o := .tup xs.reverse) (fun b ob y => Heap.get?_push_of_some _ y) (Nat.le_refl _) ?_, rfl, q _ (I5.hok.fresh (Nat.le_refl _))⟩
  exact ⟨by rw [List.length_reverse]; exact hz, _, r.reverse, IsTup.new _ _⟩
end Cs

namespace Cs
open PySem PySem.Spec PyProof.Rows L2
/-! ### f(k = e, ..), no argument by its place -/
section
variable {X : Cx} {CX : CXT} {k : Nat} {f : Addr} {fd : FuncData} {ps ks : List Str} {sp : Sp} {E : XK} {x : Str} {p pos : Pos} {kws : List Keyword} {tk : TA} {g : List Value → List Value → List Value} {gV : List V → List V → List V}
def tCallK0 (j : Nat) (sp : Sp) (gV : List V → List V → List V) (E : XK) (tk : TA) : TE := fun σ H Q => tk σ H fun zs H1 => zs.length = j ∧ sp (gV [] zs) H1 Q E
theorem pe_callK0 (F : FnOk X.prog X.w X.K X.mg X.base CX k f fd ps sp) (hr : Room k X.A) (hg : Gl X x) (hm : X.mg x = some (.ref f)) (hk : PySem.W.keepIn X.K (.ref f) = true) (hb : KBn X.K fd ps 0 ks g gV) (hx : Passes CX X E) (hkw : PK X kws tk)
    (hall : (backToKw pos (keywordEach kws X.env)).all (·.1.isSome) = true := by rfl) (hks : (backToKw pos (keywordEach kws X.env)).filterMap (·.1) = ks := by rfl) (hdb : (x == ("__debug__" : Str)) = false := by decide)
    (hpl : ((backTo pos (starEach [] X.env)).any (·.1) || (backToKw pos (keywordEach kws X.env)).any (·.1.isNone)) = false := by rfl) : PE X (.Call (.Name x p) [] kws pos) (tCallK0 ks.length sp gV E tk) := by
  refine ⟨fun pins s σ H Q I h => wpAny_Call_Name_kw (ld_glob I hg hm ?_ hdb)⟩
  refine PySem.W.callWith_KW0 (h₀ := X.base) (first := []) I.ok.mod.kin hk hall ?_ hpl
  refine thn (hkw.run pos pins s σ H _ I h) fun ws s2 ⟨zs, H2, I2, rz, l2, q2⟩ => ⟨I2.kIn, ?_⟩
  rw [hks]
  exact run_fnN (us := []) (vs := []) F hr hb hx I2 .nil rz rfl l2 q2
end
end Cs

/-! Ck: l.extend(list); tuple + tuple of any length with K fixed. -/
namespace Cs
open PySem PySem.Spec PyProof.Rows L2
theorem op_catAK {X : Cx} {K : PySem.W.Frag} (h : X.K = K) : OpR X (binaryOp .Add) (rCatA K) := by subst h; exact op_catA
section
variable {X : Cx}
/-- l.extend(e), e a list -/
def tExtend (to : TE) (t : TA) : TE := fun σ H Q => to σ H fun x H1 => ∃ p, x = .ref p ∧ ∃ xs, H1 p = some (.lst xs) ∧ t σ H1 fun vs H2 => ∃ b, vs = [.ref b] ∧ ∃ ys zs, H2 p = some (.lst ys) ∧ H2 b = some (.lst zs) ∧ ys.length + zs.length ≤ sizeLine ∧ Q .non (upd H2 p (.lst (ys ++ zs)))
theorem pe_extendL {o e : Expr} {to : TE} {t : TA} {apos cpos : Pos} (ho : PE X o to) (ha : PA X [e] t)
    (hbase : attributeBase o "extend" X.env (eval o X.env) = eval o X.env := by rfl)
    (hfew : ((backTo cpos (starEach [e] X.env)).all (fun x => !x.1) && (backToKw cpos (keywordEach [] X.env)).all (fun x => x.1.isSome)
      && decide (([e] : List Expr).length + ([] : List Keyword).length + (if ([] : List Keyword).isEmpty then 0 else 1) < 30)) = true := by rfl)
    (hline : (apos.endLine == cpos.line) = true := by rfl) (hs : starEach [e] X.env = (false, eval e X.env) :: starEach [] X.env := by rfl) :
    PE X (.Call (.Attribute o "extend" apos) [e] [] cpos) (tExtend to t) := by
  refine ⟨fun pins s σ H Q I h => ?_⟩
  refine wpAny_Call_method_late hbase hfew hline rfl (thn (ho.run pins s σ H _ I h) fun v s1 ⟨x, H1, I1, r1, p, ex, xs, hp, q1⟩ => ?_)
  subst ex
  have ty : tyV X.K "list" (.ref p) H1 := .inl ⟨rfl, xs, .inl (.inl hp)⟩
  obtain ⟨h1, h2⟩ := tyV_is I1 r1 ty
  refine ⟨"list", _, PySem.F.plainAttrs_list, PySem.F.slot_list_extend, PySem.F.type_list_extend, h1, h2, ?_⟩
  have hA := ha.run cpos pins s1 σ H1 _ I1 q1
  rw [hs] at hA ⊢
  refine Calls.callWith_builtin (by rfl) (Calls.evalArgs_plain ?_)
  refine thn hA fun us s2 ⟨vs, H2, I2, r2, b, e2, ys, zs, hp2, hb, hz, q2⟩ => ?_
  exact mt_extend pins s2 σ H2 (.ref p) vs v us Q I2 r1 r2 ⟨p, b, ys, zs, rfl, e2, hp2, hb, hz, q2⟩
end
end Cs

namespace Cs
open PySem PySem.Spec PyProof.Rows L2
/-! ### set(xs) of a list of ints -/
section
variable {P : Program} {w : World} {A : Around} {E : Value → Shared → Prop} {s : Shared}
abbrev bareSet (w : World) : Obj := { cls := .type "set", dict := none, data := .set #[] 0 (.fresh 0 0 (!w.params.followText "set-order")) }
/-- the heap with a new set -/
abbrev withSet (w : World) (h : Heap) : Heap := h.push (bareSet w)
/-- what stood still stands; the set at n holds what ns holds -/
def Filled (w : World) (s : Shared) (ns : List Int) (s2 : Shared) : Prop := ∃ h' tk c, s2 = { s with heap := h', toks := tk } ∧ SetR w h' s.heap.objs.size (fun j => decide (j ∈ ns)) c ∧ c ≤ ns.length ∧ ∀ b o, s.heap.get? b = some o → h'.get? b = some o
theorem call_setL {l : Addr} {items : Array Value} {ns : List Int} {Q : Value → Shared → Prop} (calm : A.handled = none) (hl : s.heap.IsList l items) (vals : IntsAre items.toList ns) (few : ns.length + 1 < scanBound)
    (q : ∀ s2, Filled w s ns s2 → Q (.ref s.heap.objs.size) s2) : wpAny (model P w) A (call (.type "set") [.ref l]) Q E s := by
  have count : items.size = ns.length := by have e := IntsAre.length vals; rwa [Array.length_toList] at e
  obtain ⟨_, _, hmro⟩ := F.called_set.mro
  have hmade := F.called_set.made; have hsub := F.called_set.sub
  refine wpAny_call (codeAny_of_tree (show wpAny _ _ (callAny (.type "set") _) _ _ _ from ?_))
  refine wpAny_pure ⟨Code.quiet_builtin _ (show _ by decide +kernel), codeAny_builtin F.entry_type_call ?_⟩
  rw [Around.under_plain (weight_type_call_type "set" [Value.ref l] []) rfl]
  have u1 := F.called_set.notType; have u2 := F.called_set.canCreate; have u3 := F.typeCall_set_1 (.ref l)
  repeat (any_goals (first | assumption | wp_step))
  refine codeAny_mono (code_set_led1 (.ref l) (E := E) (Q₁ := fun x s1 => x = .ref s.heap.objs.size ∧ s1 = { s with heap := withSet w s.heap }) ⟨rfl, rfl⟩) fun r s1 hr => ?_
  match r, hr with
  | .error e, hr => exact hr
  | .ok (.ret x), hr =>
    obtain ⟨rfl, rfl⟩ := hr
    have fS : (withSet w s.heap).get? s.heap.objs.size = some (bareSet w) := Heap.get?_push_size _ rfl
    have tS : Shared.TypeIs { s with heap := withSet w s.heap } (.ref s.heap.objs.size) "set" := ⟨_, fS, rfl⟩
    have u4 := F.called_set.init.lookup; have u5 := F.called_set.init.bind (.ref s.heap.objs.size)
    repeat (any_goals (first | assumption | wp_step))
    refine codeAny_mono (codeAny_call_builtin (R := wants (fun r s2 => r = .none ∧ Filled w s ns s2) E) F.called_set.init.plain F.entry_set_init (check_set_init_1 tS ?_)) fun r s2 hr => ?_
    · obtain ⟨⟨cl, dc, dt, sl⟩, fl, e1, nl, e2⟩ := hl
      simp only at e1 e2
      subst e1 e2
      have fl2 : (withSet w s.heap).get? l = some { cls := .type "list", dict := dc, data := .seq items nl, slots := sl } := Heap.get?_push_of_some _ fl
      have v1 := F.sub_list_set; have v2 := F.sub_list_frozenset; have v3 : (Value.type "list" == Value.type "dict") = false := by decide
      have isl : (withSet w s.heap).IsList l items := ⟨_, fl2, rfl, nl, rfl⟩
      unfold Builtin.«set.__init__» noKeywords Builtin.Frozenset.updateFrom
      generalize hPI : pyIter = PI
      wp_walk
      subst hPI
      refine wpAny_pyIter_list isl (wpAny_bind (wpAny_runValue ?_))
      have lt := Heap.lt_size fl
      have size1 : (withSet w s.heap).objs.size = s.heap.objs.size + 1 := Heap.size_push ..
      have nI : l ≠ (withSet w s.heap).objs.size := by rw [size1]; exact Nat.ne_of_lt (Nat.lt_succ_of_lt lt)
      have nS : s.heap.objs.size ∉ [(withSet w s.heap).objs.size, l] := by
        rw [size1]
        intro hm
        rcases List.mem_cons.mp hm with e | hm
        · exact Nat.ne_of_lt (Nat.lt_succ_self _) e
        · exact Nat.ne_of_gt lt (List.mem_singleton.mp hm)
      have read : ∀ (i : Nat) (v : Value), items[i]? = some v → ∃ k t, ns[i]? = some k ∧ v = .int k t := by
        intro i v hv
        have hi := (Array.getElem?_eq_some_iff.mp hv).1
        rw [count] at hi
        obtain ⟨t, e⟩ := PyProof.Rows.IntsAre.int_at vals i v (by rw [Array.getElem?_toList]; exact hv)
        exact ⟨ns[i], t, List.getElem?_eq_getElem hi, by rw [e, List.getD_eq_getElem?_getD, List.getElem?_eq_getElem hi] <;> rfl⟩
      refine set_update_ints ((Walks.list (by simp [calm]) _ l nI items).toS) s.heap.objs.size nS ns count few read (items.size - 0) 0 _ (by omega) (Nat.zero_le _) ⟨⟨_, Heap.get?_push_size _ rfl, rfl, rfl⟩, isl.push _⟩ ?start ?last
      case start =>
        exact ⟨0, Nat.le_refl 0, setR_new_at (Heap.get?_push_of_some _ fS)⟩
      case last =>
        rintro ⟨h2, g2, d2, t2, o2⟩ c mv few2 full
        obtain rfl : g2 = s.gens := mv.gens
        obtain rfl : d2 = s.drawn := mv.drawn
        obtain rfl : o2 = s.os := mv.os
        show wpAny _ _ _ _ _ _
        refine wpAny_pure (show wpAny _ _ (ret Value.none) _ _ _ from ?_)
        refine wpAny_pure ⟨rfl, h2, t2, c, rfl, full, by rw [← count]; exact few2, fun b o e => ?_⟩
        have lb := Heap.lt_size e
        refine mv.heap b o (fun hm => ?_) (Heap.get?_push_of_some _ (Heap.get?_push_of_some _ e))
        rcases List.mem_cons.mp hm with e | hm
        · exact Nat.ne_of_lt lb e
        · have e := List.mem_singleton.mp hm
          rw [size1] at e
          exact Nat.ne_of_lt (Nat.lt_succ_of_lt lb) e
    · match r, hr with
      | .error e, hr => exact hr
      | .ok (.ret x), hr =>
        obtain ⟨rfl, fil⟩ := hr
        have Qe := q s2 fil
        obtain ⟨h2, t2, c2, rfl, f1, f2, f3⟩ := id fil
        repeat (any_goals (first | assumption | wp_step))
      | .ok .next, hr => exact hr.elim
      | .ok .brk, hr => exact hr.elim
      | .ok .cont, hr => exact hr.elim
  | .ok .next, hr => exact hr.elim
  | .ok .brk, hr => exact hr.elim
  | .ok .cont, hr => exact hr.elim
end
/-- set(xs) of a list of ints -/
def rSetLI (w : World) : List V → Hp → VK → Prop := fun vs H Q => ∃ l : Addr, vs = [.ref l] ∧ ∃ ns : List Int, H l = some (.lst (ns.map V.int)) ∧ ns.length ≤ 1000 ∧ ∀ p c, H p = none → c ≤ ns.length → Q (.ref p) (upd H p (SetO w p (fun j => decide (j ∈ ns)) c))
theorem cr_setLI {X : Cx} (hc : X.calm = true) : CallR X (.type "set") (rSetLI X.w) := by
  intro pins s σ H vs us Q I r h
  obtain ⟨l, rfl, ns, hl, few, q⟩ := h
  rw [Vals.ref1 r]
  obtain ⟨its, r2, ht, hz⟩ := I.list (.inl (.inl hl))
  refine call_setL (I.ok.hd hc) ht.isList (intsAre_of r2) (Nat.lt_of_le_of_lt (Nat.succ_le_succ few) (by decide)) fun s2 fil => ?_
  obtain ⟨h2, t2, c, rfl, f1, f2, f3⟩ := fil
  exact ⟨.ref _, _, I.laid (t' := t2) f3 (Nat.le_refl _) (setO_new f1), rfl, q _ c (I.hok.fresh (Nat.le_refl _)) f2⟩
/-- sorted(set) -/
def rSortLI (w : World) : List V → Hp → VK → Prop := fun vs H Q => ∃ (a : Addr) (S : Int → Bool) (n : Nat), vs = [V.ref a] ∧ H a = some (SetO w a S n) ∧ n < 64 ∧ ∀ (ns : List Int) (p : Addr), ns.Pairwise (· < ·) → (∀ k : Int, k ∈ ns ↔ S k = true) → ns.length = n → H p = none → Q (.ref p) (upd H p (.lst (ns.map V.int)))
theorem cr_sortLI {X : Cx} (hc : X.calm = true) : CallR X (.builtin "sorted") (rSortLI X.w) := cr_sortedSet hc
end Cs

/-! Cl: l.clear(), l.reverse(), l.pop(); set(xs) of a list or a tuple of tuples of ints. -/
namespace Cs
open PySem PySem.Spec PyProof.Rows L2
section
variable {X : Cx}
/-- o.name(), o a list -/
theorem list0_run {name : Str} {id : String} {r : V → List V → Hp → VK → Prop} {o : Expr} {to : TE} {apos cpos : Pos} (slot : Slot "list" name id) (hty : typeOf (.builtin id) = pure (.type "method_descriptor")) (hm : MtR X id r) (ho : PE X o to)
    (hbase : attributeBase o name X.env (eval o X.env) = eval o X.env) (hline : (apos.endLine == cpos.line) = true) :
    PE X (.Call (.Attribute o name apos) [] [] cpos) (fun σ H Q => to σ H fun x H1 => ∃ p, x = .ref p ∧ ∃ xs, H1 p = some (.lst xs) ∧ r (.ref p) [] H1 Q) := by
  refine ⟨fun pins s σ H Q I h => wpAny_Call_method0_late hbase hline (thn (ho.run pins s σ H _ I h) fun v s1 y => ?_)⟩
  obtain ⟨x, H1, I1, r1, p, rfl, xs, hp, q⟩ := y
  have ty : tyV X.K "list" (.ref p) H1 := .inl ⟨rfl, xs, .inl (.inl hp)⟩
  obtain ⟨g1, g2⟩ := tyV_is I1 r1 ty
  exact ⟨"list", id, PySem.F.plainAttrs_list, slot, hty, g1, g2, Calls.callWith_builtin rfl (PySem.evalArgs_none (hm pins s1 σ H1 (.ref p) [] v [] Q I1 r1 .nil q))⟩
theorem _root_.L2.PE.weak {e : Expr} {t t' : TE} (h : PE X e t) (m : ∀ σ H Q, t' σ H Q → t σ H Q) : PE X e t' := ⟨fun pins s σ H Q I q => h.run pins s σ H Q I (m σ H Q q)⟩
end
/-- readings of to are monotone in what is wanted -/
def MonT (to : TE) : Prop := ∀ σ H (Q Q' : VK), (∀ x H1, Q x H1 → Q' x H1) → to σ H Q → to σ H Q'
theorem mon_var (i : Nat) : MonT (tVar i) := fun σ H Q Q' m ⟨v, e, q⟩ => ⟨v, e, m _ _ q⟩
def tClear (to : TE) : TE := fun σ H Q => to σ H fun x H1 => ∃ p, x = .ref p ∧ ∃ xs, H1 p = some (.lst xs) ∧ Q .non (upd H1 p (.lst []))
def tRever (to : TE) : TE := fun σ H Q => to σ H fun x H1 => ∃ p, x = .ref p ∧ ∃ xs, H1 p = some (.lst xs) ∧ Q .non (upd H1 p (.lst xs.reverse))
def tPop0 (to : TE) : TE := fun σ H Q => to σ H fun x H1 => ∃ p, x = .ref p ∧ ∃ xs, H1 p = some (.lst xs) ∧ ∃ y, xs[xs.length - 1]? = some y ∧ Q y (upd H1 p (.lst xs.dropLast))
section
variable {X : Cx} {o : Expr} {to : TE} {apos cpos : Pos}
theorem pe_clearL (ho : PE X o to) (mo : MonT to) (hbase : attributeBase o "clear" X.env (eval o X.env) = eval o X.env := by rfl) (hline : (apos.endLine == cpos.line) = true := by rfl) : PE X (.Call (.Attribute o "clear" apos) [] [] cpos) (tClear to) :=
  (list0_run PySem.F.slot_list_clear PySem.F.type_list_clear mt_clear ho hbase hline).weak fun σ H Q h => mo σ H _ _ (fun x H1 ⟨p, e, xs, hp, q⟩ => ⟨p, e, xs, hp, p, xs, rfl, rfl, hp, q⟩) h
theorem pe_reverL (ho : PE X o to) (mo : MonT to) (hbase : attributeBase o "reverse" X.env (eval o X.env) = eval o X.env := by rfl) (hline : (apos.endLine == cpos.line) = true := by rfl) : PE X (.Call (.Attribute o "reverse" apos) [] [] cpos) (tRever to) :=
  (list0_run PySem.F.slot_list_reverse PySem.F.type_list_reverse mt_reverse ho hbase hline).weak fun σ H Q h => mo σ H _ _ (fun x H1 ⟨p, e, xs, hp, q⟩ => ⟨p, e, xs, hp, p, xs, rfl, rfl, hp, q⟩) h
theorem pe_popL (ho : PE X o to) (mo : MonT to) (hbase : attributeBase o "pop" X.env (eval o X.env) = eval o X.env := by rfl) (hline : (apos.endLine == cpos.line) = true := by rfl) : PE X (.Call (.Attribute o "pop" apos) [] [] cpos) (tPop0 to) :=
  (list0_run PySem.F.slot_list_pop PySem.F.type_list_pop mt_pop ho hbase hline).weak fun σ H Q h => mo σ H _ _ (fun x H1 ⟨p, e, xs, hp, y, hy, q⟩ => ⟨p, e, xs, hp, p, xs, y, rfl, rfl, hp, hy, q⟩) h
end
/-! ### set(xs), xs a tuple of tuples of ints -/
section
variable {P : Program} {w : World} {A : Around} {E : Value → Shared → Prop} {s : Shared}
/-- what stood still stands; the set at the new place holds what ks holds -/
def FilledT (P : Program) (w : World) (s : Shared) (ks : List (Addr × List Int)) (s2 : Shared) : Prop := ∃ h' tk L es ep t, s2 = { s with heap := h', toks := tk } ∧ SetTR P w h' s.heap.objs.size L es ep t ∧ Got ks ks.length L ∧ ∀ b o, s.heap.get? b = some o → h'.get? b = some o
theorem call_setTT {l : Addr} {items : Array Value} {ks : List (Addr × List Int)} {Q : Value → Shared → Prop} (calm : A.handled = none) (hl : s.heap.IsTuple l items) (vals : items.toList = ks.map fun p => Value.ref p.1) (tups : ∀ p ∈ ks, IsT P w s.heap p.2 p.1) (few : ks.length < 64) (hu : A.units + 3 < cLine)
    (q : ∀ s2, FilledT P w s ks s2 → Q (.ref s.heap.objs.size) s2) : wpAny (model P w) A (call (.type "set") [.ref l]) Q E s := by
  have count : items.size = ks.length := by have e := congrArg List.length vals; rwa [Array.length_toList, List.length_map] at e
  obtain ⟨_, _, hmro⟩ := F.called_set.mro
  have hmade := F.called_set.made; have hsub := F.called_set.sub
  refine wpAny_call (codeAny_of_tree (show wpAny _ _ (callAny (.type "set") _) _ _ _ from ?_))
  refine wpAny_pure ⟨Code.quiet_builtin _ (show _ by decide +kernel), codeAny_builtin F.entry_type_call ?_⟩
  rw [Around.under_plain (weight_type_call_type "set" [Value.ref l] []) rfl]
  have u1 := F.called_set.notType; have u2 := F.called_set.canCreate; have u3 := F.typeCall_set_1 (.ref l)
  repeat (any_goals (first | assumption | wp_step))
  refine codeAny_mono (code_set_led1 (.ref l) (E := E) (Q₁ := fun x s1 => x = .ref s.heap.objs.size ∧ s1 = { s with heap := withSet w s.heap }) ⟨rfl, rfl⟩) fun r s1 hr => ?_
  match r, hr with
  | .error e, hr => exact hr
  | .ok (.ret x), hr =>
    obtain ⟨rfl, rfl⟩ := hr
    have fS : (withSet w s.heap).get? s.heap.objs.size = some (bareSet w) := Heap.get?_push_size _ rfl
    have tS : Shared.TypeIs { s with heap := withSet w s.heap } (.ref s.heap.objs.size) "set" := ⟨_, fS, rfl⟩
    have u4 := F.called_set.init.lookup; have u5 := F.called_set.init.bind (.ref s.heap.objs.size)
    repeat (any_goals (first | assumption | wp_step))
    refine codeAny_mono (codeAny_call_builtin (R := wants (fun r s2 => r = .none ∧ FilledT P w s ks s2) E) F.called_set.init.plain F.entry_set_init (check_set_init_1 tS ?_)) fun r s2 hr => ?_
    · obtain ⟨⟨cl, dc, dt, sl⟩, fl, e1, nl, e2⟩ := hl
      simp only at e1 e2
      subst e1 e2
      have fl2 : (withSet w s.heap).get? l = some { cls := .type "tuple", dict := dc, data := .seq items nl, slots := sl } := Heap.get?_push_of_some _ fl
      have v1 := F.sub_tuple_set; have v2 := F.sub_tuple_frozenset; have v3 : (Value.type "tuple" == Value.type "dict") = false := by decide
      have isl : (withSet w s.heap).IsTuple l items := ⟨_, fl2, rfl, nl, rfl⟩
      unfold Builtin.«set.__init__» noKeywords Builtin.Frozenset.updateFrom
      generalize hPI : pyIter = PI
      wp_walk
      subst hPI
      refine wpAny_pyIter_tuple isl (wpAny_bind (wpAny_runValue ?_))
      have lt := Heap.lt_size fl
      have size1 : (withSet w s.heap).objs.size = s.heap.objs.size + 1 := Heap.size_push ..
      have nI : l ≠ (withSet w s.heap).objs.size := by rw [size1]; exact Nat.ne_of_lt (Nat.lt_succ_of_lt lt)
      have nS : s.heap.objs.size ∉ [(withSet w s.heap).objs.size, l] := by
        rw [size1]
        intro hm
        rcases List.mem_cons.mp hm with e | hm
        · exact Nat.ne_of_lt (Nat.lt_succ_self _) e
        · exact Nat.ne_of_gt lt (List.mem_singleton.mp hm)
      have read : ∀ (i : Nat) (v : Value), items[i]? = some v → ∃ p, ks[i]? = some p ∧ v = .ref p.1 := by
        intro i v hv
        have e : items.toList[i]? = some v := by rw [Array.getElem?_toList]; exact hv
        rw [vals, List.getElem?_map, Option.map_eq_some_iff] at e
        obtain ⟨p, h1, h2⟩ := e
        exact ⟨p, h1, h2.symm⟩
      have nowhere : ∀ b, s.heap.objs.size ≤ b → s.heap.get? b = none := fun b hb => by
        cases e : s.heap.get? b with
        | none => rfl
        | some o => exact absurd (Heap.lt_size e) (Nat.not_lt.mpr hb)
      refine set_update_tups ((Walks.tuple (by simp [calm]) _ l nI items).toS) s.heap.objs.size nS ks count few read s.heap tups (nowhere _ (Nat.le_refl _)) (fun b hb => nowhere b (by rw [List.mem_singleton.mp hb, size1]; exact Nat.le_succ _)) hu
        (items.size - 0) 0 _ (by omega) (Nat.zero_le _) ⟨⟨_, Heap.get?_push_size _ rfl, rfl, rfl⟩, isl.push _⟩ (fun b o e => Heap.get?_push_of_some _ (Heap.get?_push_of_some _ e)) ?start ?last
      case start =>
        exact ⟨[], #[], 0, _, setTR_fresh (Heap.get?_push_of_some _ fS), Got.zero ks⟩
      case last =>
        rintro ⟨h2, g2, d2, t2, o2⟩ L es ep t mv full got kept
        obtain rfl : g2 = s.gens := mv.gens
        obtain rfl : d2 = s.drawn := mv.drawn
        obtain rfl : o2 = s.os := mv.os
        show wpAny _ _ _ _ _ _
        refine wpAny_pure (show wpAny _ _ (ret Value.none) _ _ _ from ?_)
        exact wpAny_pure ⟨rfl, h2, t2, L, es, ep, t, rfl, full, by rw [← count]; exact got, kept⟩
    · match r, hr with
      | .error e, hr => exact hr
      | .ok (.ret x), hr =>
        obtain ⟨rfl, fil⟩ := hr
        have Qe := q s2 fil
        obtain ⟨h2, t2, L, es, ep, t, rfl, f1, f2, f3⟩ := id fil
        repeat (any_goals (first | assumption | wp_step))
      | .ok .next, hr => exact hr.elim
      | .ok .brk, hr => exact hr.elim
      | .ok .cont, hr => exact hr.elim
  | .ok .next, hr => exact hr.elim
  | .ok .brk, hr => exact hr.elim
  | .ok .cont, hr => exact hr.elim
end
theorem zip_refs : ∀ {as : List Addr} {gs : List (List Int)}, as.length = gs.length → (as.zip gs).map (fun p => V.ref p.1) = as.map V.ref
  | [], [], _ => rfl
  | [], _ :: _, h => by simp at h
  | _ :: _, [], h => by simp at h
  | a :: as, g :: gs, h => by
    rw [List.zip_cons_cons, List.map_cons, List.map_cons, zip_refs (by simpa using h)]
theorem zip_at {H : Hp} {as : List Addr} {gs : List (List Int)} (h : AsT H as gs) : ∀ p ∈ as.zip gs, H p.1 = some (.tup (p.2.map V.int)) := fun p hp => by
  obtain ⟨i, hi, e⟩ := List.getElem_of_mem hp
  rw [List.getElem_zip] at e
  rw [← e]
  rw [List.length_zip] at hi
  exact h.2 i _ _ (List.getElem?_eq_getElem (by omega)) (List.getElem?_eq_getElem (by omega))
/-- set(xs), xs a list or a tuple of tuples of ints -/
def rSetTT (P : Program) (w : World) : List V → Hp → VK → Prop := fun vs H Q => ∃ (l : Addr) (k : Bool) (as : List Addr) (gs : List (List Int)), vs = [.ref l] ∧ Sqh k H l (as.map V.ref) ∧ AsT H as gs ∧ gs.length < 64 ∧
  ∀ a L, H a = none → (∀ p ∈ L, H p.1 = some (.tup (p.2.map V.int))) → (∀ g, g ∈ L.map (·.2) ↔ g ∈ gs) → Q (.ref a) (upd H a (SetTO P w a L))
theorem cr_setTT {X : Cx} (hc : X.calm = true) (hu : X.A.units + 64 < cLine) : CallR X (.type "set") (rSetTT X.prog X.w) := by
  intro pins s σ H vs us Q I r h
  obtain ⟨l, k, as, gs, rfl, hl, hA, few, q⟩ := h
  have hz := zip_refs hA.1
  have hzl : (as.zip gs).length = gs.length := by rw [List.length_zip, hA.1, Nat.min_self]
  have hzs : (as.zip gs).map (·.2) = gs := List.map_snd_zip (by rw [hA.1]; exact Nat.le_refl _)
  have fin : ∀ a L, H a = none → (∀ p ∈ L, p ∈ as.zip gs) → (∀ p ∈ as.zip gs, p.2 ∈ L.map (·.2)) → Q (.ref a) (upd H a (SetTO X.prog X.w a L)) := fun a L ha h1 h2 => by
    refine q a L ha (fun p hp => zip_at hA p (h1 p hp)) fun g => ⟨fun hg => ?_, fun hg => ?_⟩
    · obtain ⟨p, hp, rfl⟩ := List.mem_map.mp hg
      exact (List.of_mem_zip (h1 p hp)).2
    · rw [← hzs] at hg
      obtain ⟨p, hp, rfl⟩ := List.mem_map.mp hg
      exact h2 p hp
  cases k with
  | true =>
    have hl' : H l = some (.lst (as.map V.ref)) := hl
    exact cr_setOfT hc hu pins s σ H _ us Q I r ⟨l, as.zip gs, rfl, .inl (.inl (by rw [hz]; exact hl')), fun p hp => .inl (.inl (zip_at hA p hp)), by rw [hzl]; exact few, fin⟩
  | false =>
    have hl' : H l = some (.tup (as.map V.ref)) := hl
    rw [Vals.ref1 r]
    obtain ⟨its, rv, ht, hz2⟩ := I.tuple (.inl (.inl hl'))
    rw [← hz] at rv
    refine call_setTT (ks := as.zip gs) (I.ok.hd hc) (show s.heap.IsTuple l its.toArray from ht) (by simpa using refs_of_vals rv) (fun p hp => I.isT (.inl (.inl (zip_at hA p hp)))) (by rw [hzl]; exact few) (by omega) fun s2 fil => ?_
    obtain ⟨h2, t2, L, es, ep, t, rfl, f1, f2, f3⟩ := fil
    refine ⟨.ref _, _, I.laid (t' := t2) f3 (Nat.le_refl _) (setTO_new f1.t0), rfl, fin _ L (I.hok.fresh (Nat.le_refl _)) (fun p hp => ?_) fun p hp => ?_⟩
    · exact List.mem_of_mem_take (f2.sub p hp)
    · exact f2.all p (by rw [List.take_length]; exact hp)
end Cs

namespace Lw
open PySem PySem.Spec PyProof.Rows L2 Cs
def top (i : Nat) : Stmt := PySem.Challenge.pw_calledseats_k41_records_of_games.main.body.getD i (.Pass ⟨0, 0, 0, 0⟩)
abbrev d_is_integer : Stmt := top 10
abbrev N_is_integer : List Str := ["number"]
theorem sc_is_integer : FnScope N_is_integer ["number"] (defScope d_is_integer) := ⟨rfl, rfl, rfl, by decide +kernel, rfl, by decide +kernel, by decide +kernel⟩
abbrev d_is_seat : Stmt := top 11
abbrev N_is_seat : List Str := ["sizes", "seat", "place", "size"]
theorem sc_is_seat : FnScope N_is_seat ["sizes", "seat"] (defScope d_is_seat) := ⟨rfl, rfl, rfl, by decide +kernel, rfl, by decide +kernel, by decide +kernel⟩
abbrev d_is_call : Stmt := top 12
abbrev N_is_call : List Str := ["sizes", "call", "part"]
theorem sc_is_call : FnScope N_is_call ["sizes", "call"] (defScope d_is_call) := ⟨rfl, rfl, rfl, by decide +kernel, rfl, by decide +kernel, by decide +kernel⟩
abbrev d_is_direction : Stmt := top 13
abbrev N_is_direction : List Str := ["direction"]
theorem sc_is_direction : FnScope N_is_direction ["direction"] (defScope d_is_direction) := ⟨rfl, rfl, rfl, by decide +kernel, rfl, by decide +kernel, by decide +kernel⟩
abbrev d_is_move : Stmt := top 14
abbrev N_is_move : List Str := ["sizes", "move", "call", "direction"]
theorem sc_is_move : FnScope N_is_move ["sizes", "move"] (defScope d_is_move) := ⟨rfl, rfl, rfl, by decide +kernel, rfl, by decide +kernel, by decide +kernel⟩
abbrev d_require_seat : Stmt := top 15
abbrev N_require_seat : List Str := ["sizes", "seat"]
theorem sc_require_seat : FnScope N_require_seat ["sizes", "seat"] (defScope d_require_seat) := ⟨rfl, rfl, rfl, by decide +kernel, rfl, by decide +kernel, by decide +kernel⟩
abbrev d_require_seats : Stmt := top 18
abbrev N_require_seats : List Str := ["sizes", "seats", "seen", "index", "seat"]
theorem sc_require_seats : FnScope N_require_seats ["sizes", "seats"] (defScope d_require_seats) := ⟨rfl, rfl, rfl, by decide +kernel, rfl, by decide +kernel, by decide +kernel⟩
abbrev d_require_targets : Stmt := top 19
abbrev N_require_targets : List Str := ["sizes", "targets"]
theorem sc_require_targets : FnScope N_require_targets ["sizes", "targets"] (defScope d_require_targets) := ⟨rfl, rfl, rfl, by decide +kernel, rfl, by decide +kernel, by decide +kernel⟩
abbrev d_require_moves : Stmt := top 20
abbrev N_require_moves : List Str := ["sizes", "moves", "index", "move"]
theorem sc_require_moves : FnScope N_require_moves ["sizes", "moves"] (defScope d_require_moves) := ⟨rfl, rfl, rfl, by decide +kernel, rfl, by decide +kernel, by decide +kernel⟩
abbrev d_Table_init : Stmt := inClass (top 23) 0
abbrev N_Table_init : List Str := ["self", "rings"]
theorem sc_Table_init : FnScope N_Table_init ["self", "rings"] (defScope d_Table_init) := ⟨rfl, rfl, rfl, by decide +kernel, rfl, by decide +kernel, by decide +kernel⟩
abbrev d_Table_sizes : Stmt := inClass (top 23) 1
abbrev N_Table_sizes : List Str := ["self"]
theorem sc_Table_sizes : FnScope N_Table_sizes ["self"] (defScope d_Table_sizes) := ⟨rfl, rfl, rfl, by decide +kernel, rfl, by decide +kernel, by decide +kernel⟩
abbrev d_sizes_of : Stmt := top 24
abbrev N_sizes_of : List Str := ["table"]
theorem sc_sizes_of : FnScope N_sizes_of ["table"] (defScope d_sizes_of) := ⟨rfl, rfl, rfl, by decide +kernel, rfl, by decide +kernel, by decide +kernel⟩
abbrev d_both_moves : Stmt := top 25
abbrev N_both_moves : List Str := ["sizes", "seat", "call", "forward", "backward", "place", "part", "size"]
theorem sc_both_moves : FnScope N_both_moves ["sizes", "seat", "call"] (defScope d_both_moves) := ⟨rfl, rfl, rfl, by decide +kernel, rfl, by decide +kernel, by decide +kernel⟩
abbrev d_stepped : Stmt := top 26
abbrev N_stepped : List Str := ["sizes", "seat", "call", "direction", "forward", "backward"]
theorem sc_stepped : FnScope N_stepped ["sizes", "seat", "call", "direction"] (defScope d_stepped) := ⟨rfl, rfl, rfl, by decide +kernel, rfl, by decide +kernel, by decide +kernel⟩
abbrev d_are_sizes : Stmt := top 27
abbrev N_are_sizes : List Str := ["rings", "size"]
theorem sc_are_sizes : FnScope N_are_sizes ["rings"] (defScope d_are_sizes) := ⟨rfl, rfl, rfl, by decide +kernel, rfl, by decide +kernel, by decide +kernel⟩
abbrev d_Record_init : Stmt := inClass (top 29) 0
abbrev N_Record_init : List Str := ["self", "table", "targets", "seat", "moves", "sizes"]
theorem sc_Record_init : FnScope N_Record_init ["self", "table", "targets", "seat", "moves"] (defScope d_Record_init) := ⟨rfl, rfl, rfl, by decide +kernel, rfl, by decide +kernel, by decide +kernel⟩
abbrev d_Record_seats : Stmt := inClass (top 29) 1
abbrev N_Record_seats : List Str := ["self"]
theorem sc_Record_seats : FnScope N_Record_seats ["self"] (defScope d_Record_seats) := ⟨rfl, rfl, rfl, by decide +kernel, rfl, by decide +kernel, by decide +kernel⟩
abbrev d_Record_calls_to_target : Stmt := inClass (top 29) 2
abbrev N_Record_calls_to_target : List Str := ["self"]
theorem sc_Record_calls_to_target : FnScope N_Record_calls_to_target ["self"] (defScope d_Record_calls_to_target) := ⟨rfl, rfl, rfl, by decide +kernel, rfl, by decide +kernel, by decide +kernel⟩
abbrev d_seats_of_game : Stmt := top 30
abbrev N_seats_of_game : List Str := ["sizes", "seat", "moves", "current", "seats", "call", "direction"]
theorem sc_seats_of_game : FnScope N_seats_of_game ["sizes", "seat", "moves"] (defScope d_seats_of_game) := ⟨rfl, rfl, rfl, by decide +kernel, rfl, by decide +kernel, by decide +kernel⟩
abbrev d_calls_before : Stmt := top 31
abbrev N_calls_before : List Str := ["seats", "targets", "goals", "index", "seat"]
theorem sc_calls_before : FnScope N_calls_before ["seats", "targets"] (defScope d_calls_before) := ⟨rfl, rfl, rfl, by decide +kernel, rfl, by decide +kernel, by decide +kernel⟩
abbrev d_law_mixed : Stmt := top 33
abbrev N_law_mixed : List Str := ["_law_cell", "_law_k", "_law_number"]
theorem sc_law_mixed : FnScope N_law_mixed ["_law_cell", "_law_k"] (defScope d_law_mixed) := ⟨rfl, rfl, rfl, by decide +kernel, rfl, by decide +kernel, by decide +kernel⟩
abbrev d_law_source : Stmt := top 34
abbrev N_law_source : List Str := ["_law_cell"]
theorem sc_law_source : FnScope N_law_source ["_law_cell"] (defScope d_law_source) := ⟨rfl, rfl, rfl, by decide +kernel, rfl, by decide +kernel, by decide +kernel⟩
abbrev d_law_take : Stmt := top 35
abbrev N_law_take : List Str := ["_law_source_here", "_law_many", "_law_found"]
theorem sc_law_take : FnScope N_law_take ["_law_source_here", "_law_many"] (defScope d_law_take) := ⟨rfl, rfl, rfl, by decide +kernel, rfl, by decide +kernel, by decide +kernel⟩
abbrev d_law_one : Stmt := top 36
abbrev N_law_one : List Str := ["_law_source_here", "_law_some"]
theorem sc_law_one : FnScope N_law_one ["_law_source_here", "_law_some"] (defScope d_law_one) := ⟨rfl, rfl, rfl, by decide +kernel, rfl, by decide +kernel, by decide +kernel⟩
abbrev d_law_rings : Stmt := top 37
abbrev N_law_rings : List Str := ["_law_source_here", "_law_limit", "_law_rings_here", "_law_total", "_law_ring", "_law_size"]
theorem sc_law_rings : FnScope N_law_rings ["_law_source_here", "_law_limit"] (defScope d_law_rings) := ⟨rfl, rfl, rfl, by decide +kernel, rfl, by decide +kernel, by decide +kernel⟩
abbrev d_law_seat : Stmt := top 38
abbrev N_law_seat : List Str := ["_law_source_here", "_law_rings_here", "_law_size"]
theorem sc_law_seat : FnScope N_law_seat ["_law_source_here", "_law_rings_here"] (defScope d_law_seat) := ⟨rfl, rfl, rfl, by decide +kernel, rfl, by decide +kernel, by decide +kernel⟩
abbrev d_law_seats : Stmt := top 39
abbrev N_law_seats : List Str := ["_law_source_here", "_law_rings_here", "_law_most", "_law_found", "_law_turn", "_law_spot"]
theorem sc_law_seats : FnScope N_law_seats ["_law_source_here", "_law_rings_here", "_law_most"] (defScope d_law_seats) := ⟨rfl, rfl, rfl, by decide +kernel, rfl, by decide +kernel, by decide +kernel⟩
abbrev d_law_call : Stmt := top 40
abbrev N_law_call : List Str := ["_law_source_here", "_law_rings_here", "_law_factor", "_law_size"]
theorem sc_law_call : FnScope N_law_call ["_law_source_here", "_law_rings_here"] (defScope d_law_call) := ⟨rfl, rfl, rfl, by decide +kernel, rfl, by decide +kernel, by decide +kernel⟩
abbrev d_law_moves : Stmt := top 41
abbrev N_law_moves : List Str := ["_law_source_here", "_law_rings_here", "_law_most", "_law_found", "_law_turn"]
theorem sc_law_moves : FnScope N_law_moves ["_law_source_here", "_law_rings_here", "_law_most"] (defScope d_law_moves) := ⟨rfl, rfl, rfl, by decide +kernel, rfl, by decide +kernel, by decide +kernel⟩
abbrev d_law_step : Stmt := top 42
abbrev N_law_step : List Str := ["_law_rings_here", "_law_spot", "_law_delta", "_law_sign", "_law_place", "_law_one_here", "_law_size"]
theorem sc_law_step : FnScope N_law_step ["_law_rings_here", "_law_spot", "_law_delta", "_law_sign"] (defScope d_law_step) := ⟨rfl, rfl, rfl, by decide +kernel, rfl, by decide +kernel, by decide +kernel⟩
abbrev d_law_walk : Stmt := top 43
abbrev N_law_walk : List Str := ["_law_rings_here", "_law_start", "_law_played", "_law_found", "_law_delta", "_law_way"]
theorem sc_law_walk : FnScope N_law_walk ["_law_rings_here", "_law_start", "_law_played"] (defScope d_law_walk) := ⟨rfl, rfl, rfl, by decide +kernel, rfl, by decide +kernel, by decide +kernel⟩
abbrev d_law_wide_rings : Stmt := top 44
abbrev N_law_wide_rings : List Str := ["_law_source_here", "_law_rings_here", "_law_ring"]
theorem sc_law_wide_rings : FnScope N_law_wide_rings ["_law_source_here"] (defScope d_law_wide_rings) := ⟨rfl, rfl, rfl, by decide +kernel, rfl, by decide +kernel, by decide +kernel⟩
abbrev d_law_spoil : Stmt := top 45
abbrev N_law_spoil : List Str := ["_law_source_here", "_law_items", "_law_more", "_law_way"]
theorem sc_law_spoil : FnScope N_law_spoil ["_law_source_here", "_law_items", "_law_more"] (defScope d_law_spoil) := ⟨rfl, rfl, rfl, by decide +kernel, rfl, by decide +kernel, by decide +kernel⟩
abbrev d_law_right : Stmt := top 46
abbrev N_law_right : List Str := ["_law_source_here", "_law_rings_here", "_law_goals", "_law_start", "_law_played", "_law_due", "_law_first", "_law_handed", "_law_given", "_law_game", "_law_turn", "_law_found", "_law_other", "_law_index", "_law_place"]
theorem sc_law_right : FnScope N_law_right ["_law_source_here", "_law_rings_here", "_law_goals", "_law_start", "_law_played"] (defScope d_law_right) := ⟨rfl, rfl, rfl, by decide +kernel, rfl, by decide +kernel, by decide +kernel⟩
abbrev d_law : Stmt := top 47
abbrev N_law : List Str := ["_law_script", "_law_cell", "_law_source_here", "_law_rings_here", "_law_goals", "_law_start", "_law_played", "_law_index"]
theorem sc_law : FnScope N_law ["_law_script"] (defScope d_law) := ⟨rfl, rfl, rfl, by decide +kernel, rfl, by decide +kernel, by decide +kernel⟩
structure Tx (K : PySem.W.Frag) (mg : Str → Option Value) : Type where
  f_is_integer : Addr
  fd_is_integer : FuncData
  F_is_integer : Fun K "is_integer" "is_integer" d_is_integer f_is_integer fd_is_integer
  b_is_integer : Binds K fd_is_integer ["number"] []
  g_is_integer : mg "is_integer" = some (.ref f_is_integer)
  f_is_seat : Addr
  fd_is_seat : FuncData
  F_is_seat : Fun K "is_seat" "is_seat" d_is_seat f_is_seat fd_is_seat
  b_is_seat : Binds K fd_is_seat ["sizes", "seat"] []
  g_is_seat : mg "is_seat" = some (.ref f_is_seat)
  f_is_call : Addr
  fd_is_call : FuncData
  F_is_call : Fun K "is_call" "is_call" d_is_call f_is_call fd_is_call
  b_is_call : Binds K fd_is_call ["sizes", "call"] []
  g_is_call : mg "is_call" = some (.ref f_is_call)
  f_is_direction : Addr
  fd_is_direction : FuncData
  F_is_direction : Fun K "is_direction" "is_direction" d_is_direction f_is_direction fd_is_direction
  b_is_direction : Binds K fd_is_direction ["direction"] []
  g_is_direction : mg "is_direction" = some (.ref f_is_direction)
  f_is_move : Addr
  fd_is_move : FuncData
  F_is_move : Fun K "is_move" "is_move" d_is_move f_is_move fd_is_move
  b_is_move : Binds K fd_is_move ["sizes", "move"] []
  g_is_move : mg "is_move" = some (.ref f_is_move)
  f_require_seat : Addr
  fd_require_seat : FuncData
  F_require_seat : Fun K "require_seat" "require_seat" d_require_seat f_require_seat fd_require_seat
  b_require_seat : Binds K fd_require_seat ["sizes", "seat"] []
  g_require_seat : mg "require_seat" = some (.ref f_require_seat)
  f_require_seats : Addr
  fd_require_seats : FuncData
  F_require_seats : Fun K "require_seats" "require_seats" d_require_seats f_require_seats fd_require_seats
  b_require_seats : Binds K fd_require_seats ["sizes", "seats"] []
  g_require_seats : mg "require_seats" = some (.ref f_require_seats)
  f_require_targets : Addr
  fd_require_targets : FuncData
  F_require_targets : Fun K "require_targets" "require_targets" d_require_targets f_require_targets fd_require_targets
  b_require_targets : Binds K fd_require_targets ["sizes", "targets"] []
  g_require_targets : mg "require_targets" = some (.ref f_require_targets)
  f_require_moves : Addr
  fd_require_moves : FuncData
  F_require_moves : Fun K "require_moves" "require_moves" d_require_moves f_require_moves fd_require_moves
  b_require_moves : Binds K fd_require_moves ["sizes", "moves"] []
  g_require_moves : mg "require_moves" = some (.ref f_require_moves)
  f_Table_init : Addr
  fd_Table_init : FuncData
  F_Table_init : Fun K "__init__" "Table.__init__" d_Table_init f_Table_init fd_Table_init
  b_Table_init : Binds K fd_Table_init ["self", "rings"] []
  f_Table_sizes : Addr
  fd_Table_sizes : FuncData
  F_Table_sizes : Fun K "sizes" "Table.sizes" d_Table_sizes f_Table_sizes fd_Table_sizes
  b_Table_sizes : Binds K fd_Table_sizes ["self"] []
  f_sizes_of : Addr
  fd_sizes_of : FuncData
  F_sizes_of : Fun K "sizes_of" "sizes_of" d_sizes_of f_sizes_of fd_sizes_of
  b_sizes_of : Binds K fd_sizes_of ["table"] []
  g_sizes_of : mg "sizes_of" = some (.ref f_sizes_of)
  f_both_moves : Addr
  fd_both_moves : FuncData
  F_both_moves : Fun K "both_moves" "both_moves" d_both_moves f_both_moves fd_both_moves
  b_both_moves : Binds K fd_both_moves ["sizes", "seat", "call"] []
  g_both_moves : mg "both_moves" = some (.ref f_both_moves)
  f_stepped : Addr
  fd_stepped : FuncData
  F_stepped : Fun K "stepped" "stepped" d_stepped f_stepped fd_stepped
  b_stepped : Binds K fd_stepped ["sizes", "seat", "call", "direction"] []
  g_stepped : mg "stepped" = some (.ref f_stepped)
  f_are_sizes : Addr
  fd_are_sizes : FuncData
  F_are_sizes : Fun K "_are_sizes" "_are_sizes" d_are_sizes f_are_sizes fd_are_sizes
  b_are_sizes : Binds K fd_are_sizes ["rings"] []
  g_are_sizes : mg "_are_sizes" = some (.ref f_are_sizes)
  f_Record_init : Addr
  fd_Record_init : FuncData
  F_Record_init : Fun K "__init__" "Record.__init__" d_Record_init f_Record_init fd_Record_init
  b_Record_init : Binds K fd_Record_init ["self", "table", "targets", "seat", "moves"] []
  f_Record_seats : Addr
  fd_Record_seats : FuncData
  F_Record_seats : Fun K "seats" "Record.seats" d_Record_seats f_Record_seats fd_Record_seats
  b_Record_seats : Binds K fd_Record_seats ["self"] []
  f_Record_calls_to_target : Addr
  fd_Record_calls_to_target : FuncData
  F_Record_calls_to_target : Fun K "calls_to_target" "Record.calls_to_target" d_Record_calls_to_target f_Record_calls_to_target fd_Record_calls_to_target
  b_Record_calls_to_target : Binds K fd_Record_calls_to_target ["self"] []
  f_seats_of_game : Addr
  fd_seats_of_game : FuncData
  F_seats_of_game : Fun K "_seats_of_game" "_seats_of_game" d_seats_of_game f_seats_of_game fd_seats_of_game
  b_seats_of_game : Binds K fd_seats_of_game ["sizes", "seat", "moves"] []
  g_seats_of_game : mg "_seats_of_game" = some (.ref f_seats_of_game)
  f_calls_before : Addr
  fd_calls_before : FuncData
  F_calls_before : Fun K "_calls_before" "_calls_before" d_calls_before f_calls_before fd_calls_before
  b_calls_before : Binds K fd_calls_before ["seats", "targets"] []
  g_calls_before : mg "_calls_before" = some (.ref f_calls_before)
  f_law_mixed : Addr
  fd_law_mixed : FuncData
  F_law_mixed : Fun K "_law_mixed" "_law_mixed" d_law_mixed f_law_mixed fd_law_mixed
  b_law_mixed : Binds K fd_law_mixed ["_law_cell", "_law_k"] []
  g_law_mixed : mg "_law_mixed" = some (.ref f_law_mixed)
  f_law_source : Addr
  fd_law_source : FuncData
  F_law_source : Fun K "_law_source" "_law_source" d_law_source f_law_source fd_law_source
  b_law_source : Binds K fd_law_source ["_law_cell"] []
  g_law_source : mg "_law_source" = some (.ref f_law_source)
  f_law_take : Addr
  fd_law_take : FuncData
  F_law_take : Fun K "_law_take" "_law_take" d_law_take f_law_take fd_law_take
  b_law_take : Binds K fd_law_take ["_law_source_here", "_law_many"] []
  g_law_take : mg "_law_take" = some (.ref f_law_take)
  f_law_one : Addr
  fd_law_one : FuncData
  F_law_one : Fun K "_law_one" "_law_one" d_law_one f_law_one fd_law_one
  b_law_one : Binds K fd_law_one ["_law_source_here", "_law_some"] []
  g_law_one : mg "_law_one" = some (.ref f_law_one)
  f_law_rings : Addr
  fd_law_rings : FuncData
  F_law_rings : Fun K "_law_rings" "_law_rings" d_law_rings f_law_rings fd_law_rings
  b_law_rings : Binds K fd_law_rings ["_law_source_here", "_law_limit"] []
  g_law_rings : mg "_law_rings" = some (.ref f_law_rings)
  f_law_seat : Addr
  fd_law_seat : FuncData
  F_law_seat : Fun K "_law_seat" "_law_seat" d_law_seat f_law_seat fd_law_seat
  b_law_seat : Binds K fd_law_seat ["_law_source_here", "_law_rings_here"] []
  g_law_seat : mg "_law_seat" = some (.ref f_law_seat)
  f_law_seats : Addr
  fd_law_seats : FuncData
  F_law_seats : Fun K "_law_seats" "_law_seats" d_law_seats f_law_seats fd_law_seats
  b_law_seats : Binds K fd_law_seats ["_law_source_here", "_law_rings_here", "_law_most"] []
  g_law_seats : mg "_law_seats" = some (.ref f_law_seats)
  f_law_call : Addr
  fd_law_call : FuncData
  F_law_call : Fun K "_law_call" "_law_call" d_law_call f_law_call fd_law_call
  b_law_call : Binds K fd_law_call ["_law_source_here", "_law_rings_here"] []
  g_law_call : mg "_law_call" = some (.ref f_law_call)
  f_law_moves : Addr
  fd_law_moves : FuncData
  F_law_moves : Fun K "_law_moves" "_law_moves" d_law_moves f_law_moves fd_law_moves
  b_law_moves : Binds K fd_law_moves ["_law_source_here", "_law_rings_here", "_law_most"] []
  g_law_moves : mg "_law_moves" = some (.ref f_law_moves)
  f_law_step : Addr
  fd_law_step : FuncData
  F_law_step : Fun K "_law_step" "_law_step" d_law_step f_law_step fd_law_step
  b_law_step : Binds K fd_law_step ["_law_rings_here", "_law_spot", "_law_delta", "_law_sign"] []
  g_law_step : mg "_law_step" = some (.ref f_law_step)
  f_law_walk : Addr
  fd_law_walk : FuncData
  F_law_walk : Fun K "_law_walk" "_law_walk" d_law_walk f_law_walk fd_law_walk
  b_law_walk : Binds K fd_law_walk ["_law_rings_here", "_law_start", "_law_played"] []
  g_law_walk : mg "_law_walk" = some (.ref f_law_walk)
  f_law_wide_rings : Addr
  fd_law_wide_rings : FuncData
  F_law_wide_rings : Fun K "_law_wide_rings" "_law_wide_rings" d_law_wide_rings f_law_wide_rings fd_law_wide_rings
  b_law_wide_rings : Binds K fd_law_wide_rings ["_law_source_here"] []
  g_law_wide_rings : mg "_law_wide_rings" = some (.ref f_law_wide_rings)
  f_law_spoil : Addr
  fd_law_spoil : FuncData
  F_law_spoil : Fun K "_law_spoil" "_law_spoil" d_law_spoil f_law_spoil fd_law_spoil
  b_law_spoil : Binds K fd_law_spoil ["_law_source_here", "_law_items", "_law_more"] []
  g_law_spoil : mg "_law_spoil" = some (.ref f_law_spoil)
  f_law_right : Addr
  fd_law_right : FuncData
  F_law_right : Fun K "_law_right" "_law_right" d_law_right f_law_right fd_law_right
  b_law_right : Binds K fd_law_right ["_law_source_here", "_law_rings_here", "_law_goals", "_law_start", "_law_played"] []
  g_law_right : mg "_law_right" = some (.ref f_law_right)
  f_law : Addr
  fd_law : FuncData
  F_law : Fun K "law" "law" d_law f_law fd_law
  b_law : Binds K fd_law ["_law_script"] []
  g_law : mg "law" = some (.ref f_law)
  c_Table : Addr
  g_Table : mg "Table" = some (.ref c_Table)
  cl_Table : Cls K c_Table
  M_Table : Mk K c_Table f_Table_init
  m_Table_sizes : Meth K c_Table "sizes" f_Table_sizes
  no_Table_sizes : NoAttr K c_Table "_sizes"
  ins_Table : C8.InsC K c_Table
  c_Record : Addr
  g_Record : mg "Record" = some (.ref c_Record)
  cl_Record : Cls K c_Record
  M_Record : Mk K c_Record f_Record_init
  m_Record_seats : Meth K c_Record "seats" f_Record_seats
  m_Record_calls_to_target : Meth K c_Record "calls_to_target" f_Record_calls_to_target
  no_Record_table : NoAttr K c_Record "_table"
  no_Record_targets : NoAttr K c_Record "_targets"
  no_Record_moves : NoAttr K c_Record "_moves"
  no_Record_seats : NoAttr K c_Record "_seats"
  no_Record_calls : NoAttr K c_Record "_calls"
  kb_Record_moves_seat_targets_table : KBn K fd_Record_init ["self", "table", "targets", "seat", "moves"] 1 ["moves", "seat", "targets", "table"] (fun us ws => [us.getD 0 Value.none, ws.getD 3 Value.none, ws.getD 2 Value.none, ws.getD 1 Value.none, ws.getD 0 Value.none]) (fun us ws => [us.getD 0 V.non, ws.getD 3 V.non, ws.getD 2 V.non, ws.getD 1 V.non, ws.getD 0 V.non])
  v_MAX_RINGS : Value
  g_MAX_RINGS : mg "MAX_RINGS" = some v_MAX_RINGS
  r_MAX_RINGS : RelV (.int 4) v_MAX_RINGS
  n_all : mg "all" = none
  n_bool : mg "bool" = none
  n_enumerate : mg "enumerate" = none
  n_int : mg "int" = none
  n_isinstance : mg "isinstance" = none
  n_len : mg "len" = none
  n_list : mg "list" = none
  n_range : mg "range" = none
  n_set : mg "set" = none
  n_str : mg "str" = none
  n_tuple : mg "tuple" = none
  n_zip : mg "zip" = none
-- RD4
local macro_rules | `(tactic| walk_at "rd") => `(tactic| simp only [cxOf, Cx.nox, Cx.wish, L2.start, tVar, tC, t2I, tIsN, tNotN, tB, tAnd, tOr, tNot, tAndV, tOrV, tNotV, L2.tIf, tNext, tSeq, tBreak, tCont, tDrop, tRet, tRetN, tIfS, tNever, gName, gNil, gCons, gTup, gSub, tAsg, tPar, tPar3, tAug, ipI, tOp, tUn, rI, rI0, rU, rEq, rNe, tTest, tChain, tFld, tCon, sFld, tNil, tCons, tTup, tLst, tCall, tMeth, tMake, tMakeK, tMethK, tCallK, tCallN, tCB, tNoPart, tPart, tSl, rIxL, rIxT, rSetL, rSlL, rAppend, rAll, rIsI, rIsA, tAppend, tLc_eq, tLc2_eq, tFor_eq, tStarH, tRevL, tRevT, tBits, tCallK0, tExtend, tClear, tRever, tPop0, rGcd, rLcm, iSeqH, iSeqS, iZ2H, iZ3H, iEnH, iRevR, tRg1, tRg2, iRng1H, gTupH, tYes, wipe, scal_int, scal_str, scal_bl, List.map_cons, List.map_nil, List.replicate, List.length_cons, List.length_nil, List.cons_append, List.nil_append, List.append_nil, List.getElem?_cons_zero, List.getElem?_cons_succ, List.set_cons_zero, List.set_cons_succ, Option.some.injEq, V.int.injEq, V.bl.injEq, V.ref.injEq, V.str.injEq, V.ty.injEq, HO.lst.injEq, HO.tup.injEq, HO.ins.injEq, List.cons.injEq, and_true, true_and, and_assoc, exists_and_left, exists_and_right, exists_eq_left, exists_eq_left', exists_eq_right, exists_const, exists_eq, exists_eq', exists_false, exists_prop, false_and, and_false, false_or, or_false, true_or, or_true, List.length_map, Int.natCast_inj, Bool.not_eq_true', decide_eq_false_iff_not, decide_eq_true_eq, List.getElem?_map, Option.map_some, Option.map_none, Option.map_eq_some_iff, upd_same, sz_le, atI_0, atI_1, atI_2, ixN_30, ixN_31, ixN_32, cpow_10, cdivW_small, Int.reduceToNat, Int.reducePow, Int.reduceAdd, Int.reduceSub, Int.reduceMul, Int.reduceNeg, Int.reduceLT, Int.reduceLE, ge_iff_le, gt_iff_lt, Nat.reduceLeDiff, putF_one, lookup_one, Bool.not_true, Bool.not_false, if_true, if_false, Bool.false_eq_true, ite_true, ite_false, Nat.reduceAdd, Nat.reduceSub, Nat.add_zero, Nat.zero_add, Nat.sub_self, reduceCtorEq, decide_true, decide_false, Bool.or_false, Bool.or_true, Bool.and_true, Bool.and_false])
local macro_rules | `(tactic| walk_at "rh") => `(tactic| simp only [cxOf, Cx.nox, Cx.wish, L2.start, tVar, tC, t2I, tIsN, tNotN, tB, tAnd, tOr, tNot, tAndV, tOrV, tNotV, L2.tIf, tNext, tSeq, tBreak, tCont, tDrop, tRet, tRetN, tIfS, tNever, gName, gNil, gCons, gTup, gSub, tAsg, tPar, tPar3, tAug, ipI, tOp, tUn, rI, rI0, rU, rEq, rNe, tTest, tChain, tFld, tCon, sFld, tNil, tCons, tTup, tLst, tCall, tMeth, tMake, tMakeK, tMethK, tCallK, tCallN, tCB, tNoPart, tPart, tSl, rIxL, rIxT, rSetL, rSlL, rAppend, rAll, rIsI, rIsA, tAppend, tLc_eq, tLc2_eq, tFor_eq, tStarH, tRevL, tRevT, tBits, tCallK0, tExtend, tClear, tRever, tPop0, rGcd, rLcm, iSeqH, iSeqS, iZ2H, iZ3H, iEnH, iRevR, tRg1, tRg2, iRng1H, gTupH, tYes, wipe, scal_int, scal_str, scal_bl, List.map_cons, List.map_nil, List.replicate, List.length_cons, List.length_nil, List.cons_append, List.nil_append, List.append_nil, List.getElem?_cons_zero, List.getElem?_cons_succ, List.set_cons_zero, List.set_cons_succ, Option.some.injEq, V.int.injEq, V.bl.injEq, V.ref.injEq, V.str.injEq, V.ty.injEq, HO.lst.injEq, HO.tup.injEq, HO.ins.injEq, List.cons.injEq, and_true, true_and, and_assoc, exists_and_left, exists_and_right, exists_eq_left, exists_eq_left', exists_eq_right, exists_const, exists_eq, exists_eq', exists_false, exists_prop, false_and, and_false, false_or, or_false, true_or, or_true, List.length_map, Int.natCast_inj, Bool.not_eq_true', decide_eq_false_iff_not, decide_eq_true_eq, List.getElem?_map, Option.map_some, Option.map_none, Option.map_eq_some_iff, upd_same, sz_le, atI_0, atI_1, atI_2, ixN_30, ixN_31, ixN_32, cpow_10, cdivW_small, Int.reduceToNat, Int.reducePow, Int.reduceAdd, Int.reduceSub, Int.reduceMul, Int.reduceNeg, Int.reduceLT, Int.reduceLE, ge_iff_le, gt_iff_lt, Nat.reduceLeDiff, putF_one, lookup_one, Bool.not_true, Bool.not_false, if_true, if_false, Bool.false_eq_true, ite_true, ite_false, Nat.reduceAdd, Nat.reduceSub, Nat.add_zero, Nat.zero_add, Nat.sub_self, reduceCtorEq, decide_true, decide_false, Bool.or_false, Bool.or_true, Bool.and_true, Bool.and_false, *])

/-! ### what the program's checks answer -/
theorem TyOf.same {K : PySem.W.Frag} {H H' : Hp} {x : V} {t : Value} (e : Same H H') (h : TyOf K H x t) : TyOf K H' x t := by
  cases h with
  | non => exact .non
  | bl b => exact .bl b
  | int i => exact .int i
  | str y => exact .str y
  | flt y => exact .flt y
  | lst ea => exact .lst (e _ _ ea)
  | frz ea => exact .frz (e _ _ ea)
  | tup ea => exact .tup (e _ _ ea)
  | dK ea => exact .dK (e _ _ ea)
  | dT ea => exact .dT (e _ _ ea)
  | ins ea cl ha hn htk hm => exact .ins (e _ _ ea) cl ha hn htk hm
theorem TyX.same {K : PySem.W.Frag} {H H' : Hp} {x : V} {t : Value} (e : Same H H') (h : TyX K H x t) : TyX K H' x t := by
  cases h with
  | base b => exact .base (TyOf.same e b)
  | byt b => exact .byt b
  | set ea => exact .set (e _ _ ea)
  | kList a b => exact .kList a b
  | kTuple a b => exact .kTuple a b
  | kDict a b => exact .kDict a b
  | fTuple ea => exact .fTuple (e _ _ ea)
  | fDict ea => exact .fDict (e _ _ ea)
theorem IsI.same {K : PySem.W.Frag} {H H' : Hp} {x c : V} {b : Bool} (e : Same H H') (h : IsI K H x c b) : IsI K H' x c b := by
  obtain ⟨t, u, h1, h2, h3⟩ := h
  exact ⟨t, u, h1, TyX.same e h2, h3⟩
theorem IsA.same {K : PySem.W.Frag} {H H' : Hp} {x : V} {cs : List V} {b : Bool} (e : Same H H') (h : IsA K H x cs b) : IsA K H' x cs b := by
  obtain ⟨t, us, h1, h2, h3⟩ := h
  exact ⟨t, us, h1, TyX.same e h2, h3⟩
/-- is_integer(x) is b -/
def IsInt (K : PySem.W.Frag) (H : Hp) (x : V) (b : Bool) : Prop := ∃ b1 b2, IsI K H x (.ty "int") b1 ∧ (b1 = true → IsI K H x (.ty "bool") b2) ∧ b = (b1 && !b2)
theorem IsInt.same {K : PySem.W.Frag} {H H' : Hp} {x : V} {b : Bool} (e : Same H H') (h : IsInt K H x b) : IsInt K H' x b := by
  obtain ⟨b1, b2, h1, h2, h3⟩ := h
  exact ⟨b1, b2, IsI.same e h1, fun z => IsI.same e (h2 z), h3⟩
theorem isInt_int {K : PySem.W.Frag} {H : Hp} (n : Int) : IsInt K H (.int n) true := ⟨true, false, isI_ty (.base (.int n)) (by decide +kernel), fun _ => isI_ty (.base (.int n)) (by decide +kernel), rfl⟩
/-- is_integer(x) and 0 <= x < s is c -/
def PlaceB (K : PySem.W.Frag) (H : Hp) (x : V) (s : Int) (c : Bool) : Prop := (IsInt K H x false ∧ c = false) ∨ ∃ n, x = .int n ∧ c = (decide (0 ≤ n) && decide (n < s))
theorem PlaceB.same {K : PySem.W.Frag} {H H' : Hp} {x : V} {s : Int} {c : Bool} (e : Same H H') (h : PlaceB K H x s c) : PlaceB K H' x s c := by
  rcases h with ⟨h, q⟩ | h
  · exact .inl ⟨IsInt.same e h, q⟩
  · exact .inr h
/-- is_seat(sizes, x) is b -/
def SeatB (K : PySem.W.Frag) (H : Hp) (ss : List Int) (x : V) (b : Bool) : Prop := (IsI K H x (.ty "tuple") false ∧ b = false) ∨ ∃ p xs, x = .ref p ∧ H p = some (.tup xs) ∧ ((xs.length ≠ ss.length ∧ b = false) ∨
  (xs.length = ss.length ∧ xs.length ≤ sizeLine ∧ ∃ bs : List Bool, bs.length = xs.length ∧ b = bs.all id ∧ ∀ (i : Nat) x s c, xs[i]? = some x → ss[i]? = some s → bs[i]? = some c → PlaceB K H x s c))
/-- is_call(sizes, x) is b -/
def CallB (K : PySem.W.Frag) (H : Hp) (n : Nat) (x : V) (b : Bool) : Prop := (IsI K H x (.ty "tuple") false ∧ b = false) ∨ ∃ p xs, x = .ref p ∧ H p = some (.tup xs) ∧ ((xs.length ≠ n ∧ b = false) ∨
  (xs.length = n ∧ xs.length ≤ sizeLine ∧ ∃ bs : List Bool, bs.length = xs.length ∧ b = bs.all id ∧ ∀ (i : Nat) x c, xs[i]? = some x → bs[i]? = some c → IsInt K H x c))
/-- is_direction(x) is b -/
def DirB (K : PySem.W.Frag) (H : Hp) (x : V) (b : Bool) : Prop := (IsI K H x (.ty "str") false ∧ b = false) ∨ ∃ z : Str, x = .str z ∧ b = (z == "forward" || z == "backward")
/-- _are_sizes(x) is b -/
def SizesB (K : PySem.W.Frag) (H : Hp) (x : V) (b : Bool) : Prop := (IsA K H x [.ty "list", .ty "tuple"] false ∧ b = false) ∨ ∃ k p xs, x = .ref p ∧ Sqh k H p xs ∧ ((¬ (1 ≤ xs.length ∧ xs.length ≤ 4) ∧ b = false) ∨
  (1 ≤ xs.length ∧ xs.length ≤ 4 ∧ ∃ bs : List Bool, bs.length = xs.length ∧ b = bs.all id ∧ ∀ (i : Nat) x c, xs[i]? = some x → bs[i]? = some c → (IsInt K H x false ∧ c = false) ∨ ∃ n, x = .int n ∧ c = decide (1 ≤ n)))
/-- a table at a, of the sizes ss -/
def TabAt (C : Addr) (H : Hp) (a : Addr) (ss : List Int) : Prop := ∃ dx t, H a = some (.ins C dx [("_sizes", .ref t)]) ∧ H t = some (.tup (ss.map V.int))
theorem TabAt.same {C : Addr} {H H' : Hp} {a : Addr} {ss : List Int} (e : Same H H') (h : TabAt C H a ss) : TabAt C H' a ss := by
  obtain ⟨dx, t, h1, h2⟩ := h
  exact ⟨dx, t, e _ _ h1, e _ _ h2⟩
section
variable {P : Program} {w : World} {K : PySem.W.Frag} {mg : Str → Option Value} {base : Heap}
def sp_is_integer (K : PySem.W.Frag) : Sp := fun vs H Q _ => ∃ x b, vs = [x] ∧ IsInt K H x b ∧ Q (.bl b) H
theorem ok_is_integer (T : Tx K mg) : FnOk P w K mg base CX0 1 T.f_is_integer T.fd_is_integer ["number"] (sp_is_integer K) := by
  refine T.F_is_integer.ok sc_is_integer (fun vs H Q E h => ?_) (fun cdv A outer s H vs Q E hr h => ?_)
  · obtain ⟨x, b, rfl, _⟩ := h; rfl
  · obtain ⟨x, b, rfl, ⟨b1, b2, h1, h2, rfl⟩, q⟩ := h
    refine ⟨_, (pss_one (ps_ret (pe_and (pe_callB (call_isIK (K := K) rfl) (by rfl) T.n_isinstance (by decide +kernel) (pa_cons (pv 0) (pa_cons (pe_bltn (v := .ty "int") (by rfl) T.n_int (by decide +kernel) rfl) pa_nil))) (pe_one (pe_not (pe_callB (call_isIK (K := K) rfl) (by rfl) T.n_isinstance (by decide +kernel) (pa_cons (pv 0) (pa_cons (pe_bltn (v := .ty "bool") (by rfl) T.n_bool (by decide +kernel) rfl) pa_nil)))))))), ?_⟩
    walk_at "rd"
    refine ⟨b1, h1, ?_⟩
    cases b1 with
    | false => walk_at "rd"; exact q
    | true =>
      walk_at "rd"
      exact ⟨b2, h2 rfl, q⟩
def sp_is_seat (K : PySem.W.Frag) : Sp := fun vs H Q _ => ∃ k a ss x b, vs = [.ref a, x] ∧ Sqh k H a (ss.map V.int) ∧ SeatB K H ss x b ∧ ∀ H', Same H H' → Q (.bl b) H'
theorem ok_is_seat (T : Tx K mg) : FnOk P w K mg base CX0 1 T.f_is_seat T.fd_is_seat ["sizes", "seat"] (sp_is_seat K) := by
  refine T.F_is_seat.ok sc_is_seat (fun vs H Q E h => ?_) (fun cdv A outer s H vs Q E hr h => ?_)
  · obtain ⟨k, a, ss, x, b, rfl, _⟩ := h; rfl
  · obtain ⟨k, a, ss, x, b, rfl, hs, hb, q⟩ := h
    refine ⟨_, (pss_cons (ps_if (PW.pt (pw_or (pt_not (pt_val (pe_callB (call_isIK (K := K) rfl) (by rfl) T.n_isinstance (by decide +kernel) (pa_cons (pv 1) (pa_cons (pe_bltn (v := .ty "tuple") (by rfl) T.n_tuple (by decide +kernel) rfl) pa_nil))))) (pw_or1 (pt_cmpR op_ne (pe_callB len_H (by rfl) T.n_len PySem.boot_len (pa_cons (pv 1) pa_nil)) (pe_callB len_H (by rfl) T.n_len PySem.boot_len (pa_cons (pv 0) pa_nil)) (nomark _))))) (pss_one (ps_ret pe_bl)) pss_nil)
      (pss_cons (ps_for PassesOwn.never rfl (pi_z2H (by rfl) T.n_zip (pa_cons (pv 1) (pa_cons (pv 0) pa_nil))) (pg_tupH (n := 2) rfl (pgs_cons (pg_name (i := 2) sc_is_seat.nd rfl (Or.inl rfl)) (pgs_cons (pg_name (i := 3) sc_is_seat.nd rfl (Or.inl rfl)) pgs_nil)))
        (pss_one (ps_if (PW.pt (pw_or (pt_not (pt_val (pe_callB (call_isIK (K := K) rfl) (by rfl) T.n_isinstance (by decide +kernel) (pa_cons (pv 2) (pa_cons (pe_bltn (v := .ty "int") (by rfl) T.n_int (by decide +kernel) rfl) pa_nil))))) (pw_or (pt_val (pe_callB (call_isIK (K := K) rfl) (by rfl) T.n_isinstance (by decide +kernel) (pa_cons (pv 2) (pa_cons (pe_bltn (v := .ty "bool") (by rfl) T.n_bool (by decide +kernel) rfl) pa_nil)))) (pw_or1 (pt_not (pt_chain op_le op_lt pe_int (pv 2) (pv 3))))))) (pss_one (ps_ret pe_bl)) pss_nil)))
      (pss_one (ps_ret pe_bl)))), ?_⟩
    walk_at "rd"
    rcases hb with ⟨h1, rfl⟩ | ⟨p, xs, rfl, hp, hb⟩
    · refine ⟨false, h1, ?_⟩
      walk_at "rd"
      exact q _ (Same.refl _)
    · refine ⟨true, isI_tup hp, ?_⟩
      have main : ∀ (hl : xs.length = ss.length) (J : It) (bs : List Bool), xs.length ≤ sizeLine → bs.length = xs.length → b = bs.all id → (∀ (i : Nat) x s c, xs[i]? = some x → ss[i]? = some s → bs[i]? = some c → PlaceB K H x s c) → Walk J xs.length (fun H => Sqh false H p xs ∧ Sqh k H a (ss.map V.int)) (YPair (fun i => xs[i]?) (fun i => (ss.map V.int)[i]?)) →
          ForR J (gTupH 2 (gCons (gName 2) (gCons (gName 3) gNil)))
                    (tIfS
                      (tOr (tNot (tB (tCB (rIsI K) (tCons (tVar 2) (tCons (tC (V.ty "int")) tNil)))))
                        (tOr (tB (tCB (rIsI K) (tCons (tVar 2) (tCons (tC (V.ty "bool")) tNil))))
                          (tNot
                            (tTest
                              (tChain (rI0 fun i j => V.bl (decide (i ≤ j))) (rI0 fun i j => V.bl (decide (i < j)))
                                (tC (V.int 0)) (tVar 2) (tVar 3))))))
                      (tRet (tC (V.bl false))) tNext)
                    { nx := tRet (tC (V.bl true)) { nx := fun x H' => Q V.non H', rt := Q }, rt := Q }
                    [some (V.ref a), some (V.ref p), none, none] H := fun hl J bs hz hbl hb hbs W => by
        subst hb
        refine forr W (fun i σ H' => Same H H' ∧ (∃ v2 v3, σ = [some (V.ref a), some (V.ref p), v2, v3]) ∧ (bs.take i).all id = true) ⟨Same.refl _, ⟨none, none, rfl⟩, rfl⟩ (fun i σ H' _ h => ⟨h.1 _ _ hp, hs.same h.1⟩) ?_ ?_
        · rintro i x σ2 H2 H3 hi ⟨s2, ⟨v2, v3, rfl⟩, hall⟩ ⟨T0, x1, y1, rfl, hT, rfl, e1, e2⟩
          simp only [List.getElem?_map, Option.map_eq_some_iff] at e1 e2
          obtain ⟨s3, hs3, rfl⟩ := e2
          have hib : i < bs.length := by rw [hbl]; exact hi
          have hc := List.getElem?_eq_getElem hib
          have sT := Same.new hT (o := .tup [x1, .int s3])
          have hpl := PlaceB.same (s2.trans sT) (hbs i x1 s3 _ e1 hs3 hc)
          have hno : bs[i] = false → bs.all id = false := fun e => by
            rw [Bool.eq_false_iff]
            intro h
            have := List.all_eq_true.mp h _ (List.getElem_mem hib)
            simp [e] at this
          have hyes : bs[i] = true → (bs.take (i + 1)).all id = true := fun e => by
            rw [List.take_add_one, hc, List.all_append, hall]
            simp [e]
          walk_at "rd"
          generalize upd H2 T0 (HO.tup [x1, V.int s3]) = H3 at sT hpl ⊢
          rcases hpl with ⟨⟨b1, b2, h1, h2, h3⟩, h0⟩ | ⟨n, rfl, h0⟩
          · rw [hno h0] at q
            refine ⟨b1, h1, ?_⟩
            cases b1 with
            | false => walk_at "rd"; exact q _ (s2.trans sT)
            | true =>
              walk_at "rd"
              refine ⟨b2, h2 rfl, ?_⟩
              cases b2 with
              | true => walk_at "rd"; exact q _ (s2.trans sT)
              | false => cases h3
          · rw [isI_int_int]
            walk_at "rd"
            rw [isI_int_bool]
            walk_at "rd"
            by_cases h4 : 0 ≤ n
            · rw [if_pos h4]
              rw [decide_eq_true h4, Bool.true_and] at h0
              by_cases h5 : n < s3
              · rw [if_neg (by omega)]
                exact ⟨s2.trans sT, hyes (by rw [h0, decide_eq_true h5])⟩
              · rw [if_pos (by omega)]
                rw [hno (by rw [h0, decide_eq_false h5])] at q
                exact q _ (s2.trans sT)
            · rw [if_neg h4]
              rw [decide_eq_false h4, Bool.false_and] at h0
              rw [hno h0] at q
              exact q _ (s2.trans sT)
        · rintro σ2 H2 ⟨s2, ⟨v2, v3, rfl⟩, hall⟩
          walk_at "rd"
          rw [← hbl, List.take_length] at hall
          rw [hall] at q
          exact q _ s2
      cases k with
      | true =>
        have hs' : H a = some (.lst (ss.map V.int)) := hs
        walk_at "rh"
        rcases hb with ⟨hl, rfl⟩ | ⟨hl, hz, bs, hbl, e, hbs⟩
        · rw [if_pos hl]; exact q _ (Same.refl _)
        · rw [if_neg (fun h => h hl)]
          exact ⟨false, true, xs, hp, _, hs, by rw [List.length_map]; exact hl, fun J W => main hl J bs hz hbl e hbs W⟩
      | false =>
        have hs' : H a = some (.tup (ss.map V.int)) := hs
        walk_at "rh"
        rcases hb with ⟨hl, rfl⟩ | ⟨hl, hz, bs, hbl, e, hbs⟩
        · rw [if_pos hl]; exact q _ (Same.refl _)
        · rw [if_neg (fun h => h hl)]
          exact ⟨false, false, xs, hp, _, hs, by rw [List.length_map]; exact hl, fun J W => main hl J bs hz hbl e hbs W⟩
/-- is_place(size, x) -/
def sp_is_place (K : PySem.W.Frag) : Sp := fun vs H Q _ => ∃ s x c, vs = [.int s, x] ∧ PlaceB K H x s c ∧ Q (.bl c) H
def sp_is_call (K : PySem.W.Frag) : Sp := fun vs H Q _ => ∃ k a ss x b, vs = [.ref a, x] ∧ Sqh k H a ss ∧ CallB K H ss.length x b ∧ ∀ H', Same H H' → Q (.bl b) H'
theorem ok_is_call (T : Tx K mg) : FnOk P w K mg base CX0 1 T.f_is_call T.fd_is_call ["sizes", "call"] (sp_is_call K) := by
  refine T.F_is_call.ok sc_is_call (fun vs H Q E h => ?_) (fun cdv A outer s H vs Q E hr h => ?_)
  · obtain ⟨k, a, ss, x, b, rfl, _⟩ := h; rfl
  · obtain ⟨k, a, ss, x, b, rfl, hs, hb, q⟩ := h
    refine ⟨_, (pss_cons (ps_if (PW.pt (pw_or (pt_not (pt_val (pe_callB (call_isIK (K := K) rfl) (by rfl) T.n_isinstance (by decide +kernel) (pa_cons (pv 1) (pa_cons (pe_bltn (v := .ty "tuple") (by rfl) T.n_tuple (by decide +kernel) rfl) pa_nil))))) (pw_or1 (pt_cmpR op_ne (pe_callB len_H (by rfl) T.n_len PySem.boot_len (pa_cons (pv 1) pa_nil)) (pe_callB len_H (by rfl) T.n_len PySem.boot_len (pa_cons (pv 0) pa_nil)) (nomark _))))) (pss_one (ps_ret pe_bl)) pss_nil)
      (pss_cons (ps_for PassesOwn.never rfl (pi_seqH (pv 1)) (pg_name (i := 2) sc_is_call.nd rfl (Or.inl rfl))
        (pss_one (ps_if (PW.pt (pw_or (pt_not (pt_val (pe_callB (call_isIK (K := K) rfl) (by rfl) T.n_isinstance (by decide +kernel) (pa_cons (pv 2) (pa_cons (pe_bltn (v := .ty "int") (by rfl) T.n_int (by decide +kernel) rfl) pa_nil))))) (pw_or1 (pt_val (pe_callB (call_isIK (K := K) rfl) (by rfl) T.n_isinstance (by decide +kernel) (pa_cons (pv 2) (pa_cons (pe_bltn (v := .ty "bool") (by rfl) T.n_bool (by decide +kernel) rfl) pa_nil))))))) (pss_one (ps_ret pe_bl)) pss_nil)))
      (pss_one (ps_ret pe_bl)))), ?_⟩
    walk_at "rd"
    rcases hb with ⟨h1, rfl⟩ | ⟨p, xs, rfl, hp, hb⟩
    · refine ⟨false, h1, ?_⟩
      walk_at "rd"
      exact q _ (Same.refl _)
    · refine ⟨true, isI_tup hp, ?_⟩
      have main : ∀ (J : It) (bs : List Bool), xs.length ≤ sizeLine → bs.length = xs.length → b = bs.all id → (∀ (i : Nat) x c, xs[i]? = some x → bs[i]? = some c → IsInt K H x c) → Walk J xs.length (fun H => H p = some (.tup xs)) (YAt xs) →
          ForR J (gName 2)
                    (tIfS
                      (tOr (tNot (tB (tCB (rIsI K) (tCons (tVar 2) (tCons (tC (V.ty "int")) tNil)))))
                        (tB (tCB (rIsI K) (tCons (tVar 2) (tCons (tC (V.ty "bool")) tNil)))))
                      (tRet (tC (V.bl false))) tNext)
                    { nx := tRet (tC (V.bl true)) { nx := fun x H' => Q V.non H', rt := Q }, rt := Q }
                    [some (V.ref a), some (V.ref p), none] H := fun J bs hz hbl hb hbs W => by
        subst hb
        refine forr W (fun i σ H' => Same H H' ∧ (∃ v2, σ = [some (V.ref a), some (V.ref p), v2]) ∧ (bs.take i).all id = true) ⟨Same.refl _, ⟨none, rfl⟩, rfl⟩ (fun i σ H' _ h => h.1 _ _ hp) ?_ ?_
        · rintro i x σ2 H2 H3 hi ⟨s2, ⟨v2, rfl⟩, hall⟩ ⟨rfl, e1⟩
          have hib : i < bs.length := by rw [hbl]; exact hi
          have hc := List.getElem?_eq_getElem hib
          have hno : bs[i] = false → bs.all id = false := fun e => by
            rw [Bool.eq_false_iff]
            intro h
            have := List.all_eq_true.mp h _ (List.getElem_mem hib)
            simp [e] at this
          have hyes : bs[i] = true → (bs.take (i + 1)).all id = true := fun e => by
            rw [List.take_add_one, hc, List.all_append, hall]
            simp [e]
          walk_at "rd"
          obtain ⟨b1, b2, h1, h2, h3⟩ := IsInt.same s2 (hbs i x _ e1 hc)
          refine ⟨b1, h1, ?_⟩
          cases b1 with
          | false =>
            rw [hno (by rw [h3]; rfl)] at q
            walk_at "rd"; exact q _ s2
          | true =>
            walk_at "rd"
            refine ⟨b2, h2 rfl, ?_⟩
            cases b2 with
            | true =>
              rw [hno (by rw [h3]; rfl)] at q
              walk_at "rd"; exact q _ s2
            | false =>
              walk_at "rd"
              exact ⟨s2, hyes (by rw [h3]; rfl)⟩
        · rintro σ2 H2 ⟨s2, ⟨v2, rfl⟩, hall⟩
          walk_at "rd"
          rw [← hbl, List.take_length] at hall
          rw [hall] at q
          exact q _ s2
      cases k with
      | true =>
        have hs' : H a = some (.lst ss) := hs
        walk_at "rh"
        rcases hb with ⟨hl, rfl⟩ | ⟨hl, hz, bs, hbl, e, hbs⟩
        · rw [if_pos hl]; exact q _ (Same.refl _)
        · rw [if_neg (fun h => h hl)]
          exact fun J W => main J bs hz hbl e hbs W
      | false =>
        have hs' : H a = some (.tup ss) := hs
        walk_at "rh"
        rcases hb with ⟨hl, rfl⟩ | ⟨hl, hz, bs, hbl, e, hbs⟩
        · rw [if_pos hl]; exact q _ (Same.refl _)
        · rw [if_neg (fun h => h hl)]
          exact fun J W => main J bs hz hbl e hbs W
def sp_is_direction (K : PySem.W.Frag) : Sp := fun vs H Q _ => ∃ x b, vs = [x] ∧ DirB K H x b ∧ ∀ H', Same H H' → Q (.bl b) H'
theorem ok_is_direction (T : Tx K mg) : FnOk P w K mg base CX0 1 T.f_is_direction T.fd_is_direction ["direction"] (sp_is_direction K) := by
  refine T.F_is_direction.ok sc_is_direction (fun vs H Q E h => ?_) (fun cdv A outer s H vs Q E hr h => ?_)
  · obtain ⟨x, b, rfl, _⟩ := h; rfl
  · obtain ⟨x, b, rfl, hb, q⟩ := h
    refine ⟨_, (pss_one (ps_ret (pe_and (pe_callB (call_isIK (K := K) rfl) (by rfl) T.n_isinstance (by decide +kernel) (pa_cons (pv 0) (pa_cons (pe_bltn (v := .ty "str") (by rfl) T.n_str (by decide +kernel) rfl) pa_nil))) (pe_one (pe_cmpR op_inH (pv 0) (pe_tup (pa_cons pe_str (pa_cons pe_str pa_nil))) rfl))))), ?_⟩
    walk_at "rd"
    rcases hb with ⟨h1, rfl⟩ | ⟨z, rfl, rfl⟩
    · refine ⟨false, h1, ?_⟩
      walk_at "rd"
      exact q _ (Same.refl _)
    · refine ⟨true, isI_ty (.base (.str z)) (by decide +kernel), ?_⟩
      walk_at "rd"
      intro p hp
      refine ⟨rfl, rfl, ?_⟩
      have e : inV (V.str z) [V.str "forward", V.str "backward"] = (z == "forward" || z == "backward") := by
        simp only [inV, List.any_cons, List.any_nil, eqV, Bool.or_false]
        rw [Bool.beq_comm (a := z), Bool.beq_comm (a := z)]
      rw [e]
      exact q _ (Same.new hp)
def sp_require_seat (K : PySem.W.Frag) : Sp := fun vs H Q _ => ∃ k a ss x, vs = [.ref a, x] ∧ Sqh k H a (ss.map V.int) ∧ SeatB K H ss x true ∧ ∀ H', Same H H' → Q .non H'
theorem ok_require_seat (T : Tx K mg) : FnOk P w K mg base CX0 2 T.f_require_seat T.fd_require_seat ["sizes", "seat"] (sp_require_seat K) := by
  refine T.F_require_seat.ok sc_require_seat (fun vs H Q E h => ?_) (fun cdv A outer s H vs Q E hr h => ?_)
  · obtain ⟨k, a, ss, x, rfl, _⟩ := h; rfl
  · obtain ⟨k, a, ss, x, rfl, hs, hb, q⟩ := h
    refine ⟨_, (pss_one (ps_if (pt_not (pt_val (pe_call (ok_is_seat T) (hr.mono (by decide)) (by rfl) T.g_is_seat T.F_is_seat.kp T.b_is_seat .nil pass0 (pa_cons (pv 0) (pa_cons (pv 1) pa_nil))))) (pss_one ps_never) pss_nil)), ?_⟩
    walk_at "rd"
    refine ⟨k, a, ss, x, true, rfl, hs, hb, fun H' s1 => ?_⟩
    walk_at "rd"
    exact q _ s1
def sp_require_call (K : PySem.W.Frag) : Sp := fun vs H Q _ => ∃ k a ss x, vs = [.ref a, x] ∧ Sqh k H a ss ∧ CallB K H ss.length x true ∧ ∀ H', Same H H' → Q .non H'
def sp_require_direction (K : PySem.W.Frag) : Sp := fun vs H Q _ => ∃ x, vs = [x] ∧ DirB K H x true ∧ ∀ H', Same H H' → Q .non H'
def sp_are_sizes (K : PySem.W.Frag) : Sp := fun vs H Q _ => ∃ x b, vs = [x] ∧ SizesB K H x b ∧ ∀ H', Same H H' → Q (.bl b) H'
theorem ok_are_sizes (T : Tx K mg) : FnOk P w K mg base CX0 2 T.f_are_sizes T.fd_are_sizes ["rings"] (sp_are_sizes K) := by
  refine T.F_are_sizes.ok sc_are_sizes (fun vs H Q E h => ?_) (fun cdv A outer s H vs Q E hr h => ?_)
  · obtain ⟨x, b, rfl, _⟩ := h; rfl
  · obtain ⟨x, b, rfl, hb, q⟩ := h
    refine ⟨_, (pss_cons (ps_if (PW.pt (pw_or (pt_not (pt_val (pe_callB (call_isAK (K := K) rfl) (by rfl) T.n_isinstance (by decide +kernel) (pa_cons (pv 0) (pa_cons (pe_tup (pa_cons (pe_bltn (v := .ty "list") (by rfl) T.n_list (by decide +kernel) rfl) (pa_cons (pe_bltn (v := .ty "tuple") (by rfl) T.n_tuple (by decide +kernel) rfl) pa_nil))) pa_nil))))) (pw_or1 (pt_not (pt_chain op_le op_le pe_int (pe_callB len_H (by rfl) T.n_len PySem.boot_len (pa_cons (pv 0) pa_nil)) (pe_glob (by rfl) T.g_MAX_RINGS T.r_MAX_RINGS)))))) (pss_one (ps_ret pe_bl)) pss_nil)
      (pss_one (ps_ret (pe_callB (all_H rfl) (by rfl) T.n_all (by decide +kernel) (pa_cons (pe_lc (own := [("size", 1)]) (g := (gName 1)) (tt := tYes) rfl sc_are_sizes.nd (pi_seqH (pv 0)) (blkOk_by (own := [("size", 1)]) (N := N_are_sizes) (sc := defScope d_are_sizes) (by decide +kernel)) (fun _ _ _ _ _ => (pg_name (i := 1) sc_are_sizes.nd rfl (Or.inl rfl))) (fun _ _ _ _ _ => pts_nil) (fun _ _ _ _ _ => (pe_and (pe_call (ok_is_integer T) (hr.mono (by decide)) (by rfl) T.g_is_integer T.F_is_integer.kp T.b_is_integer .nil pass0 (pa_cons (pv 1) pa_nil)) (pe_one (pe_cmpR op_ge (pv 1) pe_int (nomark _)))))) pa_nil))))), ?_⟩
    walk_at "rd"
    intro tp htp
    have s1 := Same.new htp (o := .tup [V.ty "list", V.ty "tuple"])
    generalize upd H tp (HO.tup [V.ty "list", V.ty "tuple"]) = H1 at s1 ⊢
    rcases hb with ⟨h1, rfl⟩ | ⟨k, p, xs, rfl, hs, hb⟩
    · refine ⟨false, IsA.same s1 h1, ?_⟩
      rw [if_pos rfl]
      exact q _ s1
    · have hs1 : Sqh k H1 p xs := hs.same s1
      have main : ∀ (J : It) (G : Hp → Prop) (bs : List Bool), xs.length ≤ sizeLine → bs.length = xs.length → b = bs.all id → (∀ (i : Nat) x c, xs[i]? = some x → bs[i]? = some c → (IsInt K H x false ∧ c = false) ∨ ∃ n, x = .int n ∧ c = decide (1 ≤ n)) → (∀ H2, Same H1 H2 → G H2) → Walk J xs.length G (YAt xs) →
          LcR J (gName 1) tYes (tAndV (tCall (sp_is_integer K) [] E0 (tCons (tVar 1) tNil)) (tOp (rI0 fun i j => V.bl (decide (j ≤ i))) (tVar 1) (tC (V.int 1)))) [1] [some (V.ref p), none] H1
            fun x H1 => ∃ p, x = V.ref p ∧ ∃ bs : List Bool, H1 p = some (HO.lst (List.map V.bl bs)) ∧ Q (V.bl (bs.all id)) H1 := fun J G bs hz hbl hb hbs hG W => by
        subst hb
        refine lcr_map W (bs.map V.bl) (by rw [List.length_map]; exact hbl) hz hG (fun _ _ _ _ y => YAt.same y) ?_ ?_
        · intro i x H2 H3 y Qy hi s2 hy hr hq
          obtain ⟨rfl, hx⟩ := hy
          simp only [List.getElem?_map, Option.map_eq_some_iff] at hr
          obtain ⟨c, hc, rfl⟩ := hr
          walk_at "rd"
          rcases hbs i x c hx hc with ⟨h0, rfl⟩ | ⟨n, rfl, rfl⟩
          · refine ⟨_, false, rfl, IsInt.same (s1.trans s2) h0, ?_⟩
            walk_at "rd"
            exact hq _ (Same.refl _)
          · refine ⟨_, true, rfl, isInt_int n, ?_⟩
            walk_at "rd"
            exact hq _ (Same.refl _)
        · intro D H2 hD s2 h1
          exact ⟨D, rfl, bs, h1, q _ (s1.trans s2)⟩
      cases k with
      | true =>
        have hs' : H1 p = some (.lst xs) := hs1
        refine ⟨true, isA_two (.base (.lst hs')) (b1 := true) (b2 := false) (by decide +kernel) (by decide +kernel) rfl, ?_⟩
        walk_at "rh"
        rcases hb with ⟨hl, rfl⟩ | ⟨hl, hz, bs, hbl, e, hbs⟩
        · by_cases h1 : 1 ≤ xs.length
          · rw [if_pos (by omega), if_pos (by omega)]; exact q _ s1
          · rw [if_neg (by omega)]; exact q _ s1
        · rw [if_pos (by omega), if_neg (by omega)]
          exact fun J W => main J _ bs (Nat.le_trans hz (by decide)) hbl e hbs (fun H2 s2 => s2 _ _ hs') W
      | false =>
        have hs' : H1 p = some (.tup xs) := hs1
        refine ⟨true, isA_two (.base (.tup hs')) (b1 := false) (b2 := true) (by decide +kernel) (by decide +kernel) rfl, ?_⟩
        walk_at "rh"
        rcases hb with ⟨hl, rfl⟩ | ⟨hl, hz, bs, hbl, e, hbs⟩
        · by_cases h1 : 1 ≤ xs.length
          · rw [if_pos (by omega), if_pos (by omega)]; exact q _ s1
          · rw [if_neg (by omega)]; exact q _ s1
        · rw [if_pos (by omega), if_neg (by omega)]
          exact fun J W => main J _ bs (Nat.le_trans hz (by decide)) hbl e hbs (fun H2 s2 => s2 _ _ hs') W
/-- an instance is written; all else is as it was -/
def sp_Table_init (K : PySem.W.Frag) (C : Addr) : Sp := fun vs H Q _ => ∃ (a dx : Addr) (x : V) (p : Addr) (k : Bool) (ss : List Int), vs = [.ref a, x] ∧ H a = some (.ins C dx []) ∧ x = .ref p ∧ Sqh k H p (ss.map V.int) ∧ 1 ≤ ss.length ∧ ss.length ≤ 4 ∧ (∀ n ∈ ss, 1 ≤ n) ∧
  ∀ H' t, Sx a H H' → H' a = some (.ins C dx [("_sizes", .ref t)]) → H' t = some (.tup (ss.map V.int)) → Q .non H'
theorem ok_Table_init (T : Tx K mg) : FnOk P w K mg base CX0 3 T.f_Table_init T.fd_Table_init ["self", "rings"] (sp_Table_init K T.c_Table) := by
  refine T.F_Table_init.ok sc_Table_init (fun vs H Q E h => ?_) (fun cdv A outer s H vs Q E hr h => ?_)
  · obtain ⟨a, dx, x, p, k, ss, rfl, _⟩ := h; rfl
  · obtain ⟨a, dx, x, p, k, ss, rfl, ha, rfl, hs, h1, h4, hpos, q⟩ := h
    refine ⟨_, (pss_cons (ps_if (pt_not (pt_val (pe_call (ok_are_sizes T) (hr.mono (by decide)) (by rfl) T.g_are_sizes T.F_are_sizes.kp T.b_are_sizes .nil pass0 (pa_cons (pv 1) pa_nil)))) (pss_one ps_never) pss_nil)
      (pss_one (ps_fld (pv 0) (pe_callTy tuple_H (by rfl) T.n_tuple (by decide +kernel) (pa_cons (pv 1) pa_nil)) rfl))), ?_⟩
    walk_at "rd"
    refine ⟨_, true, rfl, .inr ⟨k, p, ss.map V.int, rfl, hs, .inr ⟨by rw [List.length_map]; exact h1, by rw [List.length_map]; exact h4, List.replicate ss.length true, by simp, by simp, fun i x c hx hc => ?_⟩⟩, fun H1 s1 => ?_⟩
    · simp only [List.getElem?_map, Option.map_eq_some_iff] at hx
      obtain ⟨n, hn, rfl⟩ := hx
      have hi : i < ss.length := (List.getElem?_eq_some_iff.mp hn).1
      rw [List.getElem?_replicate, if_pos hi] at hc
      refine .inr ⟨n, rfl, ?_⟩
      rw [decide_eq_true (hpos n (List.mem_of_getElem? hn))]
      exact (Option.some.inj hc).symm
    · have ha1 := s1 _ _ ha
      have hs1 := hs.same s1
      have cl := T.cl_Table
      have no := T.no_Table_sizes
      walk_at "rd"
      cases k with
      | true =>
        have hs' : H1 p = some (.lst (ss.map V.int)) := hs1
        walk_at "rh"
        intro l hl
        have e1 : upd H1 l (.tup (ss.map V.int)) a = some (.ins T.c_Table dx []) := by rw [upd_old hl (by rw [ha1]; simp)]; exact ha1
        rw [e1]
        refine ⟨_, _, _, rfl, cl, no, by decide, ?_⟩
        have nla : l ≠ a := fun e => by rw [e, ha1] at hl; cases hl
        exact q _ l (Sx.trans (Sx.of (s1.trans (Same.new hl))) Sx.put) upd_same (by rw [upd_ne nla]; exact upd_same)
      | false =>
        have hs' : H1 p = some (.tup (ss.map V.int)) := hs1
        walk_at "rh"
        have npa : p ≠ a := ne_two hs' ha1 (by simp)
        exact ⟨by decide, q _ p (Sx.trans (Sx.of s1) Sx.put) upd_same (by rw [upd_ne npa]; exact hs')⟩
def sp_Table_sizes (K : PySem.W.Frag) (C : Addr) : Sp := fun vs H Q _ => ∃ (a : Addr) (ss : List Int), vs = [.ref a] ∧ TabAt C H a ss ∧ ∀ t, H t = some (.tup (ss.map V.int)) → Q (.ref t) H
theorem ok_Table_sizes (T : Tx K mg) : FnOk P w K mg base CX0 1 T.f_Table_sizes T.fd_Table_sizes ["self"] (sp_Table_sizes K T.c_Table) := by
  refine T.F_Table_sizes.ok sc_Table_sizes (fun vs H Q E h => ?_) (fun cdv A outer s H vs Q E hr h => ?_)
  · obtain ⟨a, ss, rfl, _⟩ := h; rfl
  · obtain ⟨a, ss, rfl, ⟨dx, t, h1, h2⟩, q⟩ := h
    refine ⟨_, (pss_one (ps_ret (pe_fld (pv 0) rfl))), ?_⟩
    have cl := T.cl_Table
    have no := T.no_Table_sizes
    walk_at "rh"
def prodI (ss : List Int) : Int := ss.foldl (fun a b => a * b) 1
theorem prodI_take {ss : List Int} {i : Nat} {n : Int} (h : ss[i]? = some n) : prodI (ss.take (i + 1)) = prodI (ss.take i) * n := by
  unfold prodI
  rw [List.take_add_one, h, List.foldl_append]
  rfl
theorem prodI_small {B : Nat} : ∀ {ss : List Int}, (∀ n ∈ ss, n.natAbs < 2 ^ B) → (prodI ss).natAbs < 2 ^ (B * ss.length + 1) := by
  have gen : ∀ (ss : List Int) (a : Int) (A : Nat), (∀ n ∈ ss, n.natAbs < 2 ^ B) → a.natAbs < 2 ^ A → (ss.foldl (fun a b => a * b) a).natAbs < 2 ^ (A + B * ss.length) := by
    intro ss
    induction ss with
    | nil => intro a A _ h; simpa using h
    | cons x r ih =>
      intro a A h ha
      have h1 : (a * x).natAbs < 2 ^ (A + B) := wide_lt ha (h x (List.mem_cons_self ..))
      have h2 := ih (a * x) (A + B) (fun n hn => h n (List.mem_cons_of_mem _ hn)) h1
      rw [List.length_cons, Nat.mul_succ, show A + (B * r.length + B) = A + B + B * r.length by omega]
      exact h2
  intro ss h
  have q := gen ss 1 1 h (by decide)
  rw [Nat.add_comm 1] at q
  exact q
/-- the sizes of a table that is used: 1 to 4, each of at most 1000 bits -/
structure Sz (ss : List Int) : Prop where
  lo : 1 ≤ ss.length
  hi : ss.length ≤ 4
  pos : ∀ n ∈ ss, 1 ≤ n
  bits : ∀ n ∈ ss, n.natAbs < 2 ^ 1000
theorem Sz.mul {ss : List Int} (z : Sz ss) {i : Nat} {n : Int} (h : ss[i]? = some n) : CMulW (prodI (ss.take i)) n := by
  have h1 := prodI_small (B := 1000) (ss := ss.take i) fun n hn => z.bits n (List.mem_of_mem_take hn)
  have h2 := z.bits n (List.mem_of_getElem? h)
  have h3 : (ss.take i).length ≤ 4 := Nat.le_trans (by rw [List.length_take]; omega) z.hi
  exact wide_mul h1 h2 (by omega) (by omega) (by omega)
def sp_Table_count (K : PySem.W.Frag) (C : Addr) : Sp := fun vs H Q _ => ∃ (a : Addr) (ss : List Int), vs = [.ref a] ∧ TabAt C H a ss ∧ Sz ss ∧ Q (.int (prodI ss)) H
/-- the places of the steps -/
def mv (g : Int → Int → Int) : List Int → List Int → List Int → List Int
  | p :: ps, c :: cs, s :: ss => (g p c % s) :: mv g ps cs ss
  | _, _, _ => []
theorem mv_len {g : Int → Int → Int} : ∀ {ps cs ss : List Int}, ps.length = cs.length → cs.length = ss.length → (mv g ps cs ss).length = ps.length
  | [], [], [], _, _ => rfl
  | p :: ps, c :: cs, s :: ss, h1, h2 => by
    show (mv g ps cs ss).length + 1 = ps.length + 1
    rw [mv_len (by simpa using h1) (by simpa using h2)]
theorem mv_get {g : Int → Int → Int} : ∀ {ps cs ss : List Int} {i : Nat} {p c s : Int}, ps[i]? = some p → cs[i]? = some c → ss[i]? = some s → (mv g ps cs ss)[i]? = some (g p c % s)
  | p :: ps, c :: cs, s :: ss, 0, _, _, _, h1, h2, h3 => by
    simp only [List.getElem?_cons_zero, Option.some.injEq] at h1 h2 h3
    subst h1 h2 h3
    rfl
  | p :: ps, c :: cs, s :: ss, i + 1, _, _, _, h1, h2, h3 => mv_get (ps := ps) (cs := cs) (ss := ss) (i := i) h1 h2 h3
  | [], _, _, _, _, _, _, h, _, _ => by simp at h
  | _ :: _, [], _, _, _, _, _, _, h, _ => by simp at h
  | _ :: _, _ :: _, [], _, _, _, _, _, _, h => by simp at h
/-- ps a seat of the sizes ss -/
structure Seat (ss ps : List Int) : Prop where
  len : ps.length = ss.length
  ok : ∀ (i : Nat) p s, ps[i]? = some p → ss[i]? = some s → 0 ≤ p ∧ p < s
theorem Seat.b {K : PySem.W.Frag} {H : Hp} {ss ps : List Int} {p : Addr} (h : Seat ss ps) (z : Sz ss) (hp : H p = some (.tup (ps.map V.int))) : SeatB K H ss (.ref p) true := by
  refine .inr ⟨p, _, rfl, hp, .inr ⟨by rw [List.length_map]; exact h.len, ?_, List.replicate ps.length true, by simp, by simp, fun i x s c hx hs hc => ?_⟩⟩
  · have h4 := z.hi
    have hl := h.len
    rw [List.length_map]
    exact Nat.le_trans (by omega : ps.length ≤ 4) (by decide)
  · simp only [List.getElem?_map, Option.map_eq_some_iff] at hx
    obtain ⟨n, hn, rfl⟩ := hx
    have hi : i < ps.length := (List.getElem?_eq_some_iff.mp hn).1
    rw [List.getElem?_replicate, if_pos hi] at hc
    obtain ⟨h1, h2⟩ := h.ok i n s hn hs
    refine .inr ⟨n, rfl, ?_⟩
    rw [decide_eq_true h1, decide_eq_true h2]
    exact (Option.some.inj hc).symm
theorem call_b {K : PySem.W.Frag} {H : Hp} {cs : List Int} {n : Nat} {p : Addr} (h : cs.length = n) (hn : n ≤ 4) (hp : H p = some (.tup (cs.map V.int))) : CallB K H n (.ref p) true := by
  refine .inr ⟨p, _, rfl, hp, .inr ⟨by rw [List.length_map]; exact h, ?_, List.replicate cs.length true, by simp, by simp, fun i x c hx hc => ?_⟩⟩
  · rw [List.length_map]
    exact Nat.le_trans (by omega : cs.length ≤ 4) (by decide)
  · simp only [List.getElem?_map, Option.map_eq_some_iff] at hx
    obtain ⟨m, hm, rfl⟩ := hx
    have hi : i < cs.length := (List.getElem?_eq_some_iff.mp hm).1
    rw [List.getElem?_replicate, if_pos hi] at hc
    obtain rfl := Option.some.inj hc
    exact isInt_int m
def fw (p c : Int) : Int := p + c
def bw (p c : Int) : Int := p - c
def sp_both_moves (K : PySem.W.Frag) : Sp := fun vs H Q _ => ∃ (kt : Bool) (t p c : Addr) (ss ps cs : List Int), vs = [.ref t, .ref p, .ref c] ∧ Sqh kt H t (ss.map V.int) ∧ H p = some (.tup (ps.map V.int)) ∧ H c = some (.tup (cs.map V.int)) ∧ ps.length = cs.length ∧ cs.length = ss.length ∧ ss.length ≤ 4 ∧ (∀ n ∈ ss, 0 < n) ∧
  ∀ H' r f b, Same H H' → H' r = some (.tup [.ref f, .ref b]) → H' f = some (.tup ((mv fw ps cs ss).map V.int)) → H' b = some (.tup ((mv bw ps cs ss).map V.int)) → Q (.ref r) H'
theorem mv_snoc {g : Int → Int → Int} {ps cs ss : List Int} {i : Nat} {p c s : Int} (h1 : ps[i]? = some p) (h2 : cs[i]? = some c) (h3 : ss[i]? = some s) : (mv g ps cs ss).take (i + 1) = (mv g ps cs ss).take i ++ [g p c % s] := by
  rw [List.take_add_one, mv_get h1 h2 h3]
  rfl
theorem ok_both_moves (T : Tx K mg) : FnOk P w K mg base CX0 1 T.f_both_moves T.fd_both_moves ["sizes", "seat", "call"] (sp_both_moves K) := by
  refine T.F_both_moves.ok sc_both_moves (fun vs H Q E h => ?_) (fun cdv A outer s H vs Q E hr h => ?_)
  · obtain ⟨kt, t, p, c, ss, ps, cs, rfl, _⟩ := h; rfl
  · obtain ⟨kt, t, p, c, ss, ps, cs, rfl, ht, hp, hc, hl1, hl2, h4, pos, q⟩ := h
    refine ⟨_, (pss_cons (ps_set (i := 3) sc_both_moves.nd rfl (Or.inl rfl) (pe_lst pa_nil))
      (pss_cons (ps_set (i := 4) sc_both_moves.nd rfl (Or.inl rfl) (pe_lst pa_nil))
      (pss_cons (ps_for PassesOwn.never rfl (pi_z3H (by rfl) T.n_zip (pa_cons (pv 1) (pa_cons (pv 2) (pa_cons (pv 0) pa_nil)))) (pg_tupH (n := 3) rfl (pgs_cons (pg_name (i := 5) sc_both_moves.nd rfl (Or.inl rfl)) (pgs_cons (pg_name (i := 6) sc_both_moves.nd rfl (Or.inl rfl)) (pgs_cons (pg_name (i := 7) sc_both_moves.nd rfl (Or.inl rfl)) pgs_nil))))
        (pss_cons (ps_expr (pe_append (pv 3) (pa_cons (pe_op op_mod (pe_op op_add (pv 5) (pv 6)) (pv 7)) pa_nil)))
        (pss_one (ps_expr (pe_append (pv 4) (pa_cons (pe_op op_mod (pe_op op_sub (pv 5) (pv 6)) (pv 7)) pa_nil))))))
      (pss_one (ps_ret (pe_tup (pa_cons (pe_callTy tuple_H (by rfl) T.n_tuple (by decide +kernel) (pa_cons (pv 3) pa_nil)) (pa_cons (pe_callTy tuple_H (by rfl) T.n_tuple (by decide +kernel) (pa_cons (pv 4) pa_nil)) pa_nil)))))))), ?_⟩
    walk_at "rd"
    intro F hF
    have s1 := Same.new hF (o := .lst [])
    have f1 : (upd H F (.lst [])) F = some (.lst []) := upd_same
    generalize upd H F (HO.lst []) = H1 at s1 f1 ⊢
    intro B hB
    have s2 := Same.new hB (o := .lst [])
    have b2 : (upd H1 B (.lst [])) B = some (.lst []) := upd_same
    generalize upd H1 B (HO.lst []) = H2 at s2 b2 ⊢
    have nFB : F ≠ B := ne_some f1 hB
    have hHB : H B = none := by
      cases e : H B with
      | none => rfl
      | some u => rw [s1 _ _ e] at hB; cases hB
    have s02 := s1.trans s2
    refine ⟨false, false, kt, ps.map V.int, s02 _ _ hp, cs.map V.int, s02 _ _ hc, ss.map V.int, ht.same s02, by rw [List.length_map, List.length_map, hl1], by rw [List.length_map, List.length_map, hl2], fun J W => ?_⟩
    refine forr W (fun i σ H' => ∃ v5 v6 v7, σ = [some (V.ref t), some (V.ref p), some (V.ref c), some (V.ref F), some (V.ref B), v5, v6, v7] ∧ Same H H' ∧ H' F = some (.lst (((mv fw ps cs ss).take i).map V.int)) ∧ H' B = some (.lst (((mv bw ps cs ss).take i).map V.int))) ⟨none, none, none, rfl, s02, s2 _ _ f1, b2⟩ (fun i σ H' _ h => by
      obtain ⟨_, _, _, _, h, _⟩ := h
      exact ⟨h _ _ hp, h _ _ hc, ht.same h⟩) ?_ ?_
    · rintro i x σ3 H3 H4 hi ⟨v5, v6, v7, rfl, s3, hF3, hB3⟩ ⟨T0, x1, y1, z1, rfl, hT, rfl, e1, e2, e3⟩
      simp only [List.getElem?_map, Option.map_eq_some_iff] at e1 e2 e3
      obtain ⟨x2, hx2, rfl⟩ := e1
      obtain ⟨y2, hy2, rfl⟩ := e2
      obtain ⟨z2, hz2, rfl⟩ := e3
      rw [List.length_map] at hi
      have hz0 := pos z2 (List.mem_of_getElem? hz2)
      have sT := Same.new hT (o := .tup [V.int x2, V.int y2, V.int z2])
      walk_at "rd"
      generalize upd H3 T0 (HO.tup [V.int x2, V.int y2, V.int z2]) = H4 at sT ⊢
      have lmv : ∀ g, ((mv g ps cs ss).take i).length ≤ 4 := fun g => by
        rw [List.length_take, mv_len hl1 hl2]; omega
      refine ⟨⟨_, sT _ _ hF3⟩, hz0, _, sT _ _ hF3, ?_, ?_⟩
      · rw [List.length_map]; exact Nat.lt_of_le_of_lt (lmv _) (by decide)
      refine ⟨⟨_, by rw [upd_ne (Ne.symm nFB)]; exact sT _ _ hB3⟩, hz0, _, by rw [upd_ne (Ne.symm nFB)]; exact sT _ _ hB3, ?_, ?_⟩
      · rw [List.length_map]; exact Nat.lt_of_le_of_lt (lmv _) (by decide)
      refine ⟨fun u o hu => ?_, ?_, ?_⟩
      · rw [upd_ne (ne_some hu hHB), upd_ne (ne_some hu hF)]
        exact sT _ _ (s3 _ _ hu)
      · rw [upd_ne nFB, upd_same, mv_snoc hx2 hy2 hz2, List.map_append]
        rfl
      · rw [mv_snoc hx2 hy2 hz2, List.map_append]
        rfl
    · rintro σ3 H3 ⟨v5, v6, v7, rfl, s3, hF3, hB3⟩
      rw [List.length_map] at hF3 hB3
      have hl : ∀ g, ps.length = (mv g ps cs ss).length := fun g => (mv_len hl1 hl2).symm
      rw [hl fw, List.take_length] at hF3
      rw [hl bw, List.take_length] at hB3
      walk_at "rd"
      refine .inl ⟨_, hF3, fun f hf => ?_⟩
      have s4 := Same.new hf (o := .tup ((mv fw ps cs ss).map V.int))
      have f4 : (upd H3 f (.tup ((mv fw ps cs ss).map V.int))) f = some (.tup ((mv fw ps cs ss).map V.int)) := upd_same
      generalize upd H3 f (HO.tup ((mv fw ps cs ss).map V.int)) = H4 at s4 f4 ⊢
      refine .inl ⟨_, s4 _ _ hB3, fun b hb => ?_⟩
      have s5 := Same.new hb (o := .tup ((mv bw ps cs ss).map V.int))
      have b5 : (upd H4 b (.tup ((mv bw ps cs ss).map V.int))) b = some (.tup ((mv bw ps cs ss).map V.int)) := upd_same
      generalize upd H4 b (HO.tup ((mv bw ps cs ss).map V.int)) = H5 at s5 b5 ⊢
      intro r hr
      have s6 := Same.new hr (o := .tup [.ref f, .ref b])
      exact q _ r f b (((s3.trans s4).trans s5).trans s6) upd_same (s6 _ _ (s5 _ _ f4)) (s6 _ _ b5)
def sp_Table_moves (K : PySem.W.Frag) (C : Addr) : Sp := fun vs H Q _ => ∃ (a p c : Addr) (ss ps cs : List Int), vs = [.ref a, .ref p, .ref c] ∧ TabAt C H a ss ∧ Sz ss ∧ H p = some (.tup (ps.map V.int)) ∧ Seat ss ps ∧ H c = some (.tup (cs.map V.int)) ∧ cs.length = ss.length ∧
  ∀ H' r f b, Same H H' → H' r = some (.tup [.ref f, .ref b]) → H' f = some (.tup ((mv fw ps cs ss).map V.int)) → H' b = some (.tup ((mv bw ps cs ss).map V.int)) → Q (.ref r) H'
def sp_stepped (K : PySem.W.Frag) : Sp := fun vs H Q _ => ∃ (kt : Bool) (t p c : Addr) (z : Str) (ss ps cs : List Int), vs = [.ref t, .ref p, .ref c, .str z] ∧ Sqh kt H t (ss.map V.int) ∧ H p = some (.tup (ps.map V.int)) ∧ H c = some (.tup (cs.map V.int)) ∧ ps.length = cs.length ∧ cs.length = ss.length ∧ ss.length ≤ 4 ∧ (∀ n ∈ ss, 0 < n) ∧ (z = "forward" ∨ z = "backward") ∧
  ∀ H' f, Same H H' → H' f = some (.tup ((mv (if z = "forward" then fw else bw) ps cs ss).map V.int)) → Q (.ref f) H'
theorem ok_stepped (T : Tx K mg) : FnOk P w K mg base CX0 2 T.f_stepped T.fd_stepped ["sizes", "seat", "call", "direction"] (sp_stepped K) := by
  refine T.F_stepped.ok sc_stepped (fun vs H Q E h => ?_) (fun cdv A outer s H vs Q E hr h => ?_)
  · obtain ⟨kt, t, p, c, z, ss, ps, cs, rfl, _⟩ := h; rfl
  · obtain ⟨kt, t, p, c, zz, ss, ps, cs, rfl, ht, hp, hc, hl1, hl2, h4, pos, hz, q⟩ := h
    refine ⟨_, (pss_cons (ps_asg (pe_call (ok_both_moves T) (hr.mono (by decide)) (by rfl) T.g_both_moves T.F_both_moves.kp T.b_both_moves .nil pass0 (pa_cons (pv 0) (pa_cons (pv 1) (pa_cons (pv 2) pa_nil)))) (pg_tupH (n := 2) rfl (pgs_cons (pg_name (i := 4) sc_stepped.nd rfl (Or.inl rfl)) (pgs_cons (pg_name (i := 5) sc_stepped.nd rfl (Or.inl rfl)) pgs_nil))))
      (pss_cons (ps_if (pt_cmpR op_eq (pv 3) pe_str (nomark _)) (pss_one (ps_ret (pv 4))) pss_nil)
      (pss_one (ps_ret (pv 5))))), ?_⟩
    walk_at "rh"
    refine ⟨kt, t, p, c, ss, ps, cs, rfl, ht, hp, hc, hl1, hl2, h4, pos, fun H1 r f b s1 hr hf hb => ?_⟩
    walk_at "rh"
    rcases hz with rfl | rfl
    · rw [if_pos rfl] at q ⊢
      exact q _ f s1 hf
    · have e : ¬ (("backward" : Str) = "forward") := by decide +kernel
      rw [if_neg e] at q ⊢
      exact q _ b s1 hb
def sp_Table_step (K : PySem.W.Frag) (C : Addr) : Sp := fun vs H Q _ => ∃ (a p c : Addr) (z : Str) (ss ps cs : List Int), vs = [.ref a, .ref p, .ref c, .str z] ∧ TabAt C H a ss ∧ Sz ss ∧ H p = some (.tup (ps.map V.int)) ∧ Seat ss ps ∧ H c = some (.tup (cs.map V.int)) ∧ cs.length = ss.length ∧ (z = "forward" ∨ z = "backward") ∧
  ∀ H' f, Same H H' → H' f = some (.tup ((mv (if z = "forward" then fw else bw) ps cs ss).map V.int)) → Q (.ref f) H'
end

/-! ### words of directions, one step by a word -/
section
variable {P : Program} {w : World} {K : PySem.W.Frag} {mg : Str → Option Value} {base : Heap}
/-- the word of a direction -/
def offW (b : Bool) : Str := if b then "backward" else "forward"
/-- one step of a move, forward (1) or backward (-1) -/
def sgn (b : Bool) : Int := if b then -1 else 1
def mvW (b : Bool) (ps cs ss : List Int) : List Int := if b then mv bw ps cs ss else mv fw ps cs ss
theorem mvW_get {b : Bool} {ps cs ss : List Int} {i : Nat} {p c s : Int} (h1 : ps[i]? = some p) (h2 : cs[i]? = some c) (h3 : ss[i]? = some s) : (mvW b ps cs ss)[i]? = some ((p + sgn b * c) % s) := by
  cases b with
  | true =>
    show (mv bw ps cs ss)[i]? = _
    rw [mv_get h1 h2 h3]
    show some ((p - c) % s) = some ((p + -1 * c) % s)
    congr 2
    omega
  | false =>
    show (mv fw ps cs ss)[i]? = _
    rw [mv_get h1 h2 h3]
    show some ((p + c) % s) = some ((p + 1 * c) % s)
    congr 2
    omega
theorem mvW_len {b : Bool} {ps cs ss : List Int} (h1 : ps.length = ss.length) (h2 : cs.length = ss.length) : (mvW b ps cs ss).length = ss.length := by
  cases b with
  | true => show (mv bw ps cs ss).length = _; rw [mv_len (by rw [h1, h2]) h2, h1]
  | false => show (mv fw ps cs ss).length = _; rw [mv_len (by rw [h1, h2]) h2, h1]
theorem mv_seatW {g : Int → Int → Int} : ∀ {ps cs ss : List Int}, ps.length = ss.length → cs.length = ss.length → (∀ s ∈ ss, 1 ≤ s) → Seat ss (mv g ps cs ss) := fun {ps cs ss} h1 h2 h3 =>
  ⟨by rw [mv_len (by rw [h1, h2]) h2, h1], fun i p s hp hs => by
    have hi : i < ss.length := (List.getElem?_eq_some_iff.mp hs).1
    rw [mv_get (List.getElem?_eq_getElem (by omega)) (List.getElem?_eq_getElem (by omega)) hs] at hp
    obtain rfl := Option.some.inj hp
    have := h3 s (List.mem_of_getElem? hs)
    exact ⟨Int.emod_nonneg _ (by omega), Int.emod_lt_of_pos _ (by omega)⟩⟩
theorem mvW_seat {b : Bool} {ps cs ss : List Int} (h1 : ps.length = ss.length) (h2 : cs.length = ss.length) (h3 : ∀ s ∈ ss, 1 ≤ s) : Seat ss (mvW b ps cs ss) := by
  cases b with
  | true => exact mv_seatW h1 h2 h3
  | false => exact mv_seatW h1 h2 h3
theorem offW_or (b : Bool) : offW b = "forward" ∨ offW b = "backward" := by cases b <;> simp [offW]
theorem step_off (b : Bool) (ps cs ss : List Int) : mv (if offW b = "forward" then fw else bw) ps cs ss = mvW b ps cs ss := by
  cases b with
  | true =>
    have e : ¬ (offW true = ("forward" : Str)) := by decide +kernel
    rw [if_neg e]
    rfl
  | false =>
    have e : offW false = ("forward" : Str) := rfl
    rw [if_pos e]
    rfl
theorem offW_dir {K : PySem.W.Frag} {H : Hp} (b : Bool) : DirB K H (.str (offW b)) true := .inr ⟨offW b, rfl, by cases b <;> decide +kernel⟩
end

/-! ### targets -/
/-- targets gs at tg -/
def TgtAt (k : Bool) (H : Hp) (tg : Addr) (gs : List (List Int)) : Prop := ∃ as : List Addr, Sqh k H tg (as.map V.ref) ∧ AsT H as gs
theorem TgtAt.same {k : Bool} {H H' : Hp} {tg : Addr} {gs : List (List Int)} (e : Same H H') (h : TgtAt k H tg gs) : TgtAt k H' tg gs := by
  obtain ⟨as, h1, h2⟩ := h
  exact ⟨as, h1.same e, h2.same e⟩
theorem ix_seq {k : Bool} {H : Hp} {p : Addr} {xs : List V} {i : Int} {v : V} {R : V → Prop} (h : Sqh k H p xs) (hv : atI xs i = some v) (q : R v) :
    (∃ xs, H p = some (HO.lst xs) ∧ ∃ v, atI xs i = some v ∧ R v) ∨ ∃ xs, H p = some (HO.tup xs) ∧ ∃ v, atI xs i = some v ∧ R v := by
  cases k with
  | true => exact .inl ⟨xs, h, v, hv, q⟩
  | false => exact .inr ⟨xs, h, v, hv, q⟩
/-- valid targets -/
structure Tgts (ss : List Int) (gs : List (List Int)) : Prop where
  ne : gs ≠ []
  nd : gs.Nodup
  few : gs.length < 60
  ok : ∀ g ∈ gs, Seat ss g

theorem seat_cons {s p : Int} {ss ps : List Int} (h : Seat (s :: ss) (p :: ps)) : (0 ≤ p ∧ p < s) ∧ Seat ss ps :=
  ⟨h.ok 0 p s rfl rfl, by simpa using h.len, fun i q t hq ht => h.ok (i + 1) q t hq ht⟩
theorem Seat.cons {s p : Int} {ss ps : List Int} (h1 : 0 ≤ p) (h2 : p < s) (h : Seat ss ps) : Seat (s :: ss) (p :: ps) :=
  ⟨by simp [h.len], fun i q t hq ht => by
    cases i with
    | zero =>
      obtain rfl := Option.some.inj hq
      obtain rfl := Option.some.inj ht
      exact ⟨h1, h2⟩
    | succ i => exact h.ok i q t hq ht⟩
theorem Seat.nil : Seat [] [] := ⟨rfl, fun i q t h _ => by simp at h⟩
theorem mv_seat {g : Int → Int → Int} : ∀ {ps cs ss : List Int}, ps.length = ss.length → cs.length = ss.length → (∀ s ∈ ss, 1 ≤ s) → Seat ss (mv g ps cs ss)
  | [], [], [], _, _, _ => .nil
  | _ :: _, _, [], h, _, _ => by simp at h
  | [], _, _ :: _, h, _, _ => by simp at h
  | _, [], _ :: _, _, h, _ => by simp at h
  | _, _ :: _, [], _, h, _ => by simp at h
  | p :: ps, c :: cs, s :: ss, h1, h2, h3 => by
    have hs := h3 s (List.mem_cons_self ..)
    exact .cons (Int.emod_nonneg _ (by omega)) (Int.emod_lt_of_pos _ (by omega)) (mv_seat (by simpa using h1) (by simpa using h2) fun t ht => h3 t (List.mem_cons_of_mem _ ht))

/-! ### the sizes of a table -/
section
variable {P : Program} {w : World} {K : PySem.W.Frag} {mg : Str → Option Value} {base : Heap}
theorem isI_own {C a dx : Addr} {fs : List (Str × V)} {H : Hp} (c : C8.InsC K C) (ha : H a = some (.ins C dx fs)) : IsI K H (.ref a) (.ref C) true := ⟨_, _, .own C, .base (.ins ha c.cl c.ha c.hn c.htk c.hm), c.me⟩
def sp_sizes_of (K : PySem.W.Frag) (C : Addr) : Sp := fun vs H Q _ => ∃ (a : Addr) (ss : List Int), vs = [.ref a] ∧ TabAt C H a ss ∧ ∀ t, H t = some (.tup (ss.map V.int)) → Q (.ref t) H
theorem ok_sizes_of (T : Tx K mg) : FnOk P w K mg base CX0 2 T.f_sizes_of T.fd_sizes_of ["table"] (sp_sizes_of K T.c_Table) := by
  refine T.F_sizes_of.ok sc_sizes_of (fun vs H Q E h => ?_) (fun cdv A outer s H vs Q E hr h => ?_)
  · obtain ⟨a, ss, rfl, _⟩ := h; rfl
  · obtain ⟨a, ss, rfl, hT, q⟩ := h
    refine ⟨_, (pss_cons (ps_if (pt_not (pt_val (pe_callB (call_isIK (K := K) rfl) (by rfl) T.n_isinstance (by decide +kernel) (pa_cons (pv 0) (pa_cons (pe_glob (v := .ref T.c_Table) (by rfl) T.g_Table rfl) pa_nil))))) (pss_one ps_never) pss_nil)
      (pss_one (ps_ret (pe_meth0 (pv 0) T.cl_Table T.m_Table_sizes (ok_Table_sizes T) (hr.mono (by decide)) T.b_Table_sizes .nil pass0)))), ?_⟩
    obtain ⟨dx, t, h1, h2⟩ := id hT
    walk_at "rd"
    refine ⟨true, isI_own T.ins_Table h1, ?_⟩
    rw [if_neg (by decide)]
    have e : (("sizes" : Str) == ("_sizes" : Str)) = false := by decide +kernel
    exact ⟨_, _, h1, by simp [List.lookup, e], a, ss, rfl, hT, q⟩
end

section
variable {P : Program} {w : World} {K : PySem.W.Frag} {mg : Str → Option Value} {base : Heap}
theorem or_seq {k : Bool} {H : Hp} {p : Addr} {xs : List V} {R : List V → Prop} (h : Sqh k H p xs) (r : R xs) : (∃ xs, H p = some (HO.lst xs) ∧ R xs) ∨ ∃ xs, H p = some (HO.tup xs) ∧ R xs := by
  cases k with
  | true => exact .inl ⟨xs, h, r⟩
  | false => exact .inr ⟨xs, h, r⟩
def sp_require_seats (K : PySem.W.Frag) : Sp := fun vs H Q _ => ∃ (kz k : Bool) (z tg : Addr) (ss : List Int) (gs : List (List Int)), vs = [.ref z, .ref tg] ∧ Sqh kz H z (ss.map V.int) ∧ TgtAt k H tg gs ∧ gs.Nodup ∧ gs.length < 60 ∧ (∀ g ∈ gs, Seat ss g) ∧ Sz ss ∧ ∀ H', Same H H' → Q .non H'
theorem ok_require_seats (T : Tx K mg) : FnOk P w K mg base CX0 2 T.f_require_seats T.fd_require_seats ["sizes", "seats"] (sp_require_seats K) := by
  refine T.F_require_seats.ok sc_require_seats (fun vs H Q E h => ?_) (fun cdv A outer s H vs Q E hr h => ?_)
  · obtain ⟨kz, k, z, tg, ss, gs, rfl, _⟩ := h; rfl
  · obtain ⟨kz, k, zz, tg, ss, gs, rfl, hz, ⟨as, htg, hA⟩, hnd, h60, hSt, z, q⟩ := h
    refine ⟨_, (pss_cons (ps_if (pt_not (pt_val (pe_callB (call_isAK (K := K) rfl) (by rfl) T.n_isinstance (by decide +kernel) (pa_cons (pv 1) (pa_cons (pe_tup (pa_cons (pe_bltn (v := .ty "list") (by rfl) T.n_list (by decide +kernel) rfl) (pa_cons (pe_bltn (v := .ty "tuple") (by rfl) T.n_tuple (by decide +kernel) rfl) pa_nil))) pa_nil))))) (pss_one ps_never) pss_nil)
      (pss_cons (ps_set (i := 2) sc_require_seats.nd rfl (Or.inl rfl) (pe_callTy0 cr_set0T (by rfl) T.n_set (by decide +kernel)))
      (pss_one (ps_for PassesOwn.never rfl (pi_enH (by rfl) T.n_enumerate (pa_cons (pv 1) pa_nil)) (pg_tupH (n := 2) rfl (pgs_cons (pg_name (i := 3) sc_require_seats.nd rfl (Or.inl rfl)) (pgs_cons (pg_name (i := 4) sc_require_seats.nd rfl (Or.inl rfl)) pgs_nil)))
        (pss_cons (ps_if (PW.pt (pw_or (pt_not (pt_val (pe_call (ok_is_seat T) (hr.mono (by decide)) (by rfl) T.g_is_seat T.F_is_seat.kp T.b_is_seat .nil pass0 (pa_cons (pv 0) (pa_cons (pv 4) pa_nil))))) (pw_or1 (pt_cmpR (op_inT hr.units) (pv 4) (pv 2) rfl)))) (pss_one ps_never) pss_nil)
        (pss_one (ps_expr (pe_addT hr.units (pv 2) (pa_cons (pv 4) pa_nil))))))))), ?_⟩
    walk_at "rd"
    intro tp htp
    have s1 := Same.new htp (o := .tup [V.ty "list", V.ty "tuple"])
    generalize upd H tp (HO.tup [V.ty "list", V.ty "tuple"]) = H1 at s1 ⊢
    refine ⟨true, ?_, ?_⟩
    · cases k with
      | true => exact isA_two (b1 := true) (b2 := false) (.base (.lst (s1 _ _ htg))) (by decide +kernel) (by decide +kernel) rfl
      | false => exact isA_two (b1 := false) (b2 := true) (.base (.tup (s1 _ _ htg))) (by decide +kernel) (by decide +kernel) rfl
    rw [if_neg (by decide)]
    refine ⟨rfl, fun S hS => ?_⟩
    have s2 := Same.new hS (o := SetTO P w S [])
    have f2 : (upd H1 S (SetTO P w S [])) S = some (SetTO P w S []) := upd_same
    generalize upd H1 S (SetTO P w S []) = H2 at s2 f2 ⊢
    have s02 := s1.trans s2
    have hHS : H S = none := by
      cases e : H S with
      | none => rfl
      | some u => rw [s1 _ _ e] at hS; cases hS
    refine ⟨k, as.map V.ref, htg.same s02, fun J W => ?_⟩
    refine forr W (fun i σ H' => Same H H' ∧ ∃ L v3 v4, σ = [some (V.ref zz), some (V.ref tg), some (V.ref S), v3, v4] ∧ H' S = some (SetTO P w S L) ∧ L.length = i ∧ (∀ p ∈ L, H p.1 = some (.tup (p.2.map V.int))) ∧ ∀ g, g ∈ L.map (·.2) ↔ g ∈ gs.take i)
      ⟨s02, [], none, none, rfl, f2, rfl, by simp, by simp⟩ (fun i σ H' _ h => htg.same h.1) ?_ ?_
    · rintro i x σ3 H3 H4 hi ⟨s3, L, v3, v4, rfl, hS3, hLl, hL, hLm⟩ ⟨T0, x1, rfl, hT, rfl, hx⟩
      simp only [List.getElem?_map, Option.map_eq_some_iff] at hx
      obtain ⟨a, ha, rfl⟩ := hx
      rw [List.length_map, hA.1] at hi
      have hg := List.getElem?_eq_getElem hi
      have haH := hA.2 i a _ ha hg
      have hSg := hSt _ (List.getElem_mem hi)
      have sT := Same.new hT (o := .tup [V.int (i : Nat), V.ref a])
      walk_at "rd"
      generalize upd H3 T0 (HO.tup [V.int (i : Nat), V.ref a]) = H4 at sT ⊢
      have s04 := s3.trans sT
      refine ⟨kz, zz, ss, .ref a, true, rfl, hz.same s04, hSg.b z (s04 _ _ haH), fun H5 s5 => ⟨true, rfl, ?_⟩⟩
      rw [if_neg (by decide)]
      have s05 := s04.trans s5
      have hS5 := s5 _ _ (sT _ _ hS3)
      have hgn : gs[i] ∉ gs.take i := by
        intro hm
        obtain ⟨j, hj, e⟩ := List.getElem_of_mem hm
        rw [List.length_take] at hj
        rw [List.getElem_take] at e
        exact absurd e (List.pairwise_iff_getElem.mp hnd j i (by omega) hi (by omega))
      have hgL : gs[i] ∉ L.map (·.2) := fun h => hgn ((hLm _).mp h)
      refine ⟨a, S, gs[i], L, rfl, rfl, s05 _ _ haH, hS5, fun p hp => s05 _ _ (hL p hp), ?_⟩
      refine ⟨_, rfl, ?_⟩
      rw [if_neg Bool.false_ne_true, decide_eq_false hgL, if_neg Bool.false_ne_true]
      simp only [tAddT]
      walk_at "rd"
      refine ⟨⟨L, hS5⟩, a, S, gs[i], L, rfl, rfl, s05 _ _ haH, hS5, fun p hp => s05 _ _ (hL p hp), by omega, fun L' _ hperm => ?_⟩
      have hp := hperm hgL
      refine ⟨fun c u hc => by rw [upd_ne (ne_some hc hHS)]; exact s05 _ _ hc, L', upd_same, by rw [hp.length_eq, List.length_cons, hLl], fun p hpm => ?_, fun g => ?_⟩
      · rcases List.mem_cons.mp (hp.mem_iff.mp hpm) with rfl | h
        · exact haH
        · exact hL p h
      · rw [(hp.map _).mem_iff, List.map_cons, List.mem_cons, hLm]
        have e : gs.take (i + 1) = gs.take i ++ [gs[i]] := by rw [List.take_add_one, hg]; rfl
        rw [e, List.mem_append, List.mem_singleton]
        exact Or.comm
    · rintro σ3 H3 ⟨s3, L, v3, v4, rfl, hS3, hLl, hL, hLm⟩
      exact q _ s3
def sp_require_targets (K : PySem.W.Frag) : Sp := fun vs H Q _ => ∃ (kz k : Bool) (z tg : Addr) (ss : List Int) (gs : List (List Int)), vs = [.ref z, .ref tg] ∧ Sqh kz H z (ss.map V.int) ∧ TgtAt k H tg gs ∧ gs ≠ [] ∧ gs.Nodup ∧ gs.length < 60 ∧ (∀ g ∈ gs, Seat ss g) ∧ Sz ss ∧ ∀ H', Same H H' → Q .non H'
theorem ok_require_targets (T : Tx K mg) : FnOk P w K mg base CX0 3 T.f_require_targets T.fd_require_targets ["sizes", "targets"] (sp_require_targets K) := by
  refine T.F_require_targets.ok sc_require_targets (fun vs H Q E h => ?_) (fun cdv A outer s H vs Q E hr h => ?_)
  · obtain ⟨kz, k, z, tg, ss, gs, rfl, _⟩ := h; rfl
  · obtain ⟨kz, k, zz, tg, ss, gs, rfl, hz, hG, hne, hnd, h60, hSt, z, q⟩ := h
    refine ⟨_, (pss_cons (ps_expr (pe_call (ok_require_seats T) (hr.mono (by decide)) (by rfl) T.g_require_seats T.F_require_seats.kp T.b_require_seats .nil pass0 (pa_cons (pv 0) (pa_cons (pv 1) pa_nil))))
      (pss_one (ps_if (pt_cmpR op_eq (pe_callB len_H (by rfl) T.n_len PySem.boot_len (pa_cons (pv 1) pa_nil)) pe_int (nomark _)) (pss_one ps_never) pss_nil))), ?_⟩
    walk_at "rd"
    refine ⟨kz, k, zz, tg, ss, gs, rfl, hz, hG, hnd, h60, hSt, z, fun H1 s1 => ?_⟩
    obtain ⟨as, htg, hA⟩ := hG.same s1
    have hl0 : 0 < as.length := by rw [hA.1]; exact List.length_pos_iff.mpr hne
    refine or_seq htg ?_
    rw [if_neg (by rw [List.length_map]; omega)]
    exact q _ s1
end

/-! ### recorded games in the program -/
section
variable {P : Program} {w : World} {K : PySem.W.Frag} {mg : Str → Option Value} {base : Heap}
/-- all tuples stay -/
def Tp (H H' : Hp) : Prop := ∀ b xs, H b = some (.tup xs) → H' b = some (.tup xs)
theorem Tp.of {H H' : Hp} (s : Same H H') : Tp H H' := fun b xs h => s _ _ h
theorem Tp.trans {H H1 H2 : Hp} (s : Tp H H1) (t : Tp H1 H2) : Tp H H2 := fun b xs h => t _ _ (s _ _ h)
theorem Tp.sx {a : Addr} {H H' : Hp} {o : HO} (s : Sx a H H') (ha : H a = some o) (ho : ∀ xs, o ≠ .tup xs) : Tp H H' := fun b xs h => s _ _ (ne_two h ha fun e => ho _ e.symm) h
theorem Tp.put {a : Addr} {H : Hp} {o u : HO} (ha : H a = some o) (ho : ∀ xs, o ≠ .tup xs) : Tp H (upd H a u) := fun b xs h => by rw [upd_ne (ne_two h ha fun e => ho _ e.symm)]; exact h
theorem _root_.Cs.AsT.tp {H H' : Hp} {as : List Addr} {hs : List (List Int)} (h : AsT H as hs) (s : Tp H H') : AsT H' as hs := ⟨h.1, fun i t g h1 h2 => s _ _ (h.2 i t g h1 h2)⟩
/-- moves mv at the addresses ms -/
def AsM (H : Hp) (ms : List Addr) (mv : List (List Int × Bool)) : Prop := ms.length = mv.length ∧ ∀ (i : Nat) m c, ms[i]? = some m → mv[i]? = some c → ∃ p, H m = some (.tup [.ref p, .str (offW c.2)]) ∧ H p = some (.tup (c.1.map V.int))
theorem AsM.tp {H H' : Hp} {ms : List Addr} {mv : List (List Int × Bool)} (h : AsM H ms mv) (s : Tp H H') : AsM H' ms mv := ⟨h.1, fun i m c h1 h2 => by
  obtain ⟨p, h3, h4⟩ := h.2 i m c h1 h2
  exact ⟨p, s _ _ h3, s _ _ h4⟩⟩
theorem AsM.same {H H' : Hp} {ms : List Addr} {mv : List (List Int × Bool)} (s : Same H H') (h : AsM H ms mv) : AsM H' ms mv := h.tp (Tp.of s)
def MovAt (k : Bool) (H : Hp) (a : Addr) (mv : List (List Int × Bool)) : Prop := ∃ ms : List Addr, Sqh k H a (ms.map V.ref) ∧ AsM H ms mv
theorem MovAt.same {k : Bool} {H H' : Hp} {a : Addr} {mv : List (List Int × Bool)} (s : Same H H') (h : MovAt k H a mv) : MovAt k H' a mv := by
  obtain ⟨ms, h1, h2⟩ := h
  exact ⟨ms, h1.same s, h2.same s⟩
/-- one more at the end of a list of tuples -/
theorem _root_.Cs.LstT.push {H : Hp} {D t : Addr} {L : List (List Int)} {gs : List Int} (h : LstT H D L) (ht : H t = some (.tup (gs.map V.int))) : ∃ as : List Addr, H D = some (.lst (as.map V.ref)) ∧ as.length = L.length ∧ LstT (upd H D (.lst (as.map V.ref ++ [V.ref t]))) D (L ++ [gs]) := by
  obtain ⟨as, h1, h2⟩ := h
  refine ⟨as, h1, h2.1, as ++ [t], by rw [upd_same, List.map_append]; rfl, ?_⟩
  exact (h2.tp (Tp.put h1 (by simp))).snoc (by rw [upd_ne (ne_two ht h1 (by simp))]; exact ht)
def curI (ss : List Int) (ps : List Int) (mv : List (List Int × Bool)) : List Int := mv.foldl (fun p m => mvW m.2 p m.1 ss) ps
def seatsI (ss : List Int) (ps : List Int) (mv : List (List Int × Bool)) : List (List Int) := (List.range (mv.length + 1)).map fun j => curI ss ps (mv.take j)
theorem curI_take {ss ps : List Int} {mv : List (List Int × Bool)} {i : Nat} {c : List Int × Bool} (h : mv[i]? = some c) : curI ss ps (mv.take (i + 1)) = mvW c.2 (curI ss ps (mv.take i)) c.1 ss := by
  unfold curI
  rw [List.take_add_one, h, List.foldl_append]
  rfl
theorem curI_len {ss ps : List Int} {mv : List (List Int × Bool)} (hp : ps.length = ss.length) (hm : ∀ c ∈ mv, c.1.length = ss.length) : ∀ i, (curI ss ps (mv.take i)).length = ss.length := by
  intro i
  induction i with
  | zero => exact hp
  | succ i ih =>
    cases e : mv[i]? with
    | none =>
      have : mv.take (i + 1) = mv.take i := by rw [List.take_add_one, e]; simp
      rw [this]
      exact ih
    | some c =>
      rw [curI_take e]
      exact mvW_len ih (hm c (List.mem_of_getElem? e))
theorem curI_seat {ss ps : List Int} {mv : List (List Int × Bool)} (z : Sz ss) (hp : Seat ss ps) (hm : ∀ c ∈ mv, c.1.length = ss.length) : ∀ i, Seat ss (curI ss ps (mv.take i)) := by
  intro i
  induction i with
  | zero => exact hp
  | succ i ih =>
    cases e : mv[i]? with
    | none =>
      have : mv.take (i + 1) = mv.take i := by rw [List.take_add_one, e]; simp
      rw [this]
      exact ih
    | some c =>
      rw [curI_take e]
      exact mvW_seat ih.len (hm c (List.mem_of_getElem? e)) z.pos
theorem seatsI_len (ss ps : List Int) (mv : List (List Int × Bool)) : (seatsI ss ps mv).length = mv.length + 1 := by unfold seatsI; simp
def sp_is_move (K : PySem.W.Frag) : Sp := fun vs H Q _ => ∃ (k : Bool) (a m p : Addr) (ss : List V) (cs : List Int) (b : Bool), vs = [.ref a, .ref m] ∧ Sqh k H a ss ∧ H m = some (.tup [.ref p, .str (offW b)]) ∧ H p = some (.tup (cs.map V.int)) ∧ cs.length = ss.length ∧ ss.length ≤ 4 ∧ ∀ H', Same H H' → Q (.bl true) H'
theorem ok_is_move (T : Tx K mg) : FnOk P w K mg base CX0 2 T.f_is_move T.fd_is_move ["sizes", "move"] (sp_is_move K) := by
  refine T.F_is_move.ok sc_is_move (fun vs H Q E h => ?_) (fun cdv A outer s H vs Q E hr h => ?_)
  · obtain ⟨k, a, m, p, ss, cs, b, rfl, _⟩ := h; rfl
  · obtain ⟨k, a, m, p, ss, cs, b, rfl, ha, hm, hp, hl, h4, q⟩ := h
    refine ⟨_, (pss_cons (ps_if (PW.pt (pw_or (pt_not (pt_val (pe_callB (call_isIK (K := K) rfl) (by rfl) T.n_isinstance (by decide +kernel) (pa_cons (pv 1) (pa_cons (pe_bltn (v := .ty "tuple") (by rfl) T.n_tuple (by decide +kernel) rfl) pa_nil))))) (pw_or1 (pt_cmpR op_ne (pe_callB len_H (by rfl) T.n_len PySem.boot_len (pa_cons (pv 1) pa_nil)) pe_int (nomark _))))) (pss_one (ps_ret pe_bl)) pss_nil)
      (pss_cons (ps_asg (pv 1) (pg_tupH (n := 2) rfl (pgs_cons (pg_name (i := 2) sc_is_move.nd rfl (Or.inl rfl)) (pgs_cons (pg_name (i := 3) sc_is_move.nd rfl (Or.inl rfl)) pgs_nil))))
      (pss_one (ps_ret (pe_and (pe_call (ok_is_call T) (hr.mono (by decide)) (by rfl) T.g_is_call T.F_is_call.kp T.b_is_call .nil pass0 (pa_cons (pv 0) (pa_cons (pv 2) pa_nil))) (pe_one (pe_call (ok_is_direction T) (hr.mono (by decide)) (by rfl) T.g_is_direction T.F_is_direction.kp T.b_is_direction .nil pass0 (pa_cons (pv 3) pa_nil)))))))), ?_⟩
    walk_at "rd"
    refine ⟨true, isI_tup hm, ?_⟩
    rw [if_neg (by decide)]
    refine .inr ⟨_, hm, ?_⟩
    rw [if_neg (fun h => h rfl)]
    refine ⟨_, hm, rfl, _, _, rfl, _, _, rfl, rfl, k, a, ss, .ref p, true, rfl, ha, call_b hl h4 hp, fun H1 s1 => ⟨true, rfl, ?_⟩⟩
    rw [if_pos rfl]
    exact ⟨_, true, rfl, offW_dir b, fun H2 s2 => q _ (s1.trans s2)⟩
def sp_require_moves (K : PySem.W.Frag) : Sp := fun vs H Q _ => ∃ (kz k : Bool) (z g : Addr) (ss : List Int) (mv : List (List Int × Bool)), vs = [.ref z, .ref g] ∧ Sqh kz H z (ss.map V.int) ∧ MovAt k H g mv ∧ (∀ c ∈ mv, c.1.length = ss.length) ∧ ss.length ≤ 4 ∧ ∀ H', Same H H' → Q .non H'
theorem ok_require_moves (T : Tx K mg) : FnOk P w K mg base CX0 3 T.f_require_moves T.fd_require_moves ["sizes", "moves"] (sp_require_moves K) := by
  refine T.F_require_moves.ok sc_require_moves (fun vs H Q E h => ?_) (fun cdv A outer s H vs Q E hr h => ?_)
  · obtain ⟨kz, k, z, g, ss, mv, rfl, _⟩ := h; rfl
  · obtain ⟨kz, k, zz, g, ss, mv, rfl, hz, ⟨ms, hg, hM⟩, hl, h4, q⟩ := h
    refine ⟨_, (pss_cons (ps_if (pt_not (pt_val (pe_callB (call_isAK (K := K) rfl) (by rfl) T.n_isinstance (by decide +kernel) (pa_cons (pv 1) (pa_cons (pe_tup (pa_cons (pe_bltn (v := .ty "list") (by rfl) T.n_list (by decide +kernel) rfl) (pa_cons (pe_bltn (v := .ty "tuple") (by rfl) T.n_tuple (by decide +kernel) rfl) pa_nil))) pa_nil))))) (pss_one ps_never) pss_nil)
      (pss_one (ps_for PassesOwn.never rfl (pi_enH (by rfl) T.n_enumerate (pa_cons (pv 1) pa_nil)) (pg_tupH (n := 2) rfl (pgs_cons (pg_name (i := 2) sc_require_moves.nd rfl (Or.inl rfl)) (pgs_cons (pg_name (i := 3) sc_require_moves.nd rfl (Or.inl rfl)) pgs_nil)))
        (pss_one (ps_if (pt_not (pt_val (pe_call (ok_is_move T) (hr.mono (by decide)) (by rfl) T.g_is_move T.F_is_move.kp T.b_is_move .nil pass0 (pa_cons (pv 0) (pa_cons (pv 3) pa_nil))))) (pss_one ps_never) pss_nil))))), ?_⟩
    walk_at "rd"
    intro tp htp
    have s1 := Same.new htp (o := .tup [V.ty "list", V.ty "tuple"])
    generalize upd H tp (HO.tup [V.ty "list", V.ty "tuple"]) = H1 at s1 ⊢
    refine ⟨true, ?_, ?_⟩
    · cases k with
      | true => exact isA_two (b1 := true) (b2 := false) (.base (.lst (s1 _ _ hg))) (by decide +kernel) (by decide +kernel) rfl
      | false => exact isA_two (b1 := false) (b2 := true) (.base (.tup (s1 _ _ hg))) (by decide +kernel) (by decide +kernel) rfl
    rw [if_neg (by decide)]
    refine ⟨k, ms.map V.ref, hg.same s1, fun J W => ?_⟩
    refine forr W (fun i σ H' => Same H H' ∧ ∃ v2 v3, σ = [some (V.ref zz), some (V.ref g), v2, v3]) ⟨s1, none, none, rfl⟩ (fun i σ H' _ h => hg.same h.1) ?_ ?_
    · rintro i x σ3 H3 H4 hi ⟨s3, v2, v3, rfl⟩ ⟨T0, x1, rfl, hT, rfl, hx⟩
      simp only [List.getElem?_map, Option.map_eq_some_iff] at hx
      obtain ⟨m, hm, rfl⟩ := hx
      rw [List.length_map, hM.1] at hi
      have hc := List.getElem?_eq_getElem hi
      obtain ⟨p, hm1, hp1⟩ := hM.2 i m _ hm hc
      have sT := Same.new hT (o := .tup [V.int (i : Nat), V.ref m])
      walk_at "rd"
      generalize upd H3 T0 (HO.tup [V.int (i : Nat), V.ref m]) = H4 at sT ⊢
      have s4 := s3.trans sT
      refine ⟨kz, zz, m, p, ss.map V.int, mv[i].1, mv[i].2, rfl, hz.same s4, s4 _ _ hm1, s4 _ _ hp1, by rw [List.length_map]; exact hl _ (List.getElem_mem hi), by rw [List.length_map]; exact h4, fun H5 s5 => ⟨true, rfl, ?_⟩⟩
      rw [if_neg (by decide)]
      exact s4.trans s5
    · rintro σ3 H3 ⟨s3, v2, v3, rfl⟩
      exact q _ s3
def sp_seats_of_game (K : PySem.W.Frag) : Sp := fun vs H Q _ => ∃ (k : Bool) (t p g : Addr) (ss ps : List Int) (mv : List (List Int × Bool)), vs = [.ref t, .ref p, .ref g] ∧ H t = some (.tup (ss.map V.int)) ∧ H p = some (.tup (ps.map V.int)) ∧ ps.length = ss.length ∧ MovAt k H g mv ∧ (∀ c ∈ mv, c.1.length = ss.length) ∧ ss.length ≤ 4 ∧ (∀ n ∈ ss, 0 < n) ∧ mv.length ≤ 1000 ∧
  ∀ H' D, Same H H' → H D = none → LstT H' D (seatsI ss ps mv) → Q (.ref D) H'
theorem ok_seats_of_game (T : Tx K mg) : FnOk P w K mg base CX0 3 T.f_seats_of_game T.fd_seats_of_game ["sizes", "seat", "moves"] (sp_seats_of_game K) := by
  refine T.F_seats_of_game.ok sc_seats_of_game (fun vs H Q E h => ?_) (fun cdv A outer s H vs Q E hr h => ?_)
  · obtain ⟨k, t, p, g, ss, ps, mv, rfl, _⟩ := h; rfl
  · obtain ⟨k, t, p, g, ss, ps, mv, rfl, ht, hp, hpl, ⟨ms, hg, hM⟩, hml, h4, pos, hk, q⟩ := h
    refine ⟨_, (pss_cons (ps_set (i := 3) sc_seats_of_game.nd rfl (Or.inl rfl) (pv 1))
      (pss_cons (ps_set (i := 4) sc_seats_of_game.nd rfl (Or.inl rfl) (pe_lst (pa_cons (pv 3) pa_nil)))
      (pss_cons (ps_for PassesOwn.never rfl (pi_seqH (pv 2)) (pg_tupH (n := 2) rfl (pgs_cons (pg_name (i := 5) sc_seats_of_game.nd rfl (Or.inl rfl)) (pgs_cons (pg_name (i := 6) sc_seats_of_game.nd rfl (Or.inl rfl)) pgs_nil)))
        (pss_cons (ps_set (i := 3) sc_seats_of_game.nd rfl (Or.inl rfl) (pe_call (ok_stepped T) (hr.mono (by decide)) (by rfl) T.g_stepped T.F_stepped.kp T.b_stepped .nil pass0 (pa_cons (pv 0) (pa_cons (pv 3) (pa_cons (pv 5) (pa_cons (pv 6) pa_nil))))))
        (pss_one (ps_expr (pe_append (pv 4) (pa_cons (pv 3) pa_nil))))))
      (pss_one (ps_ret (pv 4)))))), ?_⟩
    walk_at "rd"
    intro D hD
    have s1 := Same.new hD (o := .lst [V.ref p])
    have f1 : (upd H D (.lst [V.ref p])) D = some (.lst [V.ref p]) := upd_same
    generalize upd H D (HO.lst [V.ref p]) = H1 at s1 f1 ⊢
    have L0 : LstT H1 D ((List.range 1).map fun j => curI ss ps (mv.take j)) := ⟨[p], f1, by simp [curI], fun i u gs e1 e2 => by
      cases i with
      | zero =>
        simp only [List.getElem?_cons_zero, Option.some.injEq] at e1
        have e2' : some ps = some gs := e2
        rw [← e1, ← Option.some.inj e2']
        exact s1 _ _ hp
      | succ i => simp at e1⟩
    have main : ∀ (J : It) (G : Hp → Prop), Walk J (ms.map V.ref).length G (YAt (ms.map V.ref)) → (∀ H', Same H H' → G H') → ForR J (gTupH 2 (gCons (gName 5) (gCons (gName 6) gNil)))
          (tSeq (tAsg (tCall (sp_stepped K) [] E0 (tCons (tVar 0) (tCons (tVar 3) (tCons (tVar 5) (tCons (tVar 6) tNil))))) (gName 3)) (tDrop (tAppend (tVar 4) (tCons (tVar 3) tNil))))
          { nx := tRet (tVar 4) { nx := fun x H' => Q V.non H', rt := Q }, rt := Q } [some (V.ref t), some (V.ref p), some (V.ref g), some (V.ref p), some (V.ref D), none, none] H1 := fun J G W hG => by
      refine forr W (fun i σ H' => Same H H' ∧ LstT H' D ((List.range (i + 1)).map fun j => curI ss ps (mv.take j)) ∧ ∃ q v5 v6, σ = [some (V.ref t), some (V.ref p), some (V.ref g), some (V.ref q), some (V.ref D), v5, v6] ∧ H' q = some (.tup ((curI ss ps (mv.take i)).map V.int)))
        ⟨s1, L0, p, none, none, rfl, s1 _ _ hp⟩ (fun i σ H' _ h => hG _ h.1) ?_ ?_
      · rintro i x σ3 H3o H3 hi ⟨s3, L3, q3, v5, v6, rfl, hq3⟩ ⟨rfl, hx⟩
        simp only [List.getElem?_map, Option.map_eq_some_iff] at hx
        obtain ⟨m, hm, rfl⟩ := hx
        rw [List.length_map, hM.1] at hi
        have hc := List.getElem?_eq_getElem hi
        obtain ⟨p1, hm1, hp1⟩ := hM.2 i m _ hm hc
        have hcl := curI_len hpl hml i
        walk_at "rd"
        refine ⟨_, s3 _ _ hm1, rfl, _, _, rfl, _, _, rfl, rfl, ?_⟩
        refine ⟨false, t, q3, p1, offW mv[i].2, ss, _, mv[i].1, rfl, s3 _ _ ht, hq3, s3 _ _ hp1, ?_, hml _ (List.getElem_mem hi), h4, pos, offW_or _, fun H4 f s4 hf => ?_⟩
        · rw [hcl, hml _ (List.getElem_mem hi)]
        rw [step_off] at hf
        obtain ⟨as, hDa, hal, hL⟩ := (L3.same s4).push hf
        refine ⟨⟨_, hDa⟩, _, hDa, ?_, ?_⟩
        · rw [List.length_map, hal, List.length_map, List.length_range]
          exact Nat.lt_of_le_of_lt (by omega : i + 1 ≤ 1000) (by decide)
        · refine ⟨fun b o e => by rw [upd_ne (ne_some e hD)]; exact s4 _ _ (s3 _ _ e), ?_, f, rfl, ?_⟩
          · rw [List.range_succ, List.map_append]
            show LstT _ D (_ ++ [curI ss ps (mv.take (i + 1))])
            rw [curI_take hc]
            exact hL
          · rw [curI_take hc, upd_ne (ne_two hf hDa (by simp))]
            exact hf
      · rintro σ3 H3 ⟨s3, L3, q3, v5, v6, rfl, hq3⟩
        rw [List.length_map, hM.1] at L3
        walk_at "rd"
        exact q _ D s3 hD L3
    cases k with
    | true =>
      have hg' : H1 g = some (.lst (ms.map V.ref)) := s1 _ _ hg
      exact .inl ⟨_, hg', fun J W => main J _ W fun H' s' => s' _ _ hg⟩
    | false =>
      have hg' : H1 g = some (.tup (ms.map V.ref)) := s1 _ _ hg
      exact .inr ⟨_, hg', fun J W => main J _ W fun H' s' => s' _ _ hg⟩
/-- the first of the seats that is a target -/
def firstI (gs L : List (List Int)) : Option Nat := (List.range L.length).find? fun j => decide (L.getD j [] ∈ gs)
def optV : Option Nat → V
  | none => .non
  | some i => .int (i : Nat)
def sp_calls_before (K : PySem.W.Frag) : Sp := fun vs H Q _ => ∃ (k : Bool) (S g : Addr) (L gs : List (List Int)), vs = [.ref S, .ref g] ∧ LstT H S L ∧ TgtAt k H g gs ∧ gs.length < 60 ∧ ∀ H', Same H H' → Q (optV (firstI gs L)) H'
theorem ok_calls_before (T : Tx K mg) : FnOk P w K mg base CX0 1 T.f_calls_before T.fd_calls_before ["seats", "targets"] (sp_calls_before K) := by
  refine T.F_calls_before.ok sc_calls_before (fun vs H Q E h => ?_) (fun cdv A outer s H vs Q E hr h => ?_)
  · obtain ⟨k, S, g, L, gs, rfl, _⟩ := h; rfl
  · obtain ⟨k, S, g, L, gs, rfl, ⟨as, hS, hA⟩, ⟨bs, hg, hB⟩, few, q⟩ := h
    refine ⟨_, (pss_cons (ps_set (i := 2) sc_calls_before.nd rfl (Or.inl rfl) (pe_callTy (cr_setTT rfl hr.units) (by rfl) T.n_set (by decide +kernel) (pa_cons (pv 1) pa_nil)))
      (pss_cons (ps_for PassesOwn.never rfl (pi_enH (by rfl) T.n_enumerate (pa_cons (pv 0) pa_nil)) (pg_tupH (n := 2) rfl (pgs_cons (pg_name (i := 3) sc_calls_before.nd rfl (Or.inl rfl)) (pgs_cons (pg_name (i := 4) sc_calls_before.nd rfl (Or.inl rfl)) pgs_nil)))
        (pss_one (ps_if (pt_cmpR (op_inT hr.units) (pv 4) (pv 2) rfl) (pss_one (ps_ret (pv 3))) pss_nil)))
      (pss_one (ps_ret pe_non)))), ?_⟩
    walk_at "rd"
    refine ⟨g, k, bs, gs, rfl, hg, hB, by omega, fun G M hG hM1 hM2 => ?_⟩
    have s1 := Same.new hG (o := SetTO P w G M)
    have f1 : (upd H G (SetTO P w G M)) G = some (SetTO P w G M) := upd_same
    generalize upd H G (SetTO P w G M) = H1 at s1 f1 ⊢
    refine ⟨true, as.map V.ref, s1 _ _ hS, fun J W => ?_⟩
    refine forr W (fun i σ H' => Same H H' ∧ H' G = some (SetTO P w G M) ∧ (∀ j, j < i → decide (L.getD j [] ∈ gs) = false) ∧ ∃ v3 v4, σ = [some (V.ref S), some (V.ref g), some (V.ref G), v3, v4]) ⟨s1, f1, fun j h => absurd h (Nat.not_lt_zero _), none, none, rfl⟩ (fun i σ H' _ h => h.1 _ _ hS) ?_ ?_
    · rintro i x σ3 H3 H4 hi ⟨s3, f3, hno, v3, v4, rfl⟩ ⟨T0, x1, rfl, hT, rfl, hx⟩
      simp only [List.getElem?_map, Option.map_eq_some_iff] at hx
      obtain ⟨a, ha, rfl⟩ := hx
      rw [List.length_map, hA.1] at hi
      have hc := List.getElem?_eq_getElem hi
      have haH := hA.2 i a _ ha hc
      have hgd : L.getD i [] = L[i] := by rw [List.getD_eq_getElem?_getD, hc]; rfl
      have sT := Same.new hT (o := .tup [V.int (i : Nat), V.ref a])
      walk_at "rd"
      generalize upd H3 T0 (HO.tup [V.int (i : Nat), V.ref a]) = H4 at sT ⊢
      have s4 := s3.trans sT
      refine ⟨a, G, L[i], M, rfl, rfl, s4 _ _ haH, sT _ _ f3, fun p hp => s4 _ _ (hM1 p hp), ?_⟩
      refine ⟨_, rfl, ?_⟩
      rw [if_neg Bool.false_ne_true]
      by_cases h : L[i] ∈ gs
      · rw [decide_eq_true ((hM2 _).mpr h), if_pos rfl]
        have e : firstI gs L = some i := find_range _ hi (by rw [hgd]; exact decide_eq_true h) hno
        rw [e] at q
        exact q _ s4
      · rw [decide_eq_false (fun h' => h ((hM2 _).mp h')), if_neg Bool.false_ne_true]
        refine ⟨s4, sT _ _ f3, fun j hj => ?_⟩
        by_cases e : j < i
        · exact of_decide_eq_false (hno j e)
        · obtain rfl : j = i := by omega
          rw [hgd]
          exact h
    · rintro σ3 H3 ⟨s3, f3, hno, v3, v4, rfl⟩
      rw [List.length_map, hA.1] at hno
      walk_at "rd"
      have e : firstI gs L = none := find_range_none _ hno
      rw [e] at q
      exact q _ s3
theorem _root_.Cs.Sqh.sxi {k : Bool} {a g C dx : Addr} {fs : List (Str × V)} {H H' : Hp} {xs : List V} (h : Sqh k H g xs) (ha : H a = some (.ins C dx fs)) (s : Sx a H H') : Sqh k H' g xs := by
  cases k with
  | true => exact s _ _ (ne_two (show H g = some (.lst xs) from h) ha (by simp)) h
  | false => exact s _ _ (ne_two (show H g = some (.tup xs) from h) ha (by simp)) h
theorem Tp.sxi {a C dx : Addr} {fs : List (Str × V)} {H H' : Hp} (ha : H a = some (.ins C dx fs)) (s : Sx a H H') : Tp H H' := Tp.sx s ha (by simp)
/-- the attributes of a record -/
def recF (t m1 m2 S : Addr) (o : Option Nat) : List (Str × V) := [("_table", .ref t), ("_targets", .ref m1), ("_moves", .ref m2), ("_seats", .ref S), ("_calls", optV o)]
def MRq (R a dx t tg p g z : Addr) (fs : List (Str × V)) (H : Hp) (σ : L2.St) (H' : Hp) : Prop := σ = [some (V.ref a), some (V.ref t), some (V.ref tg), some (V.ref p), some (V.ref g), some (V.ref z)] ∧ Sx a H H' ∧ H' a = some (.ins R dx fs)
def MR0 (R a dx t tg p g : Addr) (ss : List Int) (H : Hp) (σ : L2.St) (H' : Hp) : Prop := ∃ z, MRq R a dx t tg p g z [] H σ H' ∧ H z = some (.tup (ss.map V.int))
def MR2 (R a dx t tg p g z : Addr) (H : Hp) (σ : L2.St) (H' : Hp) : Prop := ∃ m1, MRq R a dx t tg p g z [("_table", .ref t), ("_targets", .ref m1)] H σ H'
def MR3 (R a dx t tg p g z m1 : Addr) (H : Hp) (σ : L2.St) (H' : Hp) : Prop := ∃ m2, MRq R a dx t tg p g z [("_table", .ref t), ("_targets", .ref m1), ("_moves", .ref m2)] H σ H'
def MR4 (R a dx t tg p g z m1 m2 : Addr) (L : List (List Int)) (H : Hp) (σ : L2.St) (H' : Hp) : Prop := ∃ S, MRq R a dx t tg p g z [("_table", .ref t), ("_targets", .ref m1), ("_moves", .ref m2), ("_seats", .ref S)] H σ H' ∧ H S = none ∧ LstT H' S L
def sp_Record_init (K : PySem.W.Frag) (C R : Addr) : Sp := fun vs H Q _ => ∃ (a dx t tg p g : Addr) (k1 k2 : Bool) (ss ps : List Int) (gs : List (List Int)) (mv : List (List Int × Bool)), vs = [.ref a, .ref t, .ref tg, .ref p, .ref g] ∧ H a = some (.ins R dx []) ∧ TabAt C H t ss ∧ Sz ss ∧ TgtAt k1 H tg gs ∧ Tgts ss gs ∧
  H p = some (.tup (ps.map V.int)) ∧ Seat ss ps ∧ MovAt k2 H g mv ∧ (∀ c ∈ mv, c.1.length = ss.length) ∧ mv.length ≤ 1000 ∧
  ∀ H' m1 m2 S, Sx a H H' → H' a = some (.ins R dx (recF t m1 m2 S (firstI gs (seatsI ss ps mv)))) → H S = none → LstT H' S (seatsI ss ps mv) → Q .non H'
theorem ok_Record_init (T : Tx K mg) : FnOk P w K mg base CX0 4 T.f_Record_init T.fd_Record_init ["self", "table", "targets", "seat", "moves"] (sp_Record_init K T.c_Table T.c_Record) := by
  refine T.F_Record_init.ok sc_Record_init (fun vs H Q E h => ?_) (fun cdv A outer s H vs Q E hr h => ?_)
  · obtain ⟨a, dx, t, tg, p, g, k1, k2, ss, ps, gs, mv, rfl, _⟩ := h; rfl
  · obtain ⟨a, dx, t, tg, p, g, k1, k2, ss, ps, gs, mv, rfl, ha, hT, z, hG, hgs, hp, hS, hM, hml, hk, q⟩ := h
    refine ⟨_, (C8.pss_cut (ps_set (i := 5) sc_Record_init.nd rfl (Or.inl rfl) (pe_call (ok_sizes_of T) (hr.mono (by decide)) (by rfl) T.g_sizes_of T.F_sizes_of.kp T.b_sizes_of .nil pass0 (pa_cons (pv 1) pa_nil)))
      (C8.pss_cut (ps_expr (pe_call (ok_require_targets T) (hr.mono (by decide)) (by rfl) T.g_require_targets T.F_require_targets.kp T.b_require_targets .nil pass0 (pa_cons (pv 5) (pa_cons (pv 2) pa_nil))))
      (C8.pss_cut (ps_expr (pe_call (ok_require_seat T) (hr.mono (by decide)) (by rfl) T.g_require_seat T.F_require_seat.kp T.b_require_seat .nil pass0 (pa_cons (pv 5) (pa_cons (pv 3) pa_nil))))
      (C8.pss_cut (ps_expr (pe_call (ok_require_moves T) (hr.mono (by decide)) (by rfl) T.g_require_moves T.F_require_moves.kp T.b_require_moves .nil pass0 (pa_cons (pv 5) (pa_cons (pv 4) pa_nil))))
      (C8.pss_cut (ps_fld (pv 0) (pv 1) rfl)
      (C8.pss_cut (ps_fld (pv 0) (pe_callTy list_H (by rfl) T.n_list (by decide +kernel) (pa_cons (pv 2) pa_nil)) rfl)
      (C8.pss_cut (ps_fld (pv 0) (pe_callTy list_H (by rfl) T.n_list (by decide +kernel) (pa_cons (pv 4) pa_nil)) rfl)
      (C8.pss_cut (ps_fld (pv 0) (pe_call (ok_seats_of_game T) (hr.mono (by decide)) (by rfl) T.g_seats_of_game T.F_seats_of_game.kp T.b_seats_of_game .nil pass0 (pa_cons (pv 5) (pa_cons (pv 3) (pa_cons (pv 4) pa_nil)))) rfl)
      (pss_one (ps_fld (pv 0) (pe_call (ok_calls_before T) (hr.mono (by decide)) (by rfl) T.g_calls_before T.F_calls_before.kp T.b_calls_before .nil pass0 (pa_cons (pe_fld (pv 0) rfl) (pa_cons (pv 2) pa_nil))) rfl)))))))))), ?_⟩
    have cl := T.cl_Record
    refine ⟨MR0 T.c_Record a dx t tg p g ss H, ?_, ?_⟩
    · walk_at "rd"
      exact ⟨t, ss, rfl, hT, fun u hu => ⟨u, ⟨rfl, Sx.refl, ha⟩, hu⟩⟩
    rintro σ1 H1 ⟨u, ⟨rfl, s1, ha1⟩, hu⟩
    have tp := fun {G : Hp} (s : Sx a H G) => Tp.sxi ha s
    refine ⟨MRq T.c_Record a dx t tg p g u [] H, ?_, ?_⟩
    · walk_at "rd"
      obtain ⟨as, hg1, hA⟩ := id hG
      exact ⟨false, k1, u, tg, ss, gs, rfl, tp s1 _ _ hu, ⟨as, hg1.sxi ha s1, hA.tp (tp s1)⟩, hgs.ne, hgs.nd, hgs.few, hgs.ok, z, fun H2 s2 => ⟨rfl, s1.trans (Sx.of s2), s2 _ _ ha1⟩⟩
    rintro σ2 H2 ⟨rfl, s2, ha2⟩
    refine ⟨MRq T.c_Record a dx t tg p g u [] H, ?_, ?_⟩
    · walk_at "rd"
      exact ⟨false, u, ss, .ref p, rfl, tp s2 _ _ hu, hS.b z (tp s2 _ _ hp), fun H3 s3 => ⟨rfl, s2.trans (Sx.of s3), s3 _ _ ha2⟩⟩
    rintro σ3 H3 ⟨rfl, s3, ha3⟩
    obtain ⟨ms, hg1, hMm⟩ := id hM
    refine ⟨MRq T.c_Record a dx t tg p g u [] H, ?_, ?_⟩
    · walk_at "rd"
      exact ⟨false, k2, u, g, ss, mv, rfl, tp s3 _ _ hu, ⟨ms, hg1.sxi ha s3, hMm.tp (tp s3)⟩, hml, z.hi, fun H4 s4 => ⟨rfl, s3.trans (Sx.of s4), s4 _ _ ha3⟩⟩
    rintro σ4 H4 ⟨rfl, s4, ha4⟩
    refine ⟨MRq T.c_Record a dx t tg p g u [("_table", .ref t)] H, ?_, ?_⟩
    · walk_at "rd"
      exact ⟨_, _, _, ha4, cl, T.no_Record_table, by decide, rfl, s4.trans Sx.put, upd_same⟩
    rintro σ5 H5 ⟨rfl, s5, ha5⟩
    obtain ⟨as, htg, hA⟩ := id hG
    refine ⟨MR2 T.c_Record a dx t tg p g u H, ?_, ?_⟩
    · walk_at "rd"
      refine or_seq (htg.sxi ha s5) fun m1 hm1 => ?_
      have sm := Same.new hm1 (o := .lst (as.map V.ref))
      exact ⟨_, _, _, sm _ _ ha5, cl, T.no_Record_targets, (by decide : 1 < 1000), m1, rfl, (s5.trans (Sx.of sm)).trans Sx.put, upd_same⟩
    rintro σ6 H6 ⟨m1, rfl, s6, ha6⟩
    refine ⟨MR3 T.c_Record a dx t tg p g u m1 H, ?_, ?_⟩
    · walk_at "rd"
      refine or_seq (hg1.sxi ha s6) fun m2 hm2 => ?_
      have sm := Same.new hm2 (o := .lst (ms.map V.ref))
      exact ⟨_, _, _, sm _ _ ha6, cl, T.no_Record_moves, (by decide : 2 < 1000), m2, rfl, (s6.trans (Sx.of sm)).trans Sx.put, upd_same⟩
    rintro σ7 H7 ⟨m2, rfl, s7, ha7⟩
    refine ⟨MR4 T.c_Record a dx t tg p g u m1 m2 (seatsI ss ps mv) H, ?_, ?_⟩
    · walk_at "rd"
      refine ⟨k2, u, p, g, ss, ps, mv, rfl, tp s7 _ _ hu, tp s7 _ _ hp, hS.len, ⟨ms, hg1.sxi ha s7, hMm.tp (tp s7)⟩, hml, z.hi, fun n hn => by have := z.pos n hn; omega, hk, fun H8 D s8 hD hL => ?_⟩
      have nDa : D ≠ a := fun e => by rw [e, ha7] at hD; cases hD
      refine ⟨_, _, _, s8 _ _ ha7, cl, T.no_Record_seats, (by decide : 3 < 1000), D, ⟨rfl, (s7.trans (Sx.of s8)).trans Sx.put, upd_same⟩, s7.free nDa hD, ?_⟩
      obtain ⟨bs, h1, h2⟩ := hL
      exact ⟨bs, by rw [upd_ne nDa]; exact h1, h2.tp (Tp.put (s8 _ _ ha7) (by simp))⟩
    rintro σ8 H8 ⟨S, ⟨rfl, s8, ha8⟩, hHS, hL⟩
    walk_at "rd"
    refine ⟨_, _, _, ha8, cl, T.no_Record_seats, .ref S, rfl, k1, S, tg, _, gs, rfl, hL, ⟨as, htg.sxi ha s8, hA.tp (tp s8)⟩, hgs.few, fun H9 s9 => ?_⟩
    have ha9 := s9 _ _ ha8
    refine ⟨_, _, _, ha9, cl, T.no_Record_calls, (by decide : 4 < 1000), ?_⟩
    obtain ⟨bs, h1, h2⟩ := hL.same s9
    have nSa : S ≠ a := ne_two h1 ha9 (by simp)
    exact q _ m1 m2 S ((s8.trans (Sx.of s9)).trans Sx.put) (by rw [upd_same]; rfl) hHS ⟨bs, by rw [upd_ne nSa]; exact h1, h2.tp (Tp.put ha9 (by simp))⟩
/-- a record at a, with its list of seats at S -/
def RecAt (R : Addr) (H : Hp) (a S : Addr) (L : List (List Int)) (o : Option Nat) : Prop := ∃ dx t m1 m2, H a = some (.ins R dx (recF t m1 m2 S o)) ∧ LstT H S L
theorem RecAt.same {R : Addr} {H H' : Hp} {a S : Addr} {L : List (List Int)} {o : Option Nat} (s : Same H H') (h : RecAt R H a S L o) : RecAt R H' a S L o := by
  obtain ⟨dx, t, m1, m2, h1, h2⟩ := h
  exact ⟨dx, t, m1, m2, s _ _ h1, h2.same s⟩
def sp_Record_seats (K : PySem.W.Frag) (R : Addr) : Sp := fun vs H Q _ => ∃ (a S : Addr) (L : List (List Int)) (o : Option Nat), vs = [.ref a] ∧ RecAt R H a S L o ∧ ∀ H' p, Same H H' → H p = none → LstT H' p L → Q (.ref p) H'
theorem ok_Record_seats (T : Tx K mg) : FnOk P w K mg base CX0 1 T.f_Record_seats T.fd_Record_seats ["self"] (sp_Record_seats K T.c_Record) := by
  refine T.F_Record_seats.ok sc_Record_seats (fun vs H Q E h => ?_) (fun cdv A outer s H vs Q E hr h => ?_)
  · obtain ⟨a, S, L, o, rfl, _⟩ := h; rfl
  · obtain ⟨a, S, L, o, rfl, ⟨dx, t, m1, m2, h1, as, h2, h3⟩, q⟩ := h
    refine ⟨_, (pss_one (ps_ret (pe_callTy list_H (by rfl) T.n_list (by decide +kernel) (pa_cons (pe_fld (pv 0) rfl) pa_nil)))), ?_⟩
    walk_at "rd"
    refine ⟨_, _, _, h1, T.cl_Record, T.no_Record_seats, .ref S, rfl, S, rfl, .inl ⟨_, h2, fun p hp => ?_⟩⟩
    have s1 := Same.new hp (o := .lst (as.map V.ref))
    exact q _ p s1 hp ⟨as, upd_same, h3.same s1⟩
def sp_Record_calls_to_target (K : PySem.W.Frag) (R : Addr) : Sp := fun vs H Q _ => ∃ (a S : Addr) (L : List (List Int)) (o : Option Nat), vs = [.ref a] ∧ RecAt R H a S L o ∧ Q (optV o) H
theorem ok_Record_calls_to_target (T : Tx K mg) : FnOk P w K mg base CX0 1 T.f_Record_calls_to_target T.fd_Record_calls_to_target ["self"] (sp_Record_calls_to_target K T.c_Record) := by
  refine T.F_Record_calls_to_target.ok sc_Record_calls_to_target (fun vs H Q E h => ?_) (fun cdv A outer s H vs Q E hr h => ?_)
  · obtain ⟨a, S, L, o, rfl, _⟩ := h; rfl
  · obtain ⟨a, S, L, o, rfl, ⟨dx, t, m1, m2, h1, h2⟩, q⟩ := h
    refine ⟨_, (pss_one (ps_ret (pe_fld (pv 0) rfl))), ?_⟩
    walk_at "rd"
    exact ⟨_, _, _, h1, T.cl_Record, T.no_Record_calls, optV o, rfl, q⟩
/-- Record(..) makes a record -/
theorem rec_made {C R x dx t tg p g : Addr} {k1 k2 : Bool} {ss ps : List Int} {gs : List (List Int)} {mv : List (List Int × Bool)} {G : Hp} {Q : VK} {E : XK} (hx : G x = none) (hdx : G dx = none) (hne : dx ≠ x) (hT : TabAt C G t ss) (z : Sz ss) (hG : TgtAt k1 G tg gs) (hgs : Tgts ss gs)
    (hp : G p = some (.tup (ps.map V.int))) (hS : Seat ss ps) (hM : MovAt k2 G g mv) (hml : ∀ c ∈ mv, c.1.length = ss.length) (hk : mv.length ≤ 1000)
    (h : ∀ G' S, Same G G' → G S = none → RecAt R G' x S (seatsI ss ps mv) (firstI gs (seatsI ss ps mv)) → Q .non G') : sp_Record_init K C R [.ref x, .ref t, .ref tg, .ref p, .ref g] (upd (upd G dx (.own x)) x (.ins R dx [])) Q E := by
  have s3 : Same G (upd (upd G dx (.own x)) x (.ins R dx [])) := (Same.new hdx).trans (Same.new (by rw [upd_ne hne.symm]; exact hx))
  refine ⟨x, dx, t, tg, p, g, k1, k2, ss, ps, gs, mv, rfl, upd_same, hT.same s3, z, hG.same s3, hgs, s3 _ _ hp, hS, hM.same s3, hml, hk, fun G' m1 m2 S s4 h4 hGS hL => h G' S (fun b o hb => ?_) ?_ ⟨dx, t, m1, m2, h4, hL⟩⟩
  · exact s4 _ _ (ne_some hb hx) (s3 _ _ hb)
  · cases e : G S with
    | none => rfl
    | some o => rw [s3 _ _ e] at hGS; cases hGS
end

/-! ### the law's draws -/
section
variable {P : Program} {w : World} {K : PySem.W.Frag} {mg : Str → Option Value} {base : Heap}
def Src (H : Hp) (a : Addr) : Prop := ∃ s c d : Int, H a = some (.lst [.int s, .int c, .int d])
theorem Src.same {H H' : Hp} {a : Addr} (e : Same H H') (h : Src H a) : Src H' a := by
  obtain ⟨s, c, d, h⟩ := h
  exact ⟨s, c, d, e _ _ h⟩
theorem Src.ne {H : Hp} {a p : Addr} (h : Src H a) (hp : H p = none) : p ≠ a := fun e => by
  obtain ⟨s, c, d, h⟩ := h
  rw [e, h] at hp
  cases hp
theorem upd_none_of {H : Hp} {p q : Addr} {o : HO} (h : upd H p o q = none) : H q = none ∧ q ≠ p := by
  unfold upd at h
  by_cases e : q = p
  · rw [if_pos e] at h; cases h
  · rw [if_neg e] at h; exact ⟨h, e⟩
theorem Src.put {H : Hp} {a p : Addr} {o : HO} (h : Src H a) (n : a ≠ p) : Src (upd H p o) a := by
  obtain ⟨s, c, d, h⟩ := h
  exact ⟨s, c, d, by rw [upd_ne n]; exact h⟩
def sp_law_mixed (K : PySem.W.Frag) : Sp := fun vs H Q _ => ∃ c d : Int, vs = [.int c, .int d] ∧ ∀ r : Int, Q (.int r) H
theorem ok_law_mixed (T : Tx K mg) : FnOk P w K mg base CX0 1 T.f_law_mixed T.fd_law_mixed ["_law_cell", "_law_k"] (sp_law_mixed K) := by
  refine T.F_law_mixed.ok sc_law_mixed (fun vs H Q E h => ?_) (fun cdv A outer s H vs Q E hr h => ?_)
  · obtain ⟨c, d, rfl, _⟩ := h; rfl
  · obtain ⟨c, d, rfl, q⟩ := h
    refine ⟨_, (pss_cons (ps_set (i := 2) sc_law_mixed.nd rfl (Or.inl rfl) (pe_op op_mod (pe_op op_mulA (pe_op op_add (pe_op op_mod (pv 0) pe_int) pe_int) (pe_op op_add (pe_op op_mulA (pv 1) pe_int) pe_int)) pe_int))
      (pss_cons (ps_set (i := 2) sc_law_mixed.nd rfl (Or.inl rfl) (pe_op op_mod (pe_op op_mulA (pe_op op_add (pv 2) (pe_op op_mulA (pe_op op_mod (pe_op op_fdivW (pv 0) pe_int) pe_int) (pe_op op_add (pv 1) pe_int))) pe_int) pe_int))
      (pss_cons (ps_set (i := 2) sc_law_mixed.nd rfl (Or.inl rfl) (pe_op op_mod (pe_op op_mulA (pv 2) (pe_op op_add (pe_op op_add (pe_op op_fdivW (pv 2) pe_int) pe_int) (pv 1))) pe_int))
      (pss_one (ps_ret (pe_op op_mod (pe_op op_mulA (pv 2) (pe_op op_add (pe_op op_fdivW (pv 2) pe_int) pe_int)) pe_int)))))), ?_⟩
    walk_at "rd"
    refine ⟨.inr (.inl (by decide)), .inl ?_, .inl ?_, .inr (.inl (by decide)), .inl ?_, .inl ?_, q _⟩
    · omega
    · omega
    · generalize ((c % 2147483646 + 1) * (d * 7919 + 104729) % 2147483647 + c / 2147483646 % 1000003 * (d + 31)) * 48271 = z
      omega
    · generalize ((c % 2147483646 + 1) * (d * 7919 + 104729) % 2147483647 + c / 2147483646 % 1000003 * (d + 31)) * 48271 % 2147483629 * (((c % 2147483646 + 1) * (d * 7919 + 104729) % 2147483647 + c / 2147483646 % 1000003 * (d + 31)) * 48271 % 2147483629 / 1013 + 69621 + d) = z
      omega
def sp_law_take (K : PySem.W.Frag) : Sp := fun vs H Q _ => ∃ (a : Addr) (n : Int), vs = [.ref a, .int n] ∧ Src H a ∧ 0 < n ∧ n.natAbs < 2 ^ 8000 ∧ ∀ H' r, Sx a H H' → Src H' a → 0 ≤ r → r < n → Q (.int r) H'
theorem ok_law_take (T : Tx K mg) : FnOk P w K mg base CX0 2 T.f_law_take T.fd_law_take ["_law_source_here", "_law_many"] (sp_law_take K) := by
  refine T.F_law_take.ok sc_law_take (fun vs H Q E h => ?_) (fun cdv A outer s H vs Q E hr h => ?_)
  · obtain ⟨a, n, rfl, _⟩ := h; rfl
  · obtain ⟨a, n, rfl, ⟨s, c, d, hs⟩, hn, hb, q⟩ := h
    refine ⟨_, (pss_cons (ps_if (pt_cmpR op_ge (pe_ix ix_lH (pv 0) pe_int (fun _ _ => rfl)) (pe_op op_pow pe_int pe_int) (nomark _)) (pss_cons (ps_set (i := 2) sc_law_take.nd rfl (Or.inl rfl) (pe_op op_mod (pe_ix ix_lH (pv 0) pe_int (fun _ _ => rfl)) (pv 1)))
        (pss_cons (ps_asg (pe_op op_fdivW (pe_ix ix_lH (pv 0) pe_int (fun _ _ => rfl)) (pv 1)) (pg_sub (pv 0) pe_int set_lH))
        (pss_one (ps_ret (pv 2))))) pss_nil)
      (pss_cons (ps_asg (pe_op op_add (pe_ix ix_lH (pv 0) pe_int (fun _ _ => rfl)) pe_int) (pg_sub (pv 0) pe_int set_lH))
      (pss_one (ps_ret (pe_op op_mod (pe_call (ok_law_mixed T) (hr.mono (by decide)) (by rfl) T.g_law_mixed T.F_law_mixed.kp T.b_law_mixed .nil pass0 (pa_cons (pe_ix ix_lH (pv 0) pe_int (fun _ _ => rfl)) (pa_cons (pe_ix ix_lH (pv 0) pe_int (fun _ _ => rfl)) pa_nil))) (pv 1)))))), ?_⟩
    walk_at "rh"
    by_cases h : 1000000000000000000 ≤ s
    · rw [if_pos h]
      exact ⟨wide_div hn hb (by decide) (by decide), q _ _ Sx.put ⟨s / n, c, d, upd_same⟩ (Int.emod_nonneg _ (by omega)) (Int.emod_lt_of_pos _ hn)⟩
    · rw [if_neg h]
      refine ⟨c, d + 1, rfl, fun r => ?_⟩
      walk_at "rd"
      exact q _ _ Sx.put ⟨s, c, d + 1, upd_same⟩ (Int.emod_nonneg _ (by omega)) (Int.emod_lt_of_pos _ hn)
theorem take_small {n : Int} (h : 0 < n) (h2 : n < 2 ^ 64) : n.natAbs < 2 ^ 8000 := Nat.lt_of_lt_of_le (by omega : n.natAbs < 2 ^ 64) (Nat.pow_le_pow_right (by decide) (by decide))
def sp_law_source (K : PySem.W.Frag) : Sp := fun vs H Q _ => ∃ c : Int, vs = [.int c] ∧ ∀ H' a, Same H H' → H a = none → Src H' a → Q (.ref a) H'
theorem ok_law_source (T : Tx K mg) : FnOk P w K mg base CX0 1 T.f_law_source T.fd_law_source ["_law_cell"] (sp_law_source K) := by
  refine T.F_law_source.ok sc_law_source (fun vs H Q E h => ?_) (fun cdv A outer s H vs Q E hr h => ?_)
  · obtain ⟨c, rfl, _⟩ := h; rfl
  · obtain ⟨c, rfl, q⟩ := h
    refine ⟨_, (pss_one (ps_ret (pe_lst (pa_cons (pv 0) (pa_cons (pv 0) (pa_cons pe_int pa_nil)))))), ?_⟩
    walk_at "rd"
    intro p hp
    exact q _ p (Same.new hp) hp ⟨_, _, _, upd_same⟩
/-- a comprehension whose elements draw -/
theorem lcr_draw {J : It} {n : Nat} {G : Hp → Prop} {Y : Nat → Hp → V → Hp → Prop} (w : Walk J n G Y) {g : TG} {te : TE} {vs : List Nat} {σ : L2.St} {H1 : Hp} {Q : VK} {a : Addr} (R : Nat → V → Prop) (hs1 : Src H1 a) (hn : n ≤ sizeLine)
    (hG : ∀ H, Sx a H1 H → G H) (hY : ∀ i x H H', Y i H x H' → Same H H')
    (hs : ∀ i x H H' (Qy : VK), i < n → Sx a H1 H → Src H' a → Y i H x H' → (∀ y H4, Sx a H' H4 → Src H4 a → R i y → Qy y H4) → g x (wipe σ vs) H' fun σ2 H2 => wipe σ2 vs = wipe σ vs ∧ te σ2 H2 Qy)
    (hd : ∀ D acc H, H1 D = none → Sx a H1 H → Src H a → acc.length = n → (∀ (i : Nat) y, acc[i]? = some y → R i y) → H D = some (.lst acc) → Q (.ref D) H) : LcR J g tYes te vs σ H1 Q := fun D hD => by
  have nDa : D ≠ a := hs1.ne hD
  refine lc_gen w (fun i acc H => Sx a H1 H ∧ Src H a ∧ acc.length = i ∧ ∀ (j : Nat) y, acc[j]? = some y → R j y) hn ⟨Sx.of (Same.new hD), hs1.same (Same.new hD), rfl, fun j y h => by simp at h⟩ (fun i acc H _ h _ => hG H h.1) (fun i acc H l h _ => ⟨fun b o nb e => ?_, h.2.1.put nDa.symm, h.2.2⟩) (fun i acc x H H' Qy hi ha h e hy hq => ?_) (fun acc H ha h e => hd D acc H hD h.1 h.2.1 ha h.2.2.2 e)
  · rw [upd_ne (ne_some e hD)]
    exact h.1 b o nb e
  · refine hs i x H H' Qy hi h.1 (h.2.1.same (hY _ _ _ _ hy)) hy fun y H4 s4 hs4 hR => hq y H4 (s4 _ _ nDa (hY _ _ _ _ hy _ _ e)) ⟨(h.1.trans (Sx.of (hY _ _ _ _ hy))).trans s4, hs4, by rw [List.length_append, h.2.2.1]; rfl, fun j z hj => ?_⟩
    by_cases hlt : j < acc.length
    · rw [List.getElem?_append_left hlt] at hj
      exact h.2.2.2 j z hj
    · rw [List.getElem?_append_right (by omega)] at hj
      cases hk : j - acc.length with
      | zero =>
        rw [hk] at hj
        have e1 : j = i := by omega
        rw [e1]
        simp only [List.getElem?_cons_zero, Option.some.injEq] at hj
        rw [← hj]; exact hR
      | succ m => rw [hk] at hj; simp at hj
theorem ints_of {acc : List V} {R : Nat → Int → Prop} (h : ∀ (i : Nat) y, acc[i]? = some y → ∃ n, y = V.int n ∧ R i n) : ∃ ns : List Int, acc = ns.map V.int ∧ ∀ (i : Nat) n, ns[i]? = some n → R i n := by
  have key : ∀ (acc : List V) (k : Nat), (∀ (i : Nat) y, acc[i]? = some y → ∃ n, y = V.int n ∧ R (i + k) n) → ∃ ns : List Int, acc = ns.map V.int ∧ ∀ (i : Nat) n, ns[i]? = some n → R (i + k) n := by
    intro acc
    induction acc with
    | nil => intro k _; exact ⟨[], rfl, fun i n h => by simp at h⟩
    | cons x r ih =>
      intro k h
      obtain ⟨n, e, hn⟩ := h 0 x rfl
      obtain ⟨ns, e2, h2⟩ := ih (k + 1) fun i y hy => by
        obtain ⟨m, e3, h3⟩ := h (i + 1) y hy
        exact ⟨m, e3, by rw [show i + (k + 1) = i + 1 + k by omega]; exact h3⟩
      refine ⟨n :: ns, by rw [e, e2]; rfl, fun i m hm => ?_⟩
      cases i with
      | zero =>
        simp only [List.getElem?_cons_zero, Option.some.injEq] at hm
        rw [← hm]; exact hn
      | succ i =>
        have := h2 i m hm
        rw [show i + (k + 1) = i + 1 + k by omega] at this
        exact this
  obtain ⟨ns, e, h2⟩ := key acc 0 (fun i y hy => h i y hy)
  exact ⟨ns, e, fun i n hn => h2 i n hn⟩
/-- a list of ints at an index that is drawn -/
theorem atI_ints {ns : List Int} {i : Int} (h0 : 0 ≤ i) (h1 : i < ns.length) : ∃ n, n ∈ ns ∧ atI (ns.map V.int) i = some (.int n) := by
  obtain ⟨v, hv, e⟩ := atI_in (xs := ns.map V.int) h0 (by rw [List.length_map]; exact h1)
  obtain ⟨n, hn, rfl⟩ := List.mem_map.mp hv
  exact ⟨n, hn, e⟩
end

/-! ### the draws of the laws of records -/
section
variable {P : Program} {w : World} {K : PySem.W.Frag} {mg : Str → Option Value} {base : Heap}
theorem Src.net {H : Hp} {a p : Addr} {xs : List V} (h : Src H a) (hp : H p = some (.tup xs)) : p ≠ a := fun e => by
  obtain ⟨s, c, d, h⟩ := h
  rw [e, h] at hp
  cases hp
theorem Src.tp {H H' : Hp} {a : Addr} (h : Src H a) (s : Sx a H H') : Tp H H' := by
  obtain ⟨x, y, z, h⟩ := h
  exact Tp.sx s h (by simp)
/-- a list that isn't the source -/
theorem Src.nel {H : Hp} {a D : Addr} {as : List Addr} (h : Src H a) (hD : H D = some (.lst (as.map V.ref))) : D ≠ a := fun e => by
  obtain ⟨s, c, d, h⟩ := h
  rw [e, h] at hD
  have := HO.lst.inj (Option.some.inj hD)
  cases as <;> simp at this
theorem _root_.Cs.LstT.sxs {H H' : Hp} {a D : Addr} {gs : List (List Int)} (h : LstT H D gs) (hs : Src H a) (s : Sx a H H') : LstT H' D gs := by
  obtain ⟨as, h1, h2⟩ := h
  exact ⟨as, s _ _ (hs.nel h1) h1, h2.tp (hs.tp s)⟩
theorem MovAt.sxs {H H' : Hp} {a D : Addr} {mv : List (List Int × Bool)} (h : MovAt true H D mv) (hs : Src H a) (s : Sx a H H') : MovAt true H' D mv := by
  obtain ⟨as, h1, h2⟩ := h
  exact ⟨as, s _ _ (hs.nel h1) h1, h2.tp (hs.tp s)⟩
theorem AsM.snoc {H : Hp} {ms : List Addr} {mv : List (List Int × Bool)} {m p : Addr} {cs : List Int} {b : Bool} (h : AsM H ms mv) (hm : H m = some (.tup [.ref p, .str (offW b)])) (hp : H p = some (.tup (cs.map V.int))) : AsM H (ms ++ [m]) (mv ++ [(cs, b)]) := by
  refine ⟨by rw [List.length_append, List.length_append, h.1]; rfl, fun i u c h1 h2 => ?_⟩
  by_cases hlt : i < ms.length
  · rw [List.getElem?_append_left hlt] at h1
    rw [List.getElem?_append_left (by rw [← h.1]; exact hlt)] at h2
    exact h.2 i u c h1 h2
  · rw [List.getElem?_append_right (by omega)] at h1
    rw [List.getElem?_append_right (by rw [← h.1]; omega), ← h.1] at h2
    cases hk : i - ms.length with
    | zero =>
      rw [hk] at h1 h2
      simp only [List.getElem?_cons_zero, Option.some.injEq] at h1 h2
      rw [← h1, ← h2]
      exact ⟨p, hm, hp⟩
    | succ m => rw [hk] at h1; simp at h1
theorem Sz.small {ss : List Int} (z : Sz ss) {n : Int} (h : n ∈ ss) : 0 < n ∧ n.natAbs < 2 ^ 8000 := by
  have h1 := z.pos n h
  have h2 := z.bits n h
  exact ⟨by omega, Nat.lt_of_lt_of_le h2 (Nat.pow_le_pow_right (by decide) (by decide))⟩
theorem sz_of {ss : List Int} (h1 : 1 ≤ ss.length) (h4 : ss.length ≤ 4) (h : ∀ n ∈ ss, 1 ≤ n ∧ n < 2 ^ 100) : Sz ss :=
  ⟨h1, h4, fun n hn => (h n hn).1, fun n hn => Nat.lt_of_lt_of_le (by have := h n hn; omega : n.natAbs < 2 ^ 100) (Nat.pow_le_pow_right (by decide) (by decide))⟩
def sp_law_one (K : PySem.W.Frag) : Sp := fun vs H Q _ => ∃ (a l : Addr) (xs : List V), vs = [.ref a, .ref l] ∧ Src H a ∧ H l = some (.lst xs) ∧ l ≠ a ∧ 0 < xs.length ∧ xs.length < 1000 ∧ ∀ H' v, Sx a H H' → Src H' a → v ∈ xs → Q v H'
theorem ok_law_one (T : Tx K mg) : FnOk P w K mg base CX0 3 T.f_law_one T.fd_law_one ["_law_source_here", "_law_some"] (sp_law_one K) := by
  refine T.F_law_one.ok sc_law_one (fun vs H Q E h => ?_) (fun cdv A outer s H vs Q E hr h => ?_)
  · obtain ⟨a, l, xs, rfl, _⟩ := h; rfl
  · obtain ⟨a, l, xs, rfl, hs, hl, nla, h0, h1, q⟩ := h
    refine ⟨_, (pss_one (ps_ret (pe_ix ix_lH (pv 1) (pe_call (ok_law_take T) (hr.mono (by decide)) (by rfl) T.g_law_take T.F_law_take.kp T.b_law_take .nil pass0 (pa_cons (pv 0) (pa_cons (pe_callB len_H (by rfl) T.n_len PySem.boot_len (pa_cons (pv 1) pa_nil)) pa_nil))) (fun _ _ => rfl)))), ?_⟩
    walk_at "rd"
    refine .inl ⟨_, hl, a, _, rfl, hs, by omega, take_small (by omega) (by omega), fun H1 r s1 hs1 r0 r1 => ⟨r, rfl, _, s1 _ _ nla hl, ?_⟩⟩
    obtain ⟨v, hv, ev⟩ := atI_in r0 r1
    exact ⟨v, ev, q _ v s1 hs1 hv⟩
def sp_law_rings (K : PySem.W.Frag) : Sp := fun vs H Q _ => ∃ (a : Addr) (n : Int), vs = [.ref a, .int n] ∧ Src H a ∧ ∀ H' p ss, Sx a H H' → Src H' a → H' p = some (.tup (ss.map V.int)) → Sz ss → Q (.ref p) H'
theorem ok_law_rings (T : Tx K mg) : FnOk P w K mg base CX0 4 T.f_law_rings T.fd_law_rings ["_law_source_here", "_law_limit"] (sp_law_rings K) := by
  refine T.F_law_rings.ok sc_law_rings (fun vs H Q E h => ?_) (fun cdv A outer s H vs Q E hr h => ?_)
  · obtain ⟨a, n, rfl, _⟩ := h; rfl
  · obtain ⟨a, n, rfl, hs, q⟩ := h
    refine ⟨_, (pss_cons (ps_set (i := 2) sc_law_rings.nd rfl (Or.inl rfl) (pe_lst pa_nil))
      (pss_cons (ps_set (i := 3) sc_law_rings.nd rfl (Or.inl rfl) pe_int)
      (pss_cons (ps_for PassesOwn.never rfl (pi_range1H (by rfl) T.n_range (pa_cons (pe_op op_add pe_int (pe_call (ok_law_take T) (hr.mono (by decide)) (by rfl) T.g_law_take T.F_law_take.kp T.b_law_take .nil pass0 (pa_cons (pv 0) (pa_cons pe_int pa_nil)))) pa_nil)) (pg_name (i := 4) sc_law_rings.nd rfl (Or.inl rfl))
        (pss_cons (ps_set (i := 5) sc_law_rings.nd rfl (Or.inl rfl) (pe_call (ok_law_one T) (hr.mono (by decide)) (by rfl) T.g_law_one T.F_law_one.kp T.b_law_one .nil pass0 (pa_cons (pv 0) (pa_cons (pe_lst (pa_cons pe_int (pa_cons pe_int (pa_cons pe_int (pa_cons pe_int (pa_cons pe_int (pa_cons pe_int (pa_cons pe_int (pa_cons pe_int (pa_cons pe_int (pa_cons pe_int (pa_cons pe_int (pa_cons (pe_op op_add pe_int (pe_call (ok_law_take T) (hr.mono (by decide)) (by rfl) T.g_law_take T.F_law_take.kp T.b_law_take .nil pass0 (pa_cons (pv 0) (pa_cons pe_int pa_nil)))) pa_nil))))))))))))) pa_nil))))
        (pss_one (ps_if (pt_cmpR op_le (pe_op op_mulA (pv 3) (pv 5)) (pv 1) (nomark _)) (pss_cons (ps_expr (pe_append (pv 2) (pa_cons (pv 5) pa_nil)))
          (pss_one (ps_set (i := 3) sc_law_rings.nd rfl (Or.inl rfl) (pe_op op_mulA (pv 3) (pv 5))))) pss_nil))))
      (pss_one (ps_ret (pe_callTy tuple_H (by rfl) T.n_tuple (by decide +kernel) (pa_cons (pe_op op_catS (pv 2) (pe_op op_rep (pe_lst (pa_cons pe_int pa_nil)) (pe_callTy call_int1 (by rfl) T.n_int (by decide +kernel) (pa_cons (pe_cmpR (op_eqDK (K := K) rfl hr.units) (pv 2) (pe_lst pa_nil) (nomark _)) pa_nil)))) pa_nil))))))), ?_⟩
    walk_at "rd"
    intro D hD
    have nDa := hs.ne hD
    refine ⟨a, 4, rfl, hs.same (Same.new hD), by decide, take_small (by decide) (by decide), fun H1 r s1 hs1 r0 r1 => ⟨r, rfl, by omega, by omega, fun J W => ?_⟩⟩
    refine forr W (fun i σ H' => Sx a H H' ∧ Src H' a ∧ ∃ (ss : List Int) (t : Int) (v4 v5 : Option V), σ = [some (V.ref a), some (V.int n), some (V.ref D), some (V.int t), v4, v5] ∧ H' D = some (.lst (ss.map V.int)) ∧ ss.length ≤ i ∧ ∀ s ∈ ss, 1 ≤ s ∧ s ≤ 31) ⟨(Sx.of (Same.new hD)).trans s1, hs1, [], 1, none, none, rfl, s1 _ _ nDa upd_same, Nat.le_refl _, by simp⟩ (fun _ _ _ _ _ => trivial) ?_ ?_
    · rintro i x σ H2 H3 hi ⟨s2, hs2, ss, t, v4, v5, rfl, hD2, hl, hb⟩ ⟨rfl, rfl⟩
      walk_at "rd"
      refine ⟨a, 30, rfl, hs2, by decide, take_small (by decide) (by decide), fun H4 r2 s4 hs4 r20 r21 => ⟨r2, rfl, fun g hg => ?_⟩⟩
      have nga := hs4.ne hg
      have sg := Same.new hg (o := .lst [V.int 1, V.int 2, V.int 3, V.int 3, V.int 4, V.int 5, V.int 6, V.int 9, V.int 8, V.int 12, V.int 15, V.int (2 + r2)])
      refine ⟨a, g, _, rfl, hs4.same sg, upd_same, nga, by simp, by simp, fun H5 v s5 hs5 hv => ?_⟩
      have hv' : ∃ x, v = V.int x ∧ 1 ≤ x ∧ x ≤ 31 := by
        simp only [List.mem_cons, List.mem_nil_iff, or_false] at hv
        rcases hv with rfl | rfl | rfl | rfl | rfl | rfl | rfl | rfl | rfl | rfl | rfl | rfl <;> exact ⟨_, rfl, by omega, by omega⟩
      obtain ⟨x, rfl, x1, x31⟩ := hv'
      have hD5 := s5 _ _ nDa (sg _ _ (s4 _ _ nDa hD2))
      have s25 := ((s2.trans s4).trans (Sx.of sg)).trans s5
      refine ⟨x, rfl, .inr (.inl (by omega)), ?_⟩
      by_cases e : t * x ≤ n
      · rw [if_pos e]
        refine ⟨⟨_, hD5⟩, _, hD5, ?_, x, rfl, .inr (.inl (by omega)), fun b o nb hb => by rw [upd_ne (ne_some hb hD)]; exact s25 b o nb hb, hs5.put nDa.symm, ss ++ [x], by rw [List.map_append]; rfl, by rw [List.length_append]; simp; omega, fun s hs' => ?_⟩
        · rw [List.length_map]
          exact Nat.lt_of_le_of_lt (by omega : ss.length ≤ 5) (by decide)
        · rcases List.mem_append.mp hs' with h | h
          · exact hb s h
          · rw [List.mem_singleton.mp h]
            exact ⟨x1, x31⟩
      · rw [if_neg e]
        exact ⟨s25, hs5, ss, hD5, by omega, hb⟩
    · rintro σ H2 ⟨s2, hs2, ss, t, v4, v5, rfl, hD2, hl, hb⟩
      walk_at "rd"
      intro p hp p1 hp1
      have t1 := Same.new hp (o := .lst [V.int 3])
      have g1 : (upd H2 p (.lst [V.int 3])) p = some (.lst [V.int 3]) := upd_same
      generalize upd H2 p (HO.lst [V.int 3]) = H3 at t1 g1 hp1 ⊢
      have t2 := Same.new hp1 (o := .lst [])
      have g2 : (upd H3 p1 (.lst [])) p1 = some (.lst []) := upd_same
      generalize upd H3 p1 (HO.lst []) = H4 at t2 g2 ⊢
      have t12 := t1.trans t2
      refine eqD_lst (ns := ss) (ms := []) (t12 _ _ hD2) g2 (.inr ⟨_, rfl, ?_⟩)
      by_cases e : ss = []
      · subst e
        rw [if_pos (decide_eq_true rfl)]
        refine ⟨p, 1, [V.int 3], rfl, rfl, t2 _ _ g1, by decide, by decide, by decide, fun g hg => ?_⟩
        have t3 := Same.new hg (o := .lst [V.int 3])
        refine ⟨g, rfl, [], .inl (.inl (t3 _ _ (t12 _ _ hD2))), [V.int 3], .inl (.inl upd_same), by decide, fun p2 hp2 l hl => ?_⟩
        have t4 := Same.new hp2 (o := .lst ([] ++ [V.int 3]))
        have t5 := Same.new hl (o := .tup ([] ++ [V.int 3]))
        have tt := ((t12.trans t3).trans t4).trans t5
        exact q _ l [3] (s2.trans (Sx.of tt)) (hs2.same tt) upd_same (sz_of (by simp) (by simp) fun n hn => by rw [List.mem_singleton.mp hn]; decide)
      · rw [if_neg (by rw [decide_eq_false e]; decide)]
        refine ⟨p, 0, [V.int 3], rfl, rfl, t2 _ _ g1, by decide, by decide, by decide, fun g hg => ?_⟩
        have t3 := Same.new hg (o := .lst [])
        refine ⟨g, rfl, ss.map V.int, .inl (.inl (t3 _ _ (t12 _ _ hD2))), [], .inl (.inl upd_same), ?_, fun p2 hp2 l hl => ?_⟩
        · rw [List.length_map]
          exact Nat.le_trans (by simp; omega : ss.length + ([] : List V).length ≤ 5) (by decide)
        have t4 := Same.new hp2 (o := .lst (ss.map V.int ++ []))
        have t5 := Same.new hl (o := .tup (ss.map V.int ++ []))
        have tt := ((t12.trans t3).trans t4).trans t5
        exact q _ l ss (s2.trans (Sx.of tt)) (hs2.same tt) (by rw [upd_same, List.append_nil]) (sz_of (List.length_pos_iff.mpr e) (by omega) fun n hn => by have := hb n hn; omega)
def sp_law_seat (K : PySem.W.Frag) : Sp := fun vs H Q _ => ∃ (a l : Addr) (ss : List Int), vs = [.ref a, .ref l] ∧ Src H a ∧ H l = some (.tup (ss.map V.int)) ∧ Sz ss ∧ ∀ H' p ps, Sx a H H' → Src H' a → H' p = some (.tup (ps.map V.int)) → Seat ss ps → Q (.ref p) H'
theorem ok_law_seat (T : Tx K mg) : FnOk P w K mg base CX0 3 T.f_law_seat T.fd_law_seat ["_law_source_here", "_law_rings_here"] (sp_law_seat K) := by
  refine T.F_law_seat.ok sc_law_seat (fun vs H Q E h => ?_) (fun cdv A outer s H vs Q E hr h => ?_)
  · obtain ⟨a, l, ss, rfl, _⟩ := h; rfl
  · obtain ⟨a, l, ss, rfl, hs, hl, z, q⟩ := h
    refine ⟨_, (pss_one (ps_ret (pe_callTy tuple_H (by rfl) T.n_tuple (by decide +kernel) (pa_cons (pe_lc (own := [("_law_size", 2)]) (g := (gName 2)) (tt := tYes) rfl sc_law_seat.nd (pi_seqH (pv 1)) (blkOk_by (own := [("_law_size", 2)]) (N := N_law_seat) (sc := defScope d_law_seat) (by decide +kernel)) (fun _ _ _ _ _ => (pg_name (i := 2) sc_law_seat.nd rfl (Or.inl rfl))) (fun _ _ _ _ _ => pts_nil) (fun _ _ _ _ _ => (pe_call (ok_law_take T) (hr.mono (by decide)) (by rfl) T.g_law_take T.F_law_take.kp T.b_law_take .nil pass0 (pa_cons (pv 0) (pa_cons (pv 2) pa_nil))))) pa_nil)))), ?_⟩
    have nla := hs.net hl
    have h4 := z.hi
    walk_at "rd"
    refine .inr ⟨_, hl, fun J W => ?_⟩
    refine lcr_draw W (fun i y => ∃ n, y = V.int n ∧ ∀ s, ss[i]? = some s → 0 ≤ n ∧ n < s) hs (by rw [List.length_map]; exact Nat.le_trans z.hi (by decide)) (fun H1 s1 => s1 _ _ nla hl) (fun _ _ _ _ y => YAt.same y) ?_ ?_
    · rintro i x H3 H4 Qy hi s3 hs3 ⟨rfl, hx⟩ hq
      simp only [List.getElem?_map, Option.map_eq_some_iff] at hx
      obtain ⟨n, hn, rfl⟩ := hx
      have hb := z.small (List.mem_of_getElem? hn)
      walk_at "rd"
      refine ⟨a, n, rfl, hs3, hb.1, hb.2, fun H5 r s5 hs5 r0 r1 => hq _ _ s5 hs5 ⟨r, rfl, fun s hs' => ?_⟩⟩
      rw [hn] at hs'
      obtain rfl := Option.some.inj hs'
      exact ⟨r0, r1⟩
    · intro D acc H3 hD s3 hs3 hlen hR hD3
      obtain ⟨ps, rfl, hps⟩ := ints_of hR
      rw [List.length_map, List.length_map] at hlen
      refine ⟨D, rfl, .inl ⟨_, hD3, fun p hp => q _ p ps (s3.trans (Sx.of (Same.new hp))) (hs3.same (Same.new hp)) upd_same ⟨hlen, fun i p s h1 h2 => hps i p h1 s h2⟩⟩⟩
def sp_law_seats (K : PySem.W.Frag) : Sp := fun vs H Q _ => ∃ (a l : Addr) (ss : List Int) (n : Int), vs = [.ref a, .ref l, .int n] ∧ Src H a ∧ H l = some (.tup (ss.map V.int)) ∧ Sz ss ∧ 1 ≤ n ∧ n ≤ 20 ∧ ∀ H' D gs, Sx a H H' → Src H' a → H D = none → LstT H' D gs → Tgts ss gs → Q (.ref D) H'
theorem ok_law_seats (T : Tx K mg) : FnOk P w K mg base CX0 4 T.f_law_seats T.fd_law_seats ["_law_source_here", "_law_rings_here", "_law_most"] (sp_law_seats K) := by
  refine T.F_law_seats.ok sc_law_seats (fun vs H Q E h => ?_) (fun cdv A outer s H vs Q E hr h => ?_)
  · obtain ⟨a, l, ss, n, rfl, _⟩ := h; rfl
  · obtain ⟨a, l, ss, n, rfl, hs, hl, z, n1, n6, q⟩ := h
    refine ⟨_, (pss_cons (ps_set (i := 3) sc_law_seats.nd rfl (Or.inl rfl) (pe_lst pa_nil))
      (pss_cons (ps_for PassesOwn.never rfl (pi_range1H (by rfl) T.n_range (pa_cons (pe_op op_add pe_int (pe_call (ok_law_take T) (hr.mono (by decide)) (by rfl) T.g_law_take T.F_law_take.kp T.b_law_take .nil pass0 (pa_cons (pv 0) (pa_cons (pv 2) pa_nil)))) pa_nil)) (pg_name (i := 4) sc_law_seats.nd rfl (Or.inl rfl))
        (pss_cons (ps_set (i := 5) sc_law_seats.nd rfl (Or.inl rfl) (pe_call (ok_law_seat T) (hr.mono (by decide)) (by rfl) T.g_law_seat T.F_law_seat.kp T.b_law_seat .nil pass0 (pa_cons (pv 0) (pa_cons (pv 1) pa_nil))))
        (pss_one (ps_if (pt_cmpR (op_notInDK (K := K) rfl hr.units1) (pv 5) (pv 3) rfl) (pss_one (ps_expr (pe_append (pv 3) (pa_cons (pv 5) pa_nil)))) pss_nil))))
      (pss_one (ps_ret (pv 3))))), ?_⟩
    have nla := hs.net hl
    walk_at "rd"
    intro D hD
    have nDa := hs.ne hD
    have sD := Same.new hD (o := .lst [])
    refine ⟨a, n, rfl, hs.same sD, by omega, take_small (by omega) (by omega), fun H1 r s1 hs1 r0 r1 => ⟨r, rfl, by omega, by omega, fun J W => ?_⟩⟩
    refine forr W (fun i σ H' => Sx a H H' ∧ Src H' a ∧ ∃ (gs : List (List Int)) (v4 v5 : Option V), σ = [some (V.ref a), some (V.ref l), some (V.int n), some (V.ref D), v4, v5] ∧ LstT H' D gs ∧ gs.Nodup ∧ gs.length ≤ i ∧ (1 ≤ i → gs ≠ []) ∧ ∀ g ∈ gs, Seat ss g)
      ⟨(Sx.of sD).trans s1, hs1, [], none, none, rfl, ⟨[], s1 _ _ nDa upd_same, AsT.nil⟩, List.nodup_nil, Nat.le_refl _, fun h => absurd h (by decide), by simp⟩ (fun _ _ _ _ _ => trivial) ?_ ?_
    · rintro i x σ H2 H3 hi ⟨s2, hs2, gs, v4, v5, rfl, hL, hnd, hl2, hne, hok⟩ ⟨rfl, rfl⟩
      walk_at "rd"
      refine ⟨a, l, ss, rfl, hs2, s2 _ _ nla hl, z, fun H4 p ps s4 hs4 hp hS => ?_⟩
      have hL4 := hL.sxs hs2 s4
      walk_at "rd"
      refine notInD_tups hp hL4 ⟨_, rfl, ?_⟩
      by_cases h : ps ∈ gs
      · rw [decide_eq_true h, if_neg (by decide)]
        exact ⟨s2.trans s4, hs4, gs, hL4, hnd, by omega, fun _ e => by rw [e] at h; simp at h, hok⟩
      · rw [decide_eq_false h, if_pos (by decide)]
        obtain ⟨as, hDa, hal, hL'⟩ := hL4.push hp
        refine ⟨⟨_, hDa⟩, _, hDa, ?_, fun b o nb hb => by rw [upd_ne (ne_some hb hD)]; exact (s2.trans s4) b o nb hb, hs4.put nDa.symm, gs ++ [ps], hL', ?_, by rw [List.length_append]; simp; omega, fun _ => by simp, fun g hg => ?_⟩
        · rw [List.length_map, hal]
          exact Nat.lt_of_le_of_lt (by omega : gs.length ≤ 20) (by decide)
        · rw [List.nodup_append]
          exact ⟨hnd, by simp, fun x hx y hy e => h (by rw [← List.mem_singleton.mp hy, ← e]; exact hx)⟩
        · rcases List.mem_append.mp hg with hg | hg
          · exact hok g hg
          · rw [List.mem_singleton.mp hg]
            exact hS
    · rintro σ H2 ⟨s2, hs2, gs, v4, v5, rfl, hL, hnd, hl2, hne, hok⟩
      walk_at "rd"
      exact q _ D gs s2 hs2 hD hL ⟨hne (by omega), hnd, by omega, hok⟩
def sp_law_call (K : PySem.W.Frag) : Sp := fun vs H Q _ => ∃ (a l : Addr) (ss : List Int), vs = [.ref a, .ref l] ∧ Src H a ∧ H l = some (.tup (ss.map V.int)) ∧ Sz ss ∧ ∀ (H' : Hp) (p : Addr) (cs : List Int), Sx a H H' → Src H' a → H' p = some (.tup (cs.map V.int)) → cs.length = ss.length → Q (.ref p) H'
theorem ok_law_call (T : Tx K mg) : FnOk P w K mg base CX0 4 T.f_law_call T.fd_law_call ["_law_source_here", "_law_rings_here"] (sp_law_call K) := by
  refine T.F_law_call.ok sc_law_call (fun vs H Q E h => ?_) (fun cdv A outer s H vs Q E hr h => ?_)
  · obtain ⟨a, l, ss, rfl, _⟩ := h; rfl
  · obtain ⟨a, l, ss, rfl, hs, hl, z, q⟩ := h
    refine ⟨_, (pss_cons (ps_set (i := 2) sc_law_call.nd rfl (Or.inr rfl) (pe_call (ok_law_one T) (hr.mono (by decide)) (by rfl) T.g_law_one T.F_law_one.kp T.b_law_one .nil pass0 (pa_cons (pv 0) (pa_cons (pe_lst (pa_cons pe_int (pa_cons pe_int (pa_cons pe_int (pa_cons pe_int (pa_cons (pe_un un_neg pe_int) (pa_cons (pe_op op_pow pe_int pe_int) pa_nil))))))) pa_nil))))
      (pss_one (ps_ret (pe_callTy tuple_H (by rfl) T.n_tuple (by decide +kernel) (pa_cons (pe_lc (own := [("_law_size", 3)]) (g := (gName 3)) (tt := tYes) rfl sc_law_call.nd (pi_seqH (pv 1)) (blkOk_by (own := [("_law_size", 3)]) (N := N_law_call) (sc := defScope d_law_call) (by decide +kernel)) (fun _ _ _ _ _ => (pg_name (i := 3) sc_law_call.nd rfl (Or.inl rfl))) (fun _ _ _ _ _ => pts_nil) (fun _ _ _ _ _ => (pe_op op_add (pe_call (ok_law_take T) (hr.mono (by decide)) (by rfl) T.g_law_take T.F_law_take.kp T.b_law_take .nil pass0 (pa_cons (pv 0) (pa_cons (pv 3) pa_nil))) (pe_op op_mulA (pv 2) (pv 3))))) pa_nil))))), ?_⟩
    have nla := hs.net hl
    have h4 := z.hi
    walk_at "rd"
    intro g hg
    have nga := hs.ne hg
    have sg := Same.new hg (o := .lst [V.int 0, V.int 0, V.int 0, V.int 1, V.int (-1), V.int 100000000000000000000])
    refine ⟨a, g, _, rfl, hs.same sg, upd_same, nga, by simp, by simp, fun H1 v s1 hs1 hv => ?_⟩
    have hv' : ∃ x, v = V.int x ∧ x.natAbs < 2 ^ 67 := by
      simp only [List.mem_cons, List.mem_nil_iff, or_false] at hv
      rcases hv with rfl | rfl | rfl | rfl | rfl | rfl <;> exact ⟨_, rfl, by decide⟩
    obtain ⟨x, rfl, xb⟩ := hv'
    have hl1 := s1 _ _ nla (sg _ _ hl)
    refine .inr ⟨_, hl1, fun J W => ?_⟩
    refine lcr_draw W (fun i y => ∃ n, y = V.int n ∧ True) hs1 (by rw [List.length_map]; exact Nat.le_trans z.hi (by decide)) (fun H1 s1 => s1 _ _ nla hl1) (fun _ _ _ _ y => YAt.same y) ?_ ?_
    · rintro i y H3 H4 Qy hi s3 hs3 ⟨rfl, hx⟩ hq
      simp only [List.getElem?_map, Option.map_eq_some_iff] at hx
      obtain ⟨n, hn, rfl⟩ := hx
      have hb := z.small (List.mem_of_getElem? hn)
      have hb2 := z.bits n (List.mem_of_getElem? hn)
      walk_at "rd"
      exact ⟨a, n, rfl, hs3, hb.1, hb.2, fun H5 r s5 hs5 r0 r1 => ⟨.inr (.inr (wide_mul (a := 67) (b := 1000) xb hb2 (by decide) (by decide) (by decide))), r, rfl, hq _ _ s5 hs5 ⟨_, rfl, trivial⟩⟩⟩
    · intro D acc H3 hD s3 hs3 hlen hR hD3
      obtain ⟨cs, rfl, hps⟩ := ints_of hR
      rw [List.length_map, List.length_map] at hlen
      have s13 := ((Sx.of sg).trans s1).trans s3
      exact ⟨D, rfl, .inl ⟨_, hD3, fun p hp => q _ p cs (s13.trans (Sx.of (Same.new hp))) (hs3.same (Same.new hp)) upd_same hlen⟩⟩
def sp_law_moves (K : PySem.W.Frag) : Sp := fun vs H Q _ => ∃ (a l : Addr) (ss : List Int) (n : Int), vs = [.ref a, .ref l, .int n] ∧ Src H a ∧ H l = some (.tup (ss.map V.int)) ∧ Sz ss ∧ 0 ≤ n ∧ n ≤ 100 ∧ ∀ H' D mv, Sx a H H' → Src H' a → H D = none → MovAt true H' D mv → (∀ c ∈ mv, c.1.length = ss.length) → mv.length ≤ 100 → Q (.ref D) H'
theorem ok_law_moves (T : Tx K mg) : FnOk P w K mg base CX0 5 T.f_law_moves T.fd_law_moves ["_law_source_here", "_law_rings_here", "_law_most"] (sp_law_moves K) := by
  refine T.F_law_moves.ok sc_law_moves (fun vs H Q E h => ?_) (fun cdv A outer s H vs Q E hr h => ?_)
  · obtain ⟨a, l, ss, n, rfl, _⟩ := h; rfl
  · obtain ⟨a, l, ss, n, rfl, hs, hl, z, n0, n1, q⟩ := h
    refine ⟨_, (pss_cons (ps_set (i := 3) sc_law_moves.nd rfl (Or.inl rfl) (pe_lst pa_nil))
      (pss_cons (ps_for PassesOwn.never rfl (pi_range1H (by rfl) T.n_range (pa_cons (pe_call (ok_law_take T) (hr.mono (by decide)) (by rfl) T.g_law_take T.F_law_take.kp T.b_law_take .nil pass0 (pa_cons (pv 0) (pa_cons (pe_op op_add (pv 2) pe_int) pa_nil))) pa_nil)) (pg_name (i := 4) sc_law_moves.nd rfl (Or.inl rfl))
        (pss_one (ps_expr (pe_append (pv 3) (pa_cons (pe_tup (pa_cons (pe_call (ok_law_call T) (hr.mono (by decide)) (by rfl) T.g_law_call T.F_law_call.kp T.b_law_call .nil pass0 (pa_cons (pv 0) (pa_cons (pv 1) pa_nil))) (pa_cons (pe_ix ix_lH (pe_lst (pa_cons pe_str (pa_cons pe_str pa_nil))) (pe_call (ok_law_take T) (hr.mono (by decide)) (by rfl) T.g_law_take T.F_law_take.kp T.b_law_take .nil pass0 (pa_cons (pv 0) (pa_cons pe_int pa_nil))) (fun _ _ => rfl)) pa_nil))) pa_nil)))))
      (pss_one (ps_ret (pv 3))))), ?_⟩
    have nla := hs.net hl
    walk_at "rd"
    intro D hD
    have nDa := hs.ne hD
    have sD := Same.new hD (o := .lst [])
    refine ⟨a, n + 1, rfl, hs.same sD, by omega, take_small (by omega) (by omega), fun H1 r s1 hs1 r0 r1 => ⟨r, rfl, by omega, by omega, fun J W => ?_⟩⟩
    refine forr W (fun i σ H' => Sx a H H' ∧ Src H' a ∧ ∃ (mv : List (List Int × Bool)) (v4 : Option V), σ = [some (V.ref a), some (V.ref l), some (V.int n), some (V.ref D), v4] ∧ MovAt true H' D mv ∧ mv.length = i ∧ ∀ c ∈ mv, c.1.length = ss.length)
      ⟨(Sx.of sD).trans s1, hs1, [], none, rfl, ⟨[], s1 _ _ nDa upd_same, rfl, fun i m c h _ => by simp at h⟩, rfl, by simp⟩ (fun _ _ _ _ _ => trivial) ?_ ?_
    · rintro i x σ H2 H3 hi ⟨s2, hs2, mv, v4, rfl, hM, hml, hok⟩ ⟨rfl, rfl⟩
      walk_at "rd"
      obtain ⟨ms, hD2, hMm⟩ := hM
      have hD2 : H3 D = some (.lst (ms.map V.ref)) := hD2
      refine ⟨⟨_, hD2⟩, a, l, ss, rfl, hs2, s2 _ _ nla hl, z, fun H4 c cs s4 hs4 hc hcl => fun g hg => ?_⟩
      have sg := Same.new hg (o := .lst [V.str (Str.ofString "forward"), V.str (Str.ofString "backward")])
      have nga := hs4.ne hg
      refine ⟨a, 2, rfl, hs4.same sg, by decide, take_small (by decide) (by decide), fun H5 r2 s5 hs5 r20 r21 => ⟨r2, rfl, _, s5 _ _ nga upd_same, ?_⟩⟩
      have hb : ∃ b, atI [V.str (Str.ofString "forward"), V.str (Str.ofString "backward")] r2 = some (V.str (offW b)) := by
        have : r2 = 0 ∨ r2 = 1 := by omega
        rcases this with rfl | rfl
        · exact ⟨false, rfl⟩
        · exact ⟨true, rfl⟩
      obtain ⟨b, eb⟩ := hb
      refine ⟨_, eb, fun m hm => ?_⟩
      have sm := Same.new hm (o := .tup [V.ref c, V.str (offW b)])
      have hDm := sm _ _ (s5 _ _ nDa (sg _ _ (s4 _ _ nDa hD2)))
      have t4 : Tp H4 (upd H5 m (.tup [V.ref c, V.str (offW b)])) := ((Tp.of sg).trans ((hs4.same sg).tp s5)).trans (Tp.of sm)
      have tD := fun {o : HO} => t4.trans (Tp.put (u := o) hDm (by simp))
      refine ⟨_, hDm, ?_, fun b' o nb hb' => by rw [upd_ne (ne_some hb' hD)]; exact ((((s2.trans s4).trans (Sx.of sg)).trans s5).trans (Sx.of sm)) b' o nb hb', (hs5.same sm).put nDa.symm, mv ++ [(cs, b)], ⟨ms ++ [m], ?_, ?_⟩, by rw [List.length_append, hml]; rfl, fun c' hc' => ?_⟩
      · rw [List.length_map, hMm.1, hml]
        exact Nat.lt_of_le_of_lt (by omega : i ≤ 101) (by decide)
      · show _ = some (HO.lst _)
        rw [upd_same, List.map_append]
        rfl
      · refine ((hMm.tp (hs2.tp s4)).tp tD).snoc ?_ (tD _ _ hc)
        rw [upd_ne (ne_two upd_same hDm (by simp)), upd_same]
      · rcases List.mem_append.mp hc' with h | h
        · exact hok c' h
        · rw [List.mem_singleton.mp h]
          exact hcl
    · rintro σ H2 ⟨s2, hs2, mv, v4, rfl, hM, hml, hok⟩
      walk_at "rd"
      exact q _ D mv s2 hs2 hD hM hok (by omega)
def sp_law_step (K : PySem.W.Frag) : Sp := fun vs H Q _ => ∃ (l p c : Addr) (b : Bool) (ss ps cs : List Int), vs = [.ref l, .ref p, .ref c, .int (sgn b)] ∧ H l = some (.tup (ss.map V.int)) ∧ H p = some (.tup (ps.map V.int)) ∧ H c = some (.tup (cs.map V.int)) ∧ ps.length = ss.length ∧ cs.length = ss.length ∧ Sz ss ∧
  ∀ H' f, Same H H' → H' f = some (.tup ((mvW b ps cs ss).map V.int)) → Q (.ref f) H'
theorem ok_law_step (T : Tx K mg) : FnOk P w K mg base CX0 1 T.f_law_step T.fd_law_step ["_law_rings_here", "_law_spot", "_law_delta", "_law_sign"] (sp_law_step K) := by
  refine T.F_law_step.ok sc_law_step (fun vs H Q E h => ?_) (fun cdv A outer s H vs Q E hr h => ?_)
  · obtain ⟨l, p, c, b, ss, ps, cs, rfl, _⟩ := h; rfl
  · obtain ⟨l, p, c, b, ss, ps, cs, rfl, hl, hp, hc, e1, e2, z, q⟩ := h
    refine ⟨_, (pss_one (ps_ret (pe_callTy tuple_H (by rfl) T.n_tuple (by decide +kernel) (pa_cons (pe_lc (own := [("_law_place", 4), ("_law_one_here", 5), ("_law_size", 6)]) (g := (gTupH 3 (gCons (gName 4) (gCons (gName 5) (gCons (gName 6) gNil))))) (tt := tYes) rfl sc_law_step.nd (pi_z3H (by rfl) T.n_zip (pa_cons (pv 1) (pa_cons (pv 2) (pa_cons (pv 0) pa_nil)))) (blkOk_by (own := [("_law_place", 4), ("_law_one_here", 5), ("_law_size", 6)]) (N := N_law_step) (sc := defScope d_law_step) (by decide +kernel)) (fun _ _ _ _ _ => (pg_tupH (n := 3) rfl (pgs_cons (pg_name (i := 4) sc_law_step.nd rfl (Or.inl rfl)) (pgs_cons (pg_name (i := 5) sc_law_step.nd rfl (Or.inl rfl)) (pgs_cons (pg_name (i := 6) sc_law_step.nd rfl (Or.inl rfl)) pgs_nil))))) (fun _ _ _ _ _ => pts_nil) (fun _ _ _ _ _ => (pe_op op_mod (pe_op op_add (pv 4) (pe_op op_mulA (pv 3) (pv 5))) (pv 6)))) pa_nil)))), ?_⟩
    have pos : ∀ n ∈ ss, 0 < n := fun n hn => by have := z.pos n hn; omega
    walk_at "rd"
    refine ⟨false, false, false, ps.map V.int, hp, cs.map V.int, hc, ss.map V.int, hl, by rw [List.length_map, List.length_map, e1, e2], by rw [List.length_map, List.length_map, e2], fun J W => ?_⟩
    refine lcr_map W ((mvW b ps cs ss).map V.int) (by rw [List.length_map, List.length_map, mvW_len e1 e2, e1]) ?_ (fun H3 s3 => ⟨s3 _ _ hp, s3 _ _ hc, s3 _ _ hl⟩) (fun _ _ _ _ y => YTrip.same y) ?_ ?_
    · have h4 := z.hi
      rw [List.length_map]
      exact Nat.le_trans (by omega : ps.length ≤ 4) (by decide)
    · intro i x H3 H4 y Qy hi s3 hy hr hq
      obtain ⟨T0, x1, y1, z1, rfl, hT, rfl, h1, h2, h3⟩ := hy
      simp only [List.getElem?_map, Option.map_eq_some_iff] at hr h1 h2 h3
      obtain ⟨x2, hx2, rfl⟩ := h1
      obtain ⟨y2, hy2, rfl⟩ := h2
      obtain ⟨z2, hz2, rfl⟩ := h3
      rw [mvW_get hx2 hy2 hz2] at hr
      obtain ⟨r, hr, rfl⟩ := hr
      obtain rfl := Option.some.inj hr
      walk_at "rd"
      refine ⟨.inl (by unfold sgn; cases b <;> decide), pos z2 (List.mem_of_getElem? hz2), hq _ (Same.refl _)⟩
    · intro D H3 hD s3 h3
      exact ⟨D, rfl, .inl ⟨_, h3, fun f hf => q _ f (s3.trans (Same.new hf)) upd_same⟩⟩
def sp_law_walk (K : PySem.W.Frag) : Sp := fun vs H Q _ => ∃ (l p g : Addr) (ss ps : List Int) (mv : List (List Int × Bool)), vs = [.ref l, .ref p, .ref g] ∧ H l = some (.tup (ss.map V.int)) ∧ H p = some (.tup (ps.map V.int)) ∧ ps.length = ss.length ∧ MovAt true H g mv ∧ (∀ c ∈ mv, c.1.length = ss.length) ∧ Sz ss ∧ mv.length ≤ 1000 ∧
  ∀ H' D, Same H H' → H D = none → LstT H' D (seatsI ss ps mv) → Q (.ref D) H'
theorem ok_law_walk (T : Tx K mg) : FnOk P w K mg base CX0 2 T.f_law_walk T.fd_law_walk ["_law_rings_here", "_law_start", "_law_played"] (sp_law_walk K) := by
  refine T.F_law_walk.ok sc_law_walk (fun vs H Q E h => ?_) (fun cdv A outer s H vs Q E hr h => ?_)
  · obtain ⟨l, p, g, ss, ps, mv, rfl, _⟩ := h; rfl
  · obtain ⟨l, p, g, ss, ps, mv, rfl, hl, hp, hpl, ⟨ms, hg, hM⟩, hml, z, hk, q⟩ := h
    refine ⟨_, (pss_cons (ps_set (i := 3) sc_law_walk.nd rfl (Or.inl rfl) (pe_lst (pa_cons (pv 1) pa_nil)))
      (pss_cons (ps_for PassesOwn.never rfl (pi_seqH (pv 2)) (pg_tupH (n := 2) rfl (pgs_cons (pg_name (i := 4) sc_law_walk.nd rfl (Or.inl rfl)) (pgs_cons (pg_name (i := 5) sc_law_walk.nd rfl (Or.inl rfl)) pgs_nil)))
        (pss_one (ps_expr (pe_append (pv 3) (pa_cons (pe_call (ok_law_step T) (hr.mono (by decide)) (by rfl) T.g_law_step T.F_law_step.kp T.b_law_step .nil pass0 (pa_cons (pv 0) (pa_cons (pe_ix ix_lH (pv 3) (pe_un un_neg pe_int) (fun _ _ => rfl)) (pa_cons (pv 4) (pa_cons (pe_ix ix_lH (pe_lst (pa_cons pe_int (pa_cons (pe_un un_neg pe_int) pa_nil))) (pe_callTy call_int1 (by rfl) T.n_int (by decide +kernel) (pa_cons (pe_cmpR op_eq (pv 5) pe_str (nomark _)) pa_nil)) (fun _ _ => rfl)) pa_nil))))) pa_nil)))))
      (pss_one (ps_ret (pv 3))))), ?_⟩
    have hg : H g = some (.lst (ms.map V.ref)) := hg
    walk_at "rd"
    intro D hD
    have s1 := Same.new hD (o := .lst [V.ref p])
    have f1 : (upd H D (.lst [V.ref p])) D = some (.lst [V.ref p]) := upd_same
    generalize upd H D (HO.lst [V.ref p]) = H1 at s1 f1 ⊢
    have L0 : LstT H1 D ((List.range 1).map fun j => curI ss ps (mv.take j)) := ⟨[p], f1, by simp [curI], fun i u gs e1 e2 => by
      cases i with
      | zero =>
        simp only [List.getElem?_cons_zero, Option.some.injEq] at e1
        have e2' : some ps = some gs := e2
        rw [← e1, ← Option.some.inj e2']
        exact s1 _ _ hp
      | succ i => simp at e1⟩
    refine .inl ⟨_, s1 _ _ hg, fun J W => ?_⟩
    refine forr W (fun i σ H' => Same H H' ∧ LstT H' D ((List.range (i + 1)).map fun j => curI ss ps (mv.take j)) ∧ ∃ v4 v5, σ = [some (V.ref l), some (V.ref p), some (V.ref g), some (V.ref D), v4, v5]) ⟨s1, L0, none, none, rfl⟩ (fun i σ H' _ h => h.1 _ _ hg) ?_ ?_
    · rintro i x σ3 H3o H3 hi ⟨s3, L3, v4, v5, rfl⟩ ⟨rfl, hx⟩
      simp only [List.getElem?_map, Option.map_eq_some_iff] at hx
      obtain ⟨m, hm, rfl⟩ := hx
      rw [List.length_map, hM.1] at hi
      have hc := List.getElem?_eq_getElem hi
      obtain ⟨p1, hm1, hp1⟩ := hM.2 i m _ hm hc
      have hcl := curI_len hpl hml i
      walk_at "rd"
      refine ⟨_, s3 _ _ hm1, rfl, _, _, rfl, _, _, rfl, rfl, ?_⟩
      obtain ⟨as, hD3, hA3⟩ := id L3
      have has : as ≠ [] := fun e => by
        have := hA3.1
        rw [e, List.length_map, List.length_range] at this
        simp at this
      obtain ⟨as', u, rfl⟩ : ∃ as' u, as = as' ++ [u] := ⟨_, _, (List.dropLast_concat_getLast has).symm⟩
      have hal : as'.length = i := by
        have := hA3.1
        rw [List.length_append, List.length_map, List.length_range] at this
        simpa using this
      have hu : H3 u = some (.tup ((curI ss ps (mv.take i)).map V.int)) := hA3.2 i u _ (by rw [List.getElem?_append_right (by omega), hal, Nat.sub_self]; rfl) (by rw [List.getElem?_map, List.getElem?_range (by omega)]; rfl)
      have hsg : ∀ b : Bool, atI [V.int 1, V.int (-1)] (if V.str (offW b) = V.str (Str.ofString "backward") then 1 else 0) = some (V.int (sgn b)) := fun b => by cases b <;> rfl
      refine ⟨⟨_, hD3⟩, _, hD3, .ref u, by rw [List.map_append]; exact atI_last _ _, fun g hg => ⟨rfl, _, hsg _, ?_⟩⟩
      have sg := Same.new hg (o := .lst [V.int 1, V.int (-1)])
      have s4 := s3.trans sg
      refine ⟨l, u, p1, mv[i].2, ss, _, mv[i].1, rfl, s4 _ _ hl, sg _ _ hu, s4 _ _ hp1, hcl, hml _ (List.getElem_mem hi), z, fun H5 f s5 hf => ?_⟩
      obtain ⟨as2, hDa, hal2, hL⟩ := ((L3.same sg).same s5).push hf
      refine ⟨_, hDa, ?_, fun b o e => by rw [upd_ne (ne_some e hD)]; exact s5 _ _ (s4 _ _ e), ?_⟩
      · rw [List.length_map, hal2, List.length_map, List.length_range]
        exact Nat.lt_of_le_of_lt (by omega : i + 1 ≤ 1000) (by decide)
      · rw [List.range_succ, List.map_append]
        show LstT _ D (_ ++ [curI ss ps (mv.take (i + 1))])
        rw [curI_take hc]
        exact hL
    · rintro σ3 H3 ⟨s3, L3, v4, v5, rfl⟩
      rw [List.length_map, hM.1] at L3
      walk_at "rd"
      exact q _ D s3 hD L3
def sp_law_wide_rings (K : PySem.W.Frag) : Sp := fun vs H Q _ => ∃ a : Addr, vs = [.ref a] ∧ Src H a ∧ ∀ H' p ss, Sx a H H' → Src H' a → H' p = some (.tup (ss.map V.int)) → Sz ss → Q (.ref p) H'
theorem ok_law_wide_rings (T : Tx K mg) : FnOk P w K mg base CX0 4 T.f_law_wide_rings T.fd_law_wide_rings ["_law_source_here"] (sp_law_wide_rings K) := by
  refine T.F_law_wide_rings.ok sc_law_wide_rings (fun vs H Q E h => ?_) (fun cdv A outer s H vs Q E hr h => ?_)
  · obtain ⟨a, rfl, _⟩ := h; rfl
  · obtain ⟨a, rfl, hs, q⟩ := h
    refine ⟨_, (pss_cons (ps_set (i := 1) sc_law_wide_rings.nd rfl (Or.inl rfl) (pe_lst pa_nil))
      (pss_cons (ps_for PassesOwn.never rfl (pi_range1H (by rfl) T.n_range (pa_cons (pe_op op_add pe_int (pe_call (ok_law_take T) (hr.mono (by decide)) (by rfl) T.g_law_take T.F_law_take.kp T.b_law_take .nil pass0 (pa_cons (pv 0) (pa_cons pe_int pa_nil)))) pa_nil)) (pg_name (i := 2) sc_law_wide_rings.nd rfl (Or.inl rfl))
        (pss_one (ps_expr (pe_append (pv 1) (pa_cons (pe_call (ok_law_one T) (hr.mono (by decide)) (by rfl) T.g_law_one T.F_law_one.kp T.b_law_one .nil pass0 (pa_cons (pv 0) (pa_cons (pe_lst (pa_cons pe_int (pa_cons pe_int (pa_cons pe_int (pa_cons pe_int (pa_cons pe_int (pa_cons (pe_op op_add (pe_op op_pow pe_int pe_int) pe_int) (pa_cons (pe_op op_pow pe_int pe_int) pa_nil)))))))) pa_nil))) pa_nil)))))
      (pss_one (ps_ret (pe_callTy tuple_H (by rfl) T.n_tuple (by decide +kernel) (pa_cons (pv 1) pa_nil)))))), ?_⟩
    walk_at "rd"
    intro D hD
    have nDa := hs.ne hD
    refine ⟨a, 4, rfl, hs.same (Same.new hD), by decide, take_small (by decide) (by decide), fun H1 r s1 hs1 r0 r1 => ⟨r, rfl, by omega, by omega, fun J W => ?_⟩⟩
    refine forr W (fun i σ H' => Sx a H H' ∧ Src H' a ∧ ∃ (ss : List Int) (v2 : Option V), σ = [some (V.ref a), some (V.ref D), v2] ∧ H' D = some (.lst (ss.map V.int)) ∧ ss.length = i ∧ ∀ s ∈ ss, 1 ≤ s ∧ s < 2 ^ 100) ⟨(Sx.of (Same.new hD)).trans s1, hs1, [], none, rfl, s1 _ _ nDa upd_same, rfl, by simp⟩ (fun _ _ _ _ _ => trivial) ?_ ?_
    · rintro i x σ H2 H3 hi ⟨s2, hs2, ss, v2, rfl, hD2, hl, hb⟩ ⟨rfl, rfl⟩
      walk_at "rd"
      refine ⟨⟨_, hD2⟩, fun g hg => ?_⟩
      have nga := hs2.ne hg
      have sg := Same.new hg (o := .lst [V.int 1, V.int 2, V.int 3, V.int 7, V.int 10, V.int 1000000000000000009, V.int 1000000000000000000000000000000])
      refine ⟨a, g, _, rfl, hs2.same sg, upd_same, nga, by simp, by simp, fun H5 v s5 hs5 hv => ?_⟩
      have hv' : ∃ x, v = V.int x ∧ 1 ≤ x ∧ x < 2 ^ 100 := by
        simp only [List.mem_cons, List.mem_nil_iff, or_false] at hv
        rcases hv with rfl | rfl | rfl | rfl | rfl | rfl | rfl <;> exact ⟨_, rfl, by decide, by decide⟩
      obtain ⟨x, rfl, x1, x31⟩ := hv'
      refine ⟨_, s5 _ _ nDa (sg _ _ hD2), ?_, fun b o nb hb => by rw [upd_ne (ne_some hb hD)]; exact ((s2.trans (Sx.of sg)).trans s5) b o nb hb, hs5.put nDa.symm, ss ++ [x], by rw [List.map_append]; rfl, by rw [List.length_append, hl]; rfl, fun s hs' => ?_⟩
      · rw [List.length_map, hl]
        exact Nat.lt_of_le_of_lt (by omega : i ≤ 5) (by decide)
      · rcases List.mem_append.mp hs' with h | h
        · exact hb s h
        · rw [List.mem_singleton.mp h]
          exact ⟨x1, x31⟩
    · rintro σ H2 ⟨s2, hs2, ss, v2, rfl, hD2, hl, hb⟩
      walk_at "rd"
      refine .inl ⟨_, hD2, fun p hp => q _ p ss (s2.trans (Sx.of (Same.new hp))) (hs2.same (Same.new hp)) upd_same (sz_of (by omega) (by omega) hb)⟩
/-- a tuple of ints, or a move -/
def Dat (H : Hp) (v : V) : Prop := (∃ t ns, v = .ref t ∧ H t = some (.tup (List.map V.int ns))) ∨ ∃ t p cs b, v = .ref t ∧ H t = some (.tup [.ref p, .str (offW b)]) ∧ H p = some (.tup (List.map V.int cs))
theorem Dat.tp {H H' : Hp} {v : V} (h : Dat H v) (s : Tp H H') : Dat H' v := by
  rcases h with ⟨t, ns, e, h⟩ | ⟨t, p, cs, b, e, h1, h2⟩
  · exact .inl ⟨t, ns, e, s _ _ h⟩
  · exact .inr ⟨t, p, cs, b, e, s _ _ h1, s _ _ h2⟩
theorem offW_lay (b : Bool) : PyData.canLay0 (.str (offW b)) = true := by cases b <;> decide +kernel
theorem dat_all {K : PySem.W.Frag} {H : Hp} : ∀ xs : List V, (∀ v ∈ xs, Dat H v) → ∃ ds, DpAll K H xs ds ∧ PyData.canLayAll0 ds = true ∧ PyData.depthAll ds ≤ 2 ∧ ds.length = xs.length
  | [], _ => ⟨[], .nil, rfl, by decide, rfl⟩
  | v :: xs, h => by
    obtain ⟨ds, h1, h2, h3, h4⟩ := dat_all (K := K) xs fun u hu => h u (List.mem_cons_of_mem _ hu)
    have hd : ∃ d, Dp K H v d ∧ PyData.canLay0 d = true ∧ PyData.depth d ≤ 2 := by
      rcases h v (List.mem_cons_self ..) with ⟨t, ns, rfl, ht⟩ | ⟨t, p, cs, b, rfl, ht, hp⟩
      · exact ⟨tupI ns, dp_tupI (.inl (.inl ht)), canLay_ints ns, by rw [depth_tupI]; decide⟩
      · refine ⟨.tuple [tupI cs, .str (offW b)], .tup (.inl (.inl ht)) (.cons (dp_tupI (.inl (.inl hp))) (.cons (.str _) .nil)), ?_, ?_⟩
        · show (PyData.canLayAll0 (cs.map PyData.int) && (PyData.canLay0 (.str (offW b)) && true)) = true
          rw [canLay_ints, offW_lay]
          rfl
        · show max (PyData.depth (tupI cs)) (max 0 0) + 1 ≤ 2
          rw [depth_tupI]
          decide
    obtain ⟨d, k1, k2, k3⟩ := hd
    refine ⟨d :: ds, .cons k1 h1, ?_, ?_, by rw [List.length_cons, List.length_cons, h4]⟩
    · show (PyData.canLay0 d && PyData.canLayAll0 ds) = true
      rw [k2, h2]
      rfl
    · show max (PyData.depth d) (PyData.depthAll ds) ≤ 2
      omega
theorem ne_nil_dat {K : PySem.W.Frag} {H : Hp} {l e : Addr} {xs : List V} {Q : VK} (hl : H l = some (.lst xs)) (hd : ∀ v ∈ xs, Dat H v) (he : H e = some (.lst [])) (q : Q (.bl (!decide (xs = []))) H) : rNeD K (.ref l) (.ref e) H Q := by
  obtain ⟨ds, h1, h2, h3, h4⟩ := dat_all (K := K) xs hd
  refine ⟨.list ds, .list [], .lst (.inl (.inl hl)) h1, .lst (.inl (.inl he)) .nil, ?_, rfl, ?_⟩
  · have e1 : PyData.canLay0 (.list ds) = true := h2
    have e2 : PyData.depth (.list ds) ≤ 64 := by
      show PyData.depthAll ds + 1 ≤ 64
      omega
    unfold SeqAt.shaped
    rw [e1, decide_eq_true e2]
    rfl
  · have e3 : PyData.eqv (.list ds) (.list []) = decide (xs = []) := by
      cases ds with
      | nil =>
        obtain rfl := List.length_eq_zero_iff.mp h4.symm
        rfl
      | cons d ds =>
        have : xs ≠ [] := fun e => by rw [e] at h4; simp at h4
        rw [decide_eq_false this]
        rfl
    rw [e3]
    exact q
def sp_law_spoil (K : PySem.W.Frag) : Sp := fun vs H Q _ => ∃ (a l : Addr) (y : V) (xs : List V), vs = [.ref a, .ref l, y] ∧ Src H a ∧ H l = some (.lst xs) ∧ l ≠ a ∧ xs.length ≤ 1100 ∧ (∀ v ∈ xs, Dat H v) ∧ Dat H y ∧
  ∀ H' xs', (∀ b o, b ≠ a → b ≠ l → H b = some o → H' b = some o) → Src H' a → H' l = some (.lst xs') → xs'.length ≤ xs.length + 1 → (∀ v ∈ xs', Dat H' v) → Q .non H'
theorem ok_law_spoil (T : Tx K mg) : FnOk P w K mg base CX0 3 T.f_law_spoil T.fd_law_spoil ["_law_source_here", "_law_items", "_law_more"] (sp_law_spoil K) := by
  refine T.F_law_spoil.ok sc_law_spoil (fun vs H Q E h => ?_) (fun cdv A outer s H vs Q E hr h => ?_)
  · obtain ⟨a, l, y, xs, rfl, _⟩ := h; rfl
  · obtain ⟨a, l, y, xs, rfl, hs, hl, nla, hz, hd, hy, q⟩ := h
    refine ⟨_, (pss_cons (ps_set (i := 3) sc_law_spoil.nd rfl (Or.inl rfl) (pe_call (ok_law_take T) (hr.mono (by decide)) (by rfl) T.g_law_take T.F_law_take.kp T.b_law_take .nil pass0 (pa_cons (pv 0) (pa_cons pe_int pa_nil))))
      (pss_one (ps_if (pt_cmpR op_eq (pv 3) pe_int (nomark _)) (pss_one (ps_expr (pe_clearL (pv 1) (mon_var _)))) (pss_one (ps_if (pt_cmpR op_eq (pv 3) pe_int (nomark _)) (pss_one (ps_expr (pe_reverL (pv 1) (mon_var _)))) (pss_one (ps_if (pt_cmpR op_eq (pv 3) pe_int (nomark _)) (pss_one (ps_expr (pe_append (pv 1) (pa_cons (pv 2) pa_nil)))) (pss_one (ps_if (PW.pt (pw_and (pt_cmpR op_eq (pv 3) pe_int (nomark _)) (pw_and1 (pt_cmpR (op_neDK (K := K) rfl hr.units) (pv 1) (pe_lst pa_nil) (nomark _))))) (pss_one (ps_expr (pe_popL (pv 1) (mon_var _)))) (pss_one (ps_if (pt_cmpR (op_neDK (K := K) rfl hr.units) (pv 1) (pe_lst pa_nil) (nomark _)) (pss_one (ps_asg (pv 2) (pg_sub (pv 1) (pe_call (ok_law_take T) (hr.mono (by decide)) (by rfl) T.g_law_take T.F_law_take.kp T.b_law_take .nil pass0 (pa_cons (pv 0) (pa_cons (pe_callB len_H (by rfl) T.n_len PySem.boot_len (pa_cons (pv 1) pa_nil)) pa_nil))) set_lH))) pss_nil))))))))))), ?_⟩
    walk_at "rd"
    refine ⟨a, 5, rfl, hs, by decide, take_small (by decide) (by decide), fun H1 r s1 hs1 r0 r1 => ⟨rfl, ?_⟩⟩
    have hl1 := s1 _ _ nla hl
    have fin : ∀ (G : Hp) (zs : List V), Sx a H G → Src G a → zs.length ≤ xs.length + 1 → (∀ v ∈ zs, Dat H v) → Q .non (upd G l (.lst zs)) := fun G zs sG hsG hzl hzd =>
      q _ zs (fun b o nb1 nb2 hb => by rw [upd_ne nb2]; exact sG b o nb1 hb) (hsG.put nla.symm) upd_same hzl fun v hv => ((hzd v hv).tp (hs.tp sG)).tp (Tp.put (sG _ _ nla hl) (by simp))
    have lz : ∀ k, k ≤ 1101 → k < sizeLine := fun k hk => Nat.lt_of_le_of_lt hk (by decide)
    have stay : ∀ G, Sx a H G → Src G a → Q .non G := fun G sG hsG => q G xs (fun b o nb1 nb2 hb => sG b o nb1 hb) hsG (sG _ _ nla hl) (by omega) fun v hv => (hd v hv).tp (hs.tp sG)
    have store : ∀ G, Sx a H G → Src G a → xs ≠ [] → sp_law_take K [V.ref a, V.int (xs.length : Nat)] G (fun i H2 => ∃ x, i = V.int x ∧ ∃ xs, H2 l = some (HO.lst xs) ∧ ∃ j, ixN xs.length x = some j ∧ Q V.non (upd H2 l (HO.lst (xs.set j y)))) E0 := fun G sG hsG hne => by
      have h0 := List.length_pos_iff.mpr hne
      refine ⟨a, _, rfl, hsG, by omega, take_small (by omega) (by omega), fun H5 x s5 hs5 x0 x1 => ⟨x, rfl, _, (sG.trans s5) _ _ nla hl, x.toNat, ?_, ?_⟩⟩
      · obtain ⟨k, rfl⟩ := Int.eq_ofNat_of_zero_le x0
        unfold ixN
        have : k < xs.length := by omega
        simp [this]
      · refine fin _ _ (sG.trans s5) hs5 (by rw [List.length_set]; omega) fun v hv => ?_
        rcases List.mem_or_eq_of_mem_set hv with h | h
        · exact hd v h
        · rw [h]; exact hy
    by_cases e0 : r = 0
    · rw [if_pos (by rw [e0])]
      exact ⟨⟨_, hl1⟩, fin _ [] s1 hs1 (by simp) (by simp)⟩
    rw [if_neg (fun h => e0 (V.int.inj h))]
    refine ⟨rfl, ?_⟩
    by_cases e1 : r = 1
    · rw [if_pos (by rw [e1])]
      exact ⟨_, hl1, fin _ _ s1 hs1 (by rw [List.length_reverse]; omega) fun v hv => hd v (List.mem_reverse.mp hv)⟩
    rw [if_neg (fun h => e1 (V.int.inj h))]
    refine ⟨rfl, ?_⟩
    by_cases e2 : r = 2
    · rw [if_pos (by rw [e2])]
      refine ⟨⟨_, hl1⟩, _, hl1, lz _ (by omega), fin _ _ s1 hs1 (by rw [List.length_append]; exact Nat.le_refl _) fun v hv => ?_⟩
      rcases List.mem_append.mp hv with h | h
      · exact hd v h
      · rw [List.mem_singleton.mp h]; exact hy
    rw [if_neg (fun h => e2 (V.int.inj h))]
    refine ⟨rfl, ?_⟩
    have more : ∀ {G : Hp} {p : Addr}, Sx a H G → Src G a → G p = none → Sx a H (upd G p (.lst [])) ∧ Src (upd G p (.lst [])) a ∧ (∀ v ∈ xs, Dat (upd G p (.lst [])) v) ∧ (upd G p (.lst [])) l = some (.lst xs) := fun {G p} sG hsG hp =>
      have sp := sG.trans (Sx.of (Same.new hp (o := .lst [])))
      ⟨sp, hsG.same (Same.new hp), fun v hv => (hd v hv).tp (hs.tp sp), sp _ _ nla hl⟩
    by_cases e3 : r = 3
    · rw [if_pos (by rw [e3])]
      intro p hp
      obtain ⟨k1, k2, k3, k4⟩ := more s1 hs1 hp
      refine ne_nil_dat k4 k3 upd_same ⟨_, rfl, ?_⟩
      by_cases hne : xs = []
      · rw [decide_eq_true hne, if_neg (by decide)]
        intro p2 hp2
        obtain ⟨m1, m2, m3, m4⟩ := more k1 k2 hp2
        refine ne_nil_dat m4 m3 upd_same ⟨_, rfl, ?_⟩
        rw [decide_eq_true hne, if_neg (by decide)]
        exact stay _ m1 m2
      · rw [decide_eq_false hne, if_pos (by decide)]
        have h0 := List.length_pos_iff.mpr hne
        exact ⟨_, k4, ⟨_, List.getElem?_eq_getElem (by omega)⟩, fin _ _ k1 k2 (by rw [List.length_dropLast]; omega) fun v hv => hd v ((List.dropLast_sublist xs).subset hv)⟩
    · rw [if_neg (fun h => e3 (V.int.inj h))]
      intro p hp
      obtain ⟨k1, k2, k3, k4⟩ := more s1 hs1 hp
      refine ne_nil_dat k4 k3 upd_same ⟨_, rfl, ?_⟩
      by_cases hne : xs = []
      · rw [decide_eq_true hne, if_neg (by decide)]
        exact stay _ k1 k2
      · rw [decide_eq_false hne, if_pos (by decide)]
        exact .inl ⟨_, k4, store _ k1 k2 hne⟩
end

/-! ### k41's check -/
section
variable {P : Program} {w : World} {K : PySem.W.Frag} {mg : Str → Option Value} {base : Heap}
def optD : Option Nat → PyData
  | none => .none
  | some i => .int (i : Nat)
theorem dp_opt {K : PySem.W.Frag} {H : Hp} (o : Option Nat) : Dp K H (optV o) (optD o) := by cases o with | none => exact .non | some i => exact .int _
theorem shaped_opt (o : Option Nat) : SeqAt.shaped (optD o) = true := by cases o <;> rfl
theorem eqv_opt (o : Option Nat) : PyData.eqv (optD o) (optD o) = true := SeqAt.eqv_refl _ (SeqAt.canLay_of_shaped (shaped_opt o))
theorem neD_opt {K : PySem.W.Frag} {H : Hp} {o : Option Nat} {Q : VK} (q : Q (.bl false) H) : rNeD K (optV o) (optV o) H Q := ⟨_, _, dp_opt o, dp_opt o, shaped_opt o, shaped_opt o, by rw [eqv_opt]; exact q⟩
theorem eqD_opt {K : PySem.W.Frag} {H : Hp} {o : Option Nat} {Q : VK} (q : Q (.bl true) H) : rEqD K (optV o) (optV o) H Q := ⟨_, _, dp_opt o, dp_opt o, shaped_opt o, shaped_opt o, by rw [eqv_opt]; exact q⟩
theorem eqD_tups' {K : PySem.W.Frag} {H : Hp} {a b : Addr} {hss : List (List Int)} {Q : VK} (h1 : LstT H a hss) (h2 : LstT H b hss) (q : Q (.bl true) H) : rEqD K (.ref a) (.ref b) H Q :=
  ⟨_, _, dp_lstT h1, dp_lstT h2, shaped_tups _, shaped_tups _, by rw [show PyData.eqv (.list (hss.map tupI)) (.list (hss.map tupI)) = decide (hss = hss) from eqv_tups hss hss, decide_eq_true rfl]; exact q⟩
def firstsI (gs L : List (List Int)) (n : Nat) : List Nat := (List.range n).filter fun j => decide (L.getD j [] ∈ gs)
theorem first_head (gs L : List (List Int)) : ∃ rest, (firstsI gs L L.length).map (fun j => V.int (j : Nat)) ++ [V.non] = optV (firstI gs L) :: rest := by
  have e : (firstsI gs L L.length).head? = firstI gs L := by
    unfold firstsI firstI
    rw [List.head?_filter]
  cases h : firstsI gs L L.length with
  | nil =>
    rw [h] at e
    rw [← e]
    exact ⟨[], rfl⟩
  | cons x r =>
    rw [h] at e
    rw [← e]
    exact ⟨_, rfl⟩
/-- what the check holds all along -/
structure KQ (a l g p m : Addr) (ss : List Int) (gs : List (List Int)) (ps : List Int) (mv : List (List Int × Bool)) (H0 H : Hp) : Prop where
  sx : Sx a H0 H
  src : Src H a
  l : H l = some (.tup (ss.map V.int))
  g : LstT H g gs
  p : H p = some (.tup (ps.map V.int))
  m : MovAt true H m mv
theorem KQ.same {a l g p m : Addr} {ss : List Int} {gs : List (List Int)} {ps : List Int} {mv : List (List Int × Bool)} {H0 H H' : Hp} (k : KQ a l g p m ss gs ps mv H0 H) (s : Same H H') : KQ a l g p m ss gs ps mv H0 H' :=
  ⟨k.sx.trans (Sx.of s), k.src.same s, s _ _ k.l, k.g.same s, s _ _ k.p, k.m.same s⟩
def MQ1 (a l g p m : Addr) (ss : List Int) (gs : List (List Int)) (ps : List Int) (mv : List (List Int × Bool)) (H : Hp) (σ : L2.St) (H' : Hp) : Prop := ∃ D, σ = [some (V.ref a), some (V.ref l), some (V.ref g), some (V.ref p), some (V.ref m), some (V.ref D), none, none, none, none, none, none, none, none, none] ∧ KQ a l g p m ss gs ps mv H H' ∧ LstT H' D (seatsI ss ps mv) ∧ H D = none
def MQ2 (a l g p m D : Addr) (ss : List Int) (gs : List (List Int)) (ps : List Int) (mv : List (List Int × Bool)) (H : Hp) (σ : L2.St) (H' : Hp) : Prop := σ = [some (V.ref a), some (V.ref l), some (V.ref g), some (V.ref p), some (V.ref m), some (V.ref D), some (optV (firstI gs (seatsI ss ps mv))), none, none, none, none, none, none, none, none] ∧ KQ a l g p m ss gs ps mv H H' ∧ LstT H' D (seatsI ss ps mv)
def MQ4 (a l g p m D : Addr) (ss : List Int) (gs : List (List Int)) (ps : List Int) (mv : List (List Int × Bool)) (H : Hp) (σ : L2.St) (H' : Hp) : Prop := ∃ hd gv, σ = [some (V.ref a), some (V.ref l), some (V.ref g), some (V.ref p), some (V.ref m), some (V.ref D), some (optV (firstI gs (seatsI ss ps mv))), some (V.ref hd), some (V.ref gv), none, none, none, none, none, none] ∧ KQ a l g p m ss gs ps mv H H' ∧ LstT H' D (seatsI ss ps mv) ∧
  LstT H' hd gs ∧ MovAt true H' gv mv ∧ H hd = none ∧ H gv = none ∧ hd ≠ gv ∧ hd ≠ D ∧ gv ≠ D
structure KG (R a l g p m D hd gv r S : Addr) (ss : List Int) (gs : List (List Int)) (ps : List Int) (mv : List (List Int × Bool)) (n : Nat) (H0 H : Hp) : Prop where
  k : KQ a l g p m ss gs ps mv H0 H
  due : LstT H D (seatsI ss ps mv)
  hd : ∃ xs, H hd = some (.lst xs) ∧ xs.length ≤ 60 + n ∧ ∀ v ∈ xs, Dat H v
  gv : ∃ xs, H gv = some (.lst xs) ∧ xs.length ≤ 1000 + n ∧ ∀ v ∈ xs, Dat H v
  rc : RecAt R H r S (seatsI ss ps mv) (firstI gs (seatsI ss ps mv))
structure NG (a g m D hd gv S : Addr) (H0 : Hp) : Prop where
  hd0 : H0 hd = none
  gv0 : H0 gv = none
  hda : hd ≠ a
  gva : gv ≠ a
  hgv : hd ≠ gv
  hdg : hd ≠ g
  hdm : hd ≠ m
  hdD : hd ≠ D
  gvg : gv ≠ g
  gvm : gv ≠ m
  gvD : gv ≠ D
  Sa : S ≠ a
  Sh : S ≠ hd
  Sg : S ≠ gv
theorem KG.same {R a l g p m D hd gv r S : Addr} {ss : List Int} {gs : List (List Int)} {ps : List Int} {mv : List (List Int × Bool)} {n : Nat} {H0 H H' : Hp} (k : KG R a l g p m D hd gv r S ss gs ps mv n H0 H) (s : Same H H') : KG R a l g p m D hd gv r S ss gs ps mv n H0 H' := by
  obtain ⟨xs, h1, h2, h3⟩ := k.hd
  obtain ⟨ys, h4, h5, h6⟩ := k.gv
  exact ⟨k.k.same s, k.due.same s, ⟨xs, s _ _ h1, h2, fun v hv => (h3 v hv).tp (Tp.of s)⟩, ⟨ys, s _ _ h4, h5, fun v hv => (h6 v hv).tp (Tp.of s)⟩, k.rc.same s⟩
/-- a change of the source and of one list x -/
theorem KQ.two {a l g p m x : Addr} {ss : List Int} {gs : List (List Int)} {ps : List Int} {mv : List (List Int × Bool)} {xs : List V} {H0 H H' : Hp} (k : KQ a l g p m ss gs ps mv H0 H) (hx : H x = some (.lst xs)) (x0 : H0 x = none) (xg : x ≠ g) (xm : x ≠ m) (s : ∀ b o, b ≠ a → b ≠ x → H b = some o → H' b = some o) (h : Src H' a) :
    KQ a l g p m ss gs ps mv H0 H' ∧ Tp H H' := by
  have t : Tp H H' := fun b ys hb => s b _ (k.src.net hb) (ne_two hb hx (by simp)) hb
  obtain ⟨as, g1, g2⟩ := k.g
  obtain ⟨ms, m1, m2⟩ := k.m
  exact ⟨⟨fun b o nb hb => s b o nb (ne_some hb x0) (k.sx b o nb hb), h, t _ _ k.l, ⟨as, s _ _ (k.src.nel g1) xg.symm g1, g2.tp t⟩, t _ _ k.p, ⟨ms, s _ _ (k.src.nel m1) xm.symm m1, m2.tp t⟩⟩, t⟩
theorem rec_two {R a x r S : Addr} {L : List (List Int)} {o : Option Nat} {xs : List V} {H H' : Hp} (h : RecAt R H r S L o) (hs : Src H a) (hx : H x = some (.lst xs)) (sx : S ≠ x) (sa : S ≠ a) (s : ∀ b o, b ≠ a → b ≠ x → H b = some o → H' b = some o) (t : Tp H H') : RecAt R H' r S L o := by
  obtain ⟨dx, t1, m1, m2, h1, as, h2, h3⟩ := h
  obtain ⟨u1, u2, u3, hu⟩ := hs
  exact ⟨dx, t1, m1, m2, s _ _ (ne_two h1 hu (by simp)) (ne_two h1 hx (by simp)) h1, as, s _ _ sa sx h2, h3.tp t⟩
theorem due_two {a x D : Addr} {L : List (List Int)} {H H' : Hp} (h : LstT H D L) (hs : Src H a) (xD : x ≠ D) (s : ∀ b o, b ≠ a → b ≠ x → H b = some o → H' b = some o) (t : Tp H H') : LstT H' D L := by
  obtain ⟨as, h2, h3⟩ := h
  exact ⟨as, s _ _ (hs.nel h2) xD.symm h2, h3.tp t⟩
theorem dat_tups {H : Hp} {as : List Addr} {gs : List (List Int)} (h : AsT H as gs) : ∀ v ∈ as.map V.ref, Dat H v := fun v hv => by
  obtain ⟨u, hu, rfl⟩ := List.mem_map.mp hv
  obtain ⟨i, hi, e⟩ := List.getElem_of_mem hu
  exact .inl ⟨u, gs[i]'(by rw [← h.1]; exact hi), rfl, h.2 i u _ (by rw [List.getElem?_eq_getElem hi, e]) (List.getElem?_eq_getElem _)⟩
theorem dat_moves {H : Hp} {ms : List Addr} {mv : List (List Int × Bool)} (h : AsM H ms mv) : ∀ v ∈ ms.map V.ref, Dat H v := fun v hv => by
  obtain ⟨u, hu, rfl⟩ := List.mem_map.mp hv
  obtain ⟨i, hi, e⟩ := List.getElem_of_mem hu
  obtain ⟨p, h1, h2⟩ := h.2 i u (mv[i]'(by rw [← h.1]; exact hi)) (by rw [List.getElem?_eq_getElem hi, e]) (List.getElem?_eq_getElem _)
  exact .inr ⟨u, p, _, _, rfl, h1, h2⟩
theorem tab_made {C x dx p : Addr} {k : Bool} {ss : List Int} {G : Hp} {Q : VK} {E : XK} (hx : G x = none) (hdx : G dx = none) (hne : dx ≠ x) (hp : Sqh k G p (ss.map V.int)) (z : Sz ss)
    (h : ∀ G', Same G G' → TabAt C G' x ss → Q .non G') : sp_Table_init K C [.ref x, .ref p] (upd (upd G dx (.own x)) x (.ins C dx [])) Q E := by
  have s3 : Same G (upd (upd G dx (.own x)) x (.ins C dx [])) := (Same.new hdx).trans (Same.new (by rw [upd_ne hne.symm]; exact hx))
  refine ⟨x, dx, .ref p, p, k, ss, rfl, upd_same, rfl, hp.same s3, z.lo, z.hi, z.pos, fun G' t s4 h4 ht => h G' (fun b o hb => ?_) ⟨dx, t, h4, ht⟩⟩
  exact s4 _ _ (ne_some hb hx) (s3 _ _ hb)
theorem firsts_yes {gs L : List (List Int)} {i : Nat} (h : L.getD i [] ∈ gs) : firstsI gs L (i + 1) = firstsI gs L i ++ [i] := by
  unfold firstsI
  rw [List.range_succ, List.filter_append, List.filter_cons, if_pos (decide_eq_true h)]
  rfl
theorem firsts_no {gs L : List (List Int)} {i : Nat} (h : L.getD i [] ∉ gs) : firstsI gs L (i + 1) = firstsI gs L i := by
  unfold firstsI
  rw [List.range_succ, List.filter_append, List.filter_cons, if_neg (by rw [decide_eq_false h]; decide)]
  simp
theorem flat1 (m : Int) (k : Nat) : (List.replicate k [V.int m]).flatten = (List.replicate k m).map V.int := by
  induction k with
  | zero => rfl
  | succ k ih => rw [List.replicate_succ, List.flatten_cons, ih, List.replicate_succ]; rfl
def MG (R a l g p m D hd gv : Addr) (ss : List Int) (gs : List (List Int)) (ps : List Int) (mv : List (List Int × Bool)) (n : Nat) (H : Hp) (σ : L2.St) (H' : Hp) : Prop := ∃ r S v10 v11, σ = [some (V.ref a), some (V.ref l), some (V.ref g), some (V.ref p), some (V.ref m), some (V.ref D), some (optV (firstI gs (seatsI ss ps mv))), some (V.ref hd), some (V.ref gv), some (V.ref r), v10, v11, none, none, none] ∧
  KG R a l g p m D hd gv r S ss gs ps mv n H H' ∧ NG a g m D hd gv S H
def MGf (R a l g p m D hd gv : Addr) (ss : List Int) (gs : List (List Int)) (ps : List Int) (mv : List (List Int × Bool)) (n : Nat) (H : Hp) (σ : L2.St) (H' : Hp) : Prop := ∃ r S f v10, σ = [some (V.ref a), some (V.ref l), some (V.ref g), some (V.ref p), some (V.ref m), some (V.ref D), some (optV (firstI gs (seatsI ss ps mv))), some (V.ref hd), some (V.ref gv), some (V.ref r), v10, some (V.ref f), none, none, none] ∧
  KG R a l g p m D hd gv r S ss gs ps mv n H H' ∧ NG a g m D hd gv S H ∧ LstT H' f (seatsI ss ps mv) ∧ H f = none ∧ f ≠ a ∧ f ≠ g ∧ f ≠ m ∧ f ≠ D ∧ f ≠ hd ∧ f ≠ gv ∧ f ≠ S
def MQ7 (R a l g p m D : Addr) (ss : List Int) (gs : List (List Int)) (ps : List Int) (mv : List (List Int × Bool)) (H : Hp) (σ : L2.St) (H' : Hp) : Prop := ∃ o S v7 v8 v9 v10 v11, σ = [some (V.ref a), some (V.ref l), some (V.ref g), some (V.ref p), some (V.ref m), some (V.ref D), some (optV (firstI gs (seatsI ss ps mv))), v7, v8, v9, v10, v11, some (V.ref o), none, none] ∧ KQ a l g p m ss gs ps mv H H' ∧ LstT H' D (seatsI ss ps mv) ∧ RecAt R H' o S (seatsI ss ps mv) (firstI gs (seatsI ss ps mv))
def sp_law_right (K : PySem.W.Frag) : Sp := fun vs H Q _ => ∃ (a l g p m : Addr) (ss : List Int) (gs : List (List Int)) (ps : List Int) (mv : List (List Int × Bool)), vs = [.ref a, .ref l, .ref g, .ref p, .ref m] ∧ Src H a ∧ H l = some (.tup (ss.map V.int)) ∧ Sz ss ∧ LstT H g gs ∧ Tgts ss gs ∧
  H p = some (.tup (ps.map V.int)) ∧ Seat ss ps ∧ MovAt true H m mv ∧ (∀ c ∈ mv, c.1.length = ss.length) ∧ mv.length ≤ 1000 ∧ ∀ H', Sx a H H' → Src H' a → Q (.bl true) H'
theorem ok_law_right (T : Tx K mg) : FnOk P w K mg base CX0 6 T.f_law_right T.fd_law_right ["_law_source_here", "_law_rings_here", "_law_goals", "_law_start", "_law_played"] (sp_law_right K) := by
  refine T.F_law_right.ok sc_law_right (fun vs H Q E h => ?_) (fun cdv A outer s H vs Q E hr h => ?_)
  · obtain ⟨a, l, g, p, m, ss, gs, ps, mv, rfl, _⟩ := h; rfl
  · obtain ⟨a, l, g, p, m, ss, gs, ps, mv, rfl, hs, hl, z, hg, hgs, hp, hS, hm, hml, hk, q⟩ := h
    refine ⟨_, (C8.pss_cut (ps_set (i := 5) sc_law_right.nd rfl (Or.inl rfl) (pe_call (ok_law_walk T) (hr.mono (by decide)) (by rfl) T.g_law_walk T.F_law_walk.kp T.b_law_walk .nil pass0 (pa_cons (pv 1) (pa_cons (pv 3) (pa_cons (pv 4) pa_nil)))))
      (C8.pss_cut (ps_set (i := 6) sc_law_right.nd rfl (Or.inl rfl) (pe_ix ix_lH (pe_op op_catS (pe_lc (own := [("_law_index", 13), ("_law_place", 14)]) (g := (gTupH 2 (gCons (gName 13) (gCons (gName 14) gNil)))) rfl sc_law_right.nd (pi_enH (by rfl) T.n_enumerate (pa_cons (pv 5) pa_nil)) (blkOk_by (own := [("_law_index", 13), ("_law_place", 14)]) (N := N_law_right) (sc := defScope d_law_right) (by decide +kernel)) (fun _ _ _ _ _ => (pg_tupH (n := 2) rfl (pgs_cons (pg_name (i := 13) sc_law_right.nd rfl (Or.inl rfl)) (pgs_cons (pg_name (i := 14) sc_law_right.nd rfl (Or.inl rfl)) pgs_nil)))) (fun _ _ _ _ _ => (pts_one (pt_cmpR (op_inDK (K := K) rfl hr.units1) (pv 14) (pv 2) rfl))) (fun _ _ _ _ _ => (pv 13))) (pe_lst (pa_cons pe_non pa_nil))) pe_int (fun _ _ => rfl)))
      (C8.pss_cut (ps_if (pt_cmpR (op_neDK (K := K) rfl hr.units) (pe_meth0 (pe_make T.M_Record (ok_Record_init T) (hr.mono (by decide)) (by rfl) T.g_Record T.b_Record_init .nil pass0 (pa_cons (pe_make T.M_Table (ok_Table_init T) (hr.mono (by decide)) (by rfl) T.g_Table T.b_Table_init .nil pass0 (pa_cons (pv 1) pa_nil)) (pa_cons (pe_callTy list_H (by rfl) T.n_list (by decide +kernel) (pa_cons (pv 2) pa_nil)) (pa_cons (pv 3) (pa_cons (pe_callTy list_H (by rfl) T.n_list (by decide +kernel) (pa_cons (pv 4) pa_nil)) pa_nil))))) T.cl_Record T.m_Record_calls_to_target (ok_Record_calls_to_target T) (hr.mono (by decide)) T.b_Record_calls_to_target .nil pass0) (pv 6) (nomark _)) (pss_one (ps_ret pe_bl)) pss_nil)
      (C8.pss_cut (ps_par (i := 7) (j := 8) (by rfl) sc_law_right.nd rfl rfl (by decide) rfl rfl (pa_cons (pe_callTy list_H (by rfl) T.n_list (by decide +kernel) (pa_cons (pv 2) pa_nil)) (pa_cons (pe_callTy list_H (by rfl) T.n_list (by decide +kernel) (pa_cons (pv 4) pa_nil)) pa_nil)) (by rfl))
      (C8.pss_cut (ps_set (i := 9) sc_law_right.nd rfl (Or.inl rfl) (pe_make T.M_Record (ok_Record_init T) (hr.mono (by decide)) (by rfl) T.g_Record T.b_Record_init .nil pass0 (pa_cons (pe_make T.M_Table (ok_Table_init T) (hr.mono (by decide)) (by rfl) T.g_Table T.b_Table_init .nil pass0 (pa_cons (pv 1) pa_nil)) (pa_cons (pv 7) (pa_cons (pv 3) (pa_cons (pv 8) pa_nil))))))
      (C8.pss_cut (ps_for PassesOwn.never rfl (pi_range1H (by rfl) T.n_range (pa_cons pe_int pa_nil)) (pg_name (i := 10) sc_law_right.nd rfl (Or.inl rfl))
        (C8.pss_cut (ps_expr (pe_call (ok_law_spoil T) (hr.mono (by decide)) (by rfl) T.g_law_spoil T.F_law_spoil.kp T.b_law_spoil .nil pass0 (pa_cons (pv 0) (pa_cons (pv 7) (pa_cons (pv 3) pa_nil)))))
        (C8.pss_cut (ps_expr (pe_call (ok_law_spoil T) (hr.mono (by decide)) (by rfl) T.g_law_spoil T.F_law_spoil.kp T.b_law_spoil .nil pass0 (pa_cons (pv 0) (pa_cons (pv 8) (pa_cons (pe_tup (pa_cons (pe_op op_repA (pe_tup (pa_cons pe_int pa_nil)) (pe_callB len_H (by rfl) T.n_len PySem.boot_len (pa_cons (pv 1) pa_nil))) (pa_cons pe_str pa_nil))) pa_nil)))))
        (C8.pss_cut (ps_set (i := 11) sc_law_right.nd rfl (Or.inl rfl) (pe_meth0 (pv 9) T.cl_Record T.m_Record_seats (ok_Record_seats T) (hr.mono (by decide)) T.b_Record_seats .nil pass0))
        (C8.pss_cut (ps_if (PW.pt (pw_or (pt_cmpR (op_neDK (K := K) rfl hr.units) (pv 11) (pv 5) (nomark _)) (pw_or (pt_not (pt_val (pe_callB (call_isIK (K := K) rfl) (by rfl) T.n_isinstance (by decide +kernel) (pa_cons (pv 11) (pa_cons (pe_bltn (v := .ty "list") (by rfl) T.n_list (by decide +kernel) rfl) pa_nil))))) (pw_or1 (pt_cmpR (op_neDK (K := K) rfl hr.units) (pe_meth0 (pv 9) T.cl_Record T.m_Record_calls_to_target (ok_Record_calls_to_target T) (hr.mono (by decide)) T.b_Record_calls_to_target .nil pass0) (pv 6) (nomark _)))))) (pss_one (ps_ret pe_bl)) pss_nil)
        (pss_one (ps_expr (pe_append (pv 11) (pa_cons pe_non pa_nil)))))))))
      (C8.pss_cut (ps_set (i := 12) sc_law_right.nd rfl (Or.inl rfl) (pe_makeK0 T.M_Record (ok_Record_init T) (hr.mono (by decide)) (by rfl) T.g_Record T.kb_Record_moves_seat_targets_table pass0 (pk_cons (pe_callTy tuple_H (by rfl) T.n_tuple (by decide +kernel) (pa_cons (pv 4) pa_nil)) (pk_cons (pv 3) (pk_cons (pe_callTy tuple_H (by rfl) T.n_tuple (by decide +kernel) (pa_cons (pv 2) pa_nil)) (pk_cons (pe_make T.M_Table (ok_Table_init T) (hr.mono (by decide)) (by rfl) T.g_Table T.b_Table_init .nil pass0 (pa_cons (pv 1) pa_nil)) pk_nil))))))
      (pss_one (ps_ret (pe_and (pe_cmpR (op_eqDK (K := K) rfl hr.units) (pe_meth0 (pv 12) T.cl_Record T.m_Record_seats (ok_Record_seats T) (hr.mono (by decide)) T.b_Record_seats .nil pass0) (pv 5) (nomark _)) (pe_one (pe_cmpR (op_eqDK (K := K) rfl hr.units) (pe_meth0 (pv 12) T.cl_Record T.m_Record_calls_to_target (ok_Record_calls_to_target T) (hr.mono (by decide)) T.b_Record_calls_to_target .nil pass0) (pv 6) (nomark _))))))))))))), ?_⟩
    have k0 : KQ a l g p m ss gs ps mv H H := ⟨Sx.refl, hs, hl, hg, hp, hm⟩
    refine ⟨MQ1 a l g p m ss gs ps mv H, ?_, ?_⟩
    · walk_at "rd"
      exact ⟨l, p, m, ss, ps, mv, rfl, hl, hp, hS.len, hm, hml, z, hk, fun H1 D s1 hD hL => ⟨D, rfl, k0.same s1, hL, hD⟩⟩
    rintro σ1 H1 ⟨D, rfl, k1, hL1, hHD⟩
    refine ⟨MQ2 a l g p m D ss gs ps mv H, ?_, ?_⟩
    · walk_at "rd"
      obtain ⟨as, hD1, hA⟩ := id hL1
      have hlen := seatsI_len ss ps mv
      generalize hLdef : seatsI ss ps mv = L at hA hL1 hlen ⊢
      refine ⟨true, as.map V.ref, hD1, fun J W => ?_⟩
      refine lcr_if W (fun D2 i acc H' => Same H1 H' ∧ acc = (firstsI gs L i).map fun j => V.int (j : Nat)) ?_ (fun D2 hD2 => ⟨Same.new hD2, rfl⟩) (fun D2 i acc H' hD2 hi h e => h.1 _ _ hD1) (fun D2 i acc H' l hD2 h hn => ⟨fun b o e => by rw [upd_ne (ne_some e hD2)]; exact h.1 b o e, h.2⟩) ?_ ?_
      · rw [List.length_map, hA.1, hlen]
        exact Nat.lt_of_le_of_lt (by omega : mv.length + 1 ≤ 1001) (by decide)
      · rintro D2 i acc x Ha Hb Qn Qy hD2 hi ⟨sa, rfl⟩ e ⟨T0, x1, rfl, hT, rfl, hx⟩ hn hy
        simp only [List.getElem?_map, Option.map_eq_some_iff] at hx
        obtain ⟨u, hu, rfl⟩ := hx
        rw [List.length_map, hA.1] at hi
        have hc := List.getElem?_eq_getElem hi
        have huH := hA.2 i u _ hu hc
        have hgd : L.getD i [] = L[i] := by rw [List.getD_eq_getElem?_getD, hc]; rfl
        have sT := Same.new hT (o := .tup [V.int (i : Nat), V.ref u])
        have sb := sa.trans sT
        walk_at "rd"
        refine inD_tups (sb _ _ huH) (k1.g.same sb) ⟨_, rfl, ?_⟩
        by_cases h : L[i] ∈ gs
        · rw [decide_eq_true h, if_pos rfl]
          exact hy _ _ (sT _ _ e) ⟨sb, by rw [firsts_yes (by rw [hgd]; exact h), List.map_append]; rfl⟩
        · rw [decide_eq_false h, if_neg (by decide)]
          exact hn _ (sT _ _ e) ⟨sb, by rw [firsts_no (by rw [hgd]; exact h)]⟩
      · rintro D2 acc Hc hD2 hl2 ⟨sc, rfl⟩ e p1 hp1
        have t1 := Same.new hp1 (o := .lst [V.non])
        obtain ⟨rest, er⟩ := first_head gs L
        simp only [List.length_map, hA.1] at e hl2
        refine ⟨D2, rfl, _, .inl (.inl (t1 _ _ e)), _, .inl (.inl upd_same), ?_, fun p2 hp2 => ?_⟩
        · rw [List.length_map]
          exact Nat.le_trans (by simp; omega : (firstsI gs L L.length).length + [V.non].length ≤ 1002) (by decide)
        · have t2 := (sc.trans t1).trans (Same.new hp2 (o := .lst ((firstsI gs L L.length).map (fun j => V.int (j : Nat)) ++ [V.non])))
          refine ⟨_, by rw [er]; exact atI_0, ?_, k1.same t2, ?_⟩
          · rw [hLdef]
          · rw [hLdef]
            exact hL1.same t2
    rintro σ2 H2 ⟨rfl, k2, hL2⟩
    refine ⟨MQ2 a l g p m D ss gs ps mv H, ?_, ?_⟩
    · walk_at "rd"
      intro x dx hx hdx hne
      refine tab_made (k := false) hx hdx hne k2.l z fun G1 s1 hT => ⟨rfl, ?_⟩
      obtain ⟨as, hg1, hA⟩ := k2.g.same s1
      refine .inl ⟨_, hg1, fun l1 hl1 => ?_⟩
      have t1 := Same.new hl1 (o := .lst (as.map V.ref))
      obtain ⟨ms, hm1, hM⟩ := (k2.m.same s1).same t1
      have hm1 : (upd G1 l1 (.lst (as.map V.ref))) m = some (.lst (ms.map V.ref)) := hm1
      refine .inl ⟨_, hm1, fun l2 hl2 x1 dx1 hx1 hdx1 hne1 => ?_⟩
      have t2 := Same.new hl2 (o := .lst (ms.map V.ref))
      have t12 := t1.trans t2
      refine rec_made (k1 := true) (k2 := true) hx1 hdx1 hne1 (hT.same t12) z ⟨as, t2 _ _ upd_same, hA.same t12⟩ hgs (t12 _ _ (s1 _ _ k2.p)) hS ⟨ms, upd_same, hM.same t2⟩ hml hk fun G2 S s2 hS2 hR => ⟨rfl, ?_⟩
      obtain ⟨dx', t', m1', m2', hr, hrL⟩ := id hR
      refine ⟨_, _, hr, rfl, x1, S, _, _, rfl, hR, neD_opt ⟨_, rfl, ?_⟩⟩
      rw [if_neg (by decide)]
      have tt := (s1.trans t12).trans s2
      exact ⟨rfl, k2.same tt, hL2.same tt⟩
    rintro σ3 H3 ⟨rfl, k3, hL3⟩
    refine ⟨MQ4 a l g p m D ss gs ps mv H, ?_, ?_⟩
    · walk_at "rd"
      obtain ⟨as, hg1, hA⟩ := id k3.g
      refine .inl ⟨_, hg1, fun l1 hl1 => ?_⟩
      have t1 := Same.new hl1 (o := .lst (as.map V.ref))
      obtain ⟨ms, hm1, hM⟩ := k3.m.same t1
      have hm1 : (upd H3 l1 (.lst (as.map V.ref))) m = some (.lst (ms.map V.ref)) := hm1
      refine .inl ⟨_, hm1, fun l2 hl2 => ?_⟩
      obtain ⟨hl2n, n21⟩ := upd_none_of hl2
      have t2 := Same.new hl2 (o := .lst (ms.map V.ref))
      have t12 := t1.trans t2
      obtain ⟨ds, hD3, hdA⟩ := id hL3
      exact ⟨l1, l2, rfl, k3.same t12, hL3.same t12, ⟨as, t2 _ _ upd_same, hA.same t12⟩, ⟨ms, upd_same, hM.same t2⟩, k3.sx.free (k3.src.ne hl1) hl1, k3.sx.free (k3.src.ne hl2n) hl2n, n21.symm, (ne_some hD3 hl1).symm, (ne_some hD3 hl2n).symm⟩
    rintro σ4 H4 ⟨hd, gv, rfl, k4, hL4, hhd, hgv, hd0, gv0, n1, n2, n3⟩
    refine ⟨MG T.c_Record a l g p m D hd gv ss gs ps mv 0 H, ?_, ?_⟩
    · walk_at "rd"
      intro x dx hx hdx hne
      refine tab_made (k := false) hx hdx hne k4.l z fun G1 s1 hT => ⟨rfl, fun x1 dx1 hx1 hdx1 hne1 => ?_⟩
      refine rec_made (k1 := true) (k2 := true) hx1 hdx1 hne1 hT z (hhd.same s1) hgs (s1 _ _ k4.p) hS (hgv.same s1) hml hk fun G2 S s2 hS2 hR => ⟨rfl, ?_⟩
      have s12 := s1.trans s2
      obtain ⟨as, hh1, hA⟩ := id hhd
      obtain ⟨ms, hv1, hM⟩ := id hgv
      have hv1 : H4 gv = some (.lst (ms.map V.ref)) := hv1
      obtain ⟨gg, hgg, _⟩ := id k4.g
      obtain ⟨mm, hmm, _⟩ := id k4.m
      have hmm : H4 m = some (.lst (mm.map V.ref)) := hmm
      obtain ⟨u1, u2, u3, hu⟩ := id k4.src
      obtain ⟨g0, hg0, _⟩ := id hg
      obtain ⟨m0, hm0, _⟩ := id hm
      have hm0 : H m = some (.lst (m0.map V.ref)) := hm0
      refine ⟨x1, S, none, none, rfl, ⟨k4.same s12, hL4.same s12, ⟨_, s12 _ _ hh1, ?_, fun v hv => (dat_tups hA v hv).tp (Tp.of s12)⟩, ⟨_, s12 _ _ hv1, ?_, fun v hv => (dat_moves hM v hv).tp (Tp.of s12)⟩, hR⟩,
        ⟨hd0, gv0, k4.src.nel hh1, k4.src.nel hv1, n1, (ne_some hg0 hd0).symm, (ne_some hm0 hd0).symm, n2, (ne_some hg0 gv0).symm, (ne_some hm0 gv0).symm, n3, (ne_some (s1 _ _ hu) hS2).symm, (ne_some (s1 _ _ hh1) hS2).symm, (ne_some (s1 _ _ hv1) hS2).symm⟩⟩
      · rw [List.length_map, hA.1]
        have := hgs.few
        omega
      · rw [List.length_map, hM.1]
        omega
    rintro σ5 H5 h5
    refine ⟨MG T.c_Record a l g p m D hd gv ss gs ps mv 4 H, ?_, ?_⟩
    · walk_at "rd"
      intro J W
      refine forr W (fun i σ H' => MG T.c_Record a l g p m D hd gv ss gs ps mv (2 * i) H σ H') h5 (fun _ _ _ _ _ => trivial) ?_ ?_
      · rintro i x σ Hbo Hb hi ⟨r, S, v10, v11, rfl, kb, nb⟩ ⟨rfl, rfl⟩
        refine ⟨MG T.c_Record a l g p m D hd gv ss gs ps mv (2 * i + 1) H, ?_, ?_⟩
        · walk_at "rd"
          obtain ⟨xs, hx, hxl, hxd⟩ := kb.hd
          refine ⟨a, hd, .ref p, xs, rfl, kb.k.src, hx, nb.hda, by omega, hxd, .inl ⟨p, ps, rfl, kb.k.p⟩, fun H' xs' s' hs' hx' hxl' hxd' => ?_⟩
          obtain ⟨kq, t⟩ := kb.k.two hx nb.hd0 nb.hdg nb.hdm s' hs'
          obtain ⟨ys, hy, hyl, hyd⟩ := kb.gv
          exact ⟨r, S, _, v11, rfl, ⟨kq, due_two kb.due kb.k.src nb.hdD s' t, ⟨xs', hx', by omega, hxd'⟩, ⟨ys, s' _ _ nb.gva nb.hgv.symm hy, by omega, fun v hv => (hyd v hv).tp t⟩, rec_two kb.rc kb.k.src hx nb.Sh nb.Sa s' t⟩, nb⟩
        rintro σc Hc ⟨r, S, v10, v11, rfl, kc, nc⟩
        refine ⟨MG T.c_Record a l g p m D hd gv ss gs ps mv (2 * i + 2) H, ?_, ?_⟩
        · walk_at "rd"
          intro p1 hp1
          have t1 := Same.new hp1 (o := .tup [V.int 1])
          have h4 := z.hi
          refine .inr ⟨_, t1 _ _ kc.k.l, p1, ss.length, [V.int 1], rfl, by rw [List.length_map], upd_same, by simp, z.lo, by omega, by simp, fun c Hx sx hc p2 hp2 => ?_⟩
          have t2 := Same.new hp2 (o := .tup [V.ref c, V.str (Str.ofString "backward")])
          rw [flat1] at hc
          have kd := kc.same ((t1.trans sx).trans t2)
          obtain ⟨xs, hx, hxl, hxd⟩ := kd.gv
          refine ⟨a, gv, .ref p2, xs, rfl, kd.k.src, hx, nc.gva, by omega, hxd, .inr ⟨p2, c, _, true, rfl, upd_same, t2 _ _ hc⟩, fun H' xs' s' hs' hx' hxl' hxd' => ?_⟩
          obtain ⟨kq, t⟩ := kd.k.two hx nc.gv0 nc.gvg nc.gvm s' hs'
          obtain ⟨ys, hy, hyl, hyd⟩ := kd.hd
          exact ⟨r, S, v10, v11, rfl, ⟨kq, due_two kd.due kd.k.src nc.gvD s' t, ⟨ys, s' _ _ nc.hda nc.hgv hy, by omega, fun v hv => (hyd v hv).tp t⟩, ⟨xs', hx', by omega, hxd'⟩, rec_two kd.rc kd.k.src hx nc.Sg nc.Sa s' t⟩, nc⟩
        rintro σd Hd ⟨r, S, v10, v11, rfl, kd, nd⟩
        refine ⟨MGf T.c_Record a l g p m D hd gv ss gs ps mv (2 * i + 2) H, ?_, ?_⟩
        · walk_at "rd"
          obtain ⟨dx', t', m1', m2', hr, hrL⟩ := id kd.rc
          refine ⟨_, _, hr, rfl, r, S, _, _, rfl, kd.rc, fun He f se hf hfL => ?_⟩
          obtain ⟨xs, hx, _⟩ := kd.hd
          obtain ⟨ys, hy, _⟩ := kd.gv
          obtain ⟨gg, hgg, _⟩ := id kd.k.g
          obtain ⟨mm, hmm, _⟩ := id kd.k.m
          have hmm : Hd m = some (.lst (mm.map V.ref)) := hmm
          obtain ⟨dd, hdd, _⟩ := id kd.due
          obtain ⟨ee, hee, _⟩ := id hrL
          exact ⟨r, S, f, _, rfl, kd.same se, nd, hfL, kd.k.sx.free (kd.k.src.ne hf) hf, kd.k.src.ne hf, (ne_some hgg hf).symm, (ne_some hmm hf).symm, (ne_some hdd hf).symm, (ne_some hx hf).symm, (ne_some hy hf).symm, (ne_some hee hf).symm⟩
        rintro σe He ⟨r, S, f, v10, rfl, ke, ne, hfL, hf0, fa, fg, fm, fD, fh, fv, fS⟩
        refine ⟨MGf T.c_Record a l g p m D hd gv ss gs ps mv (2 * i + 2) H, ?_, ?_⟩
        · walk_at "rd"
          refine neD_tups hfL ke.due ⟨_, rfl, ?_⟩
          rw [decide_eq_true rfl, if_neg (by decide)]
          obtain ⟨fs, hf1, hfA⟩ := id hfL
          refine ⟨true, isI_lst hf1, ?_⟩
          rw [if_neg (by decide)]
          obtain ⟨dx', t', m1', m2', hr, hrL⟩ := id ke.rc
          refine ⟨_, _, hr, rfl, r, S, _, _, rfl, ke.rc, neD_opt ⟨_, rfl, ?_⟩⟩
          rw [if_neg (by decide)]
          exact ⟨r, S, f, v10, rfl, ke, ne, hfL, hf0, fa, fg, fm, fD, fh, fv, fS⟩
        rintro σf Hf ⟨r, S, f, v10, rfl, kf, nf, hfL, hf0, fa, fg, fm, fD, fh, fv, fS⟩
        walk_at "rd"
        obtain ⟨fs, hf1, hfA⟩ := hfL
        have hlen := seatsI_len ss ps mv
        have s' : ∀ b o, b ≠ a → b ≠ f → Hf b = some o → (upd Hf f (.lst (fs.map V.ref ++ [V.non]))) b = some o := fun b o _ nb hb => by rw [upd_ne nb]; exact hb
        obtain ⟨kq, t⟩ := kf.k.two hf1 hf0 fg fm s' (kf.k.src.put fa.symm)
        obtain ⟨xs, hx, hxl, hxd⟩ := kf.hd
        obtain ⟨ys, hy, hyl, hyd⟩ := kf.gv
        refine ⟨⟨_, hf1⟩, _, hf1, ?_, r, S, v10, _, rfl, ⟨kq, due_two kf.due kf.k.src fD s' t, ⟨xs, s' _ _ nf.hda fh.symm hx, by omega, fun v hv => (hxd v hv).tp t⟩, ⟨ys, s' _ _ nf.gva fv.symm hy, by omega, fun v hv => (hyd v hv).tp t⟩, rec_two kf.rc kf.k.src hf1 fS.symm nf.Sa s' t⟩, nf⟩
        rw [List.length_map, hfA.1, hlen]
        exact Nat.lt_of_le_of_lt (by omega : mv.length + 1 ≤ 1001) (by decide)
      · rintro σ Hb h
        exact h
    rintro σ6 H6 ⟨r, S, v10, v11, rfl, k6, n6⟩
    refine ⟨MQ7 T.c_Record a l g p m D ss gs ps mv H, ?_, ?_⟩
    · walk_at "rd"
      obtain ⟨ms, hm1, hM⟩ := id k6.k.m
      have hm1 : H6 m = some (.lst (ms.map V.ref)) := hm1
      refine .inl ⟨_, hm1, fun l1 hl1 => ?_⟩
      have t1 := Same.new hl1 (o := .tup (ms.map V.ref))
      obtain ⟨as, hg1, hA⟩ := k6.k.g.same t1
      refine .inl ⟨_, hg1, fun l2 hl2 x dx hx hdx hne => ?_⟩
      have t2 := Same.new hl2 (o := .tup (as.map V.ref))
      have t12 := t1.trans t2
      refine tab_made (k := false) hx hdx hne (t12 _ _ k6.k.l) z fun G1 s1 hT => ⟨rfl, fun x1 dx1 hx1 hdx1 hne1 => ?_⟩
      have tt := t12.trans s1
      refine rec_made (k1 := false) (k2 := false) hx1 hdx1 hne1 hT z ⟨as, s1 _ _ upd_same, hA.same (t2.trans s1)⟩ hgs (tt _ _ k6.k.p) hS ⟨ms, s1 _ _ (t2 _ _ upd_same), hM.same tt⟩ hml hk fun G2 S2 s2 hS2 hR => ⟨rfl, ?_⟩
      have ta := tt.trans s2
      exact ⟨x1, S2, _, _, _, _, _, rfl, k6.k.same ta, k6.due.same ta, hR⟩
    rintro σ7 H7 ⟨o, S2, v7, v8, v9, v10, v11, rfl, k7, hL7, hR7⟩
    walk_at "rd"
    obtain ⟨dx', t', m1', m2', hr, hrL⟩ := id hR7
    refine ⟨_, _, hr, rfl, o, S2, _, _, rfl, hR7, fun H8 p8 s8 _ hL8 => ?_⟩
    refine eqD_tups' hL8 (hL7.same s8) ⟨_, rfl, ?_⟩
    rw [if_pos rfl]
    refine ⟨_, _, s8 _ _ hr, rfl, o, S2, _, _, rfl, hR7.same s8, ?_⟩
    exact eqD_opt (q _ (k7.sx.trans (Sx.of s8)) (k7.src.same s8))
end

/-! ### k41, the law -/
section
variable {P : Program} {w : World} {K : PySem.W.Frag} {mg : Str → Option Value} {base : Heap}
def sp_law (K : PySem.W.Frag) : Sp := fun vs H Q _ => ∃ (a : Addr) (ns : List Int), vs = [.ref a] ∧ SqL K H a (ns.map V.int) ∧ ns.length ≤ 63 ∧ (∀ z ∈ ns, Builtin.Int.intBits z ≤ 1048576) ∧ ∀ H', Q (.bl true) H'
theorem cut_intsF (ns : List Int) (lo hi : Option Int) : ∃ ms : List Int, cutV (ns.map V.int) lo hi = ms.map V.int ∧ ms.length ≤ ns.length := by
  refine ⟨(ns.drop (HT.sIx ns.length 0 lo)).take (HT.sIx ns.length ns.length hi - HT.sIx ns.length 0 lo), ?_, ?_⟩
  · unfold cutV
    rw [List.length_map, List.map_take, List.map_drop]
  · rw [List.length_take, List.length_drop]
    omega
/-- in the outer loop: the cells at c, and what else -/
def MO (s c : Addr) (cs : List V) (σ : L2.St) (H : Hp) : Prop := ∃ v1 v2 v3 v4 v5 v6 v7, σ = [some (V.ref s), v1, v2, v3, v4, v5, v6, v7] ∧ H c = some (.lst cs)
def MO1 (s c : Addr) (cs : List V) (σ : L2.St) (H : Hp) : Prop := ∃ a v1 v3 v4 v5 v6 v7, σ = [some (V.ref s), v1, some (V.ref a), v3, v4, v5, v6, v7] ∧ H c = some (.lst cs) ∧ c ≠ a ∧ Src H a
def MI (s c a u r1 r2 : Addr) (cs : List V) (ss1 ss2 : List Int) (σ : L2.St) (H : Hp) : Prop := ∃ v1 v3 v4 v5 v6 v7, σ = [some (V.ref s), v1, some (V.ref a), v3, v4, v5, v6, v7] ∧ H c = some (.lst cs) ∧ Src H a ∧ H u = some (.lst [.ref r1, .ref r2]) ∧ H r1 = some (.tup (ss1.map V.int)) ∧ H r2 = some (.tup (ss2.map V.int))
def MI1 (s c a u r1 r2 l : Addr) (cs : List V) (ss1 ss2 ss : List Int) (σ : L2.St) (H : Hp) : Prop := ∃ v1 g v5 v6 v7 gs, σ = [some (V.ref s), v1, some (V.ref a), some (V.ref l), some (V.ref g), v5, v6, v7] ∧ H c = some (.lst cs) ∧ Src H a ∧ H u = some (.lst [.ref r1, .ref r2]) ∧ H r1 = some (.tup (ss1.map V.int)) ∧ H r2 = some (.tup (ss2.map V.int)) ∧ H l = some (.tup (ss.map V.int)) ∧ LstT H g gs ∧ Tgts ss gs
def MI2 (s c a u r1 r2 l : Addr) (cs : List V) (ss1 ss2 ss : List Int) (σ : L2.St) (H : Hp) : Prop := ∃ v1 g p v6 v7 gs ps, σ = [some (V.ref s), v1, some (V.ref a), some (V.ref l), some (V.ref g), some (V.ref p), v6, v7] ∧ H c = some (.lst cs) ∧ Src H a ∧ H u = some (.lst [.ref r1, .ref r2]) ∧ H r1 = some (.tup (ss1.map V.int)) ∧ H r2 = some (.tup (ss2.map V.int)) ∧ H l = some (.tup (ss.map V.int)) ∧ LstT H g gs ∧ Tgts ss gs ∧ H p = some (.tup (ps.map V.int)) ∧ Seat ss ps
theorem lcr_moves {J : It} {n : Nat} {G : Hp → Prop} {Y : Nat → Hp → V → Hp → Prop} (w : Walk J n G Y) {g : TG} {te : TE} {vs : List Nat} {σ : L2.St} {H1 : Hp} {Q : VK} (f : Nat → List Int × Bool) (hn : n ≤ 1000)
    (hG : ∀ H, Same H1 H → G H) (hY : ∀ i x H H', Y i H x H' → Same H H')
    (hs : ∀ i x H H' (Qy : VK), i < n → Same H1 H → Y i H x H' → (∀ m p H4, Same H' H4 → H4 m = some (.tup [.ref p, .str (offW (f i).2)]) → H4 p = some (.tup ((f i).1.map V.int)) → Qy (.ref m) H4) → g x (wipe σ vs) H' fun σ2 H2 => wipe σ2 vs = wipe σ vs ∧ te σ2 H2 Qy)
    (hd : ∀ D H, H1 D = none → Same H1 H → MovAt true H D ((List.range n).map f) → Q (.ref D) H) : LcR J g tYes te vs σ H1 Q := fun D hD => by
  refine lc_gen w (fun i acc H => Same H1 H ∧ (∃ ys, H D = some (.lst ys)) ∧ ∃ ms, acc = ms.map V.ref ∧ AsM H ms ((List.range i).map f)) (Nat.le_trans hn (by decide)) ⟨Same.new hD, ⟨_, upd_same⟩, [], rfl, rfl, fun i m c h _ => by simp at h⟩ (fun i acc H _ h _ => hG H h.1) (fun i acc H l h _ => ?_) (fun i acc x H H' Qy hi ha h e hy hq => ?_) (fun acc H ha h e => ?_)
  · obtain ⟨h1, ⟨ys, h2⟩, ms, h3, h4⟩ := h
    exact ⟨fun b o hb => by rw [upd_ne (ne_some hb hD)]; exact h1 _ _ hb, ⟨_, upd_same⟩, ms, h3, h4.tp (Tp.put h2 (by simp))⟩
  · obtain ⟨h1, ⟨ys, h2⟩, ms, h3, h4⟩ := h
    refine hs i x H H' Qy hi h1 hy fun m p H4 s4 h5 h6 => ?_
    have s04 := (hY _ _ _ _ hy).trans s4
    refine hq (.ref m) H4 (s04 _ _ e) ⟨h1.trans s04, ⟨_, s04 _ _ h2⟩, ms ++ [m], by rw [h3, List.map_append]; rfl, ?_⟩
    rw [List.range_succ, List.map_append]
    exact (h4.same s04).snoc h5 h6
  · obtain ⟨h1, _, ms, h3, h4⟩ := h
    exact hd D H hD h1 ⟨ms, by rw [← h3]; exact e, h4⟩
theorem ok_law (T : Tx K mg) : FnOk P w K mg base CX0 7 T.f_law T.fd_law ["_law_script"] (sp_law K) := by
  refine T.F_law.ok sc_law (fun vs H Q E h => ?_) (fun cdv A outer s H vs Q E hr h => ?_)
  · obtain ⟨a, ns, rfl, _⟩ := h; rfl
  · obtain ⟨a, ns, rfl, hS, hn, hbits, q⟩ := h
    refine ⟨_, (C8.pss_cut (ps_for PassesOwn.never rfl (pi_seqH (pe_slice sl_list (pe_op op_catS (pv 0) (pe_lst (pa_cons pe_int pa_nil))) po_none (po_some pe_int))) (pg_name (i := 1) sc_law.nd rfl (Or.inl rfl))
        (C8.pss_cut (ps_set (i := 2) sc_law.nd rfl (Or.inl rfl) (pe_call (ok_law_source T) (hr.mono (by decide)) (by rfl) T.g_law_source T.F_law_source.kp T.b_law_source .nil pass0 (pa_cons (pv 1) pa_nil)))
        (pss_one (ps_for PassesOwn.never rfl (pi_seqH (pe_lst (pa_cons (pe_call (ok_law_rings T) (hr.mono (by decide)) (by rfl) T.g_law_rings T.F_law_rings.kp T.b_law_rings .nil pass0 (pa_cons (pv 2) (pa_cons pe_int pa_nil))) (pa_cons (pe_call (ok_law_wide_rings T) (hr.mono (by decide)) (by rfl) T.g_law_wide_rings T.F_law_wide_rings.kp T.b_law_wide_rings .nil pass0 (pa_cons (pv 2) pa_nil)) pa_nil)))) (pg_name (i := 3) sc_law.nd rfl (Or.inl rfl))
          (C8.pss_cut (ps_set (i := 4) sc_law.nd rfl (Or.inl rfl) (pe_call (ok_law_seats T) (hr.mono (by decide)) (by rfl) T.g_law_seats T.F_law_seats.kp T.b_law_seats .nil pass0 (pa_cons (pv 2) (pa_cons (pv 3) (pa_cons pe_int pa_nil)))))
          (C8.pss_cut (ps_set (i := 5) sc_law.nd rfl (Or.inl rfl) (pe_call (ok_law_one T) (hr.mono (by decide)) (by rfl) T.g_law_one T.F_law_one.kp T.b_law_one .nil pass0 (pa_cons (pv 2) (pa_cons (pe_lst (pa_cons (pe_call (ok_law_seat T) (hr.mono (by decide)) (by rfl) T.g_law_seat T.F_law_seat.kp T.b_law_seat .nil pass0 (pa_cons (pv 2) (pa_cons (pv 3) pa_nil))) (pa_cons (pe_call (ok_law_seat T) (hr.mono (by decide)) (by rfl) T.g_law_seat T.F_law_seat.kp T.b_law_seat .nil pass0 (pa_cons (pv 2) (pa_cons (pv 3) pa_nil))) (pa_cons (pe_ix ix_lH (pv 4) pe_int (fun _ _ => rfl)) pa_nil)))) pa_nil))))
          (pss_one (ps_if (pt_not (pt_val (pe_call (ok_law_right T) (hr.mono (by decide)) (by rfl) T.g_law_right T.F_law_right.kp T.b_law_right .nil pass0 (pa_cons (pv 2) (pa_cons (pv 3) (pa_cons (pv 4) (pa_cons (pv 5) (pa_cons (pe_call (ok_law_moves T) (hr.mono (by decide)) (by rfl) T.g_law_moves T.F_law_moves.kp T.b_law_moves .nil pass0 (pa_cons (pv 2) (pa_cons (pv 3) (pa_cons pe_int pa_nil)))) pa_nil)))))))) (pss_one (ps_ret pe_bl)) pss_nil))))))))
      (C8.pss_cut (ps_set (i := 3) sc_law.nd rfl (Or.inl rfl) (pe_tup (pa_cons pe_int (pa_cons pe_int pa_nil))))
      (C8.pss_cut (ps_setLc (i := 6) (own := [("_law_index", 7)]) (g := (gName 7)) (tt := tYes) rfl sc_law.nd rfl rfl (sw_true rfl rfl rfl (by decide +kernel)) (pi_range1H (by rfl) T.n_range (pa_cons pe_int pa_nil)) (blkOk_by (own := [("_law_index", 7)]) (N := N_law) (sc := defScope d_law) (by decide +kernel)) (fun _ _ _ _ _ => (pg_name (i := 7) sc_law.nd rfl (Or.inl rfl))) (fun _ _ _ _ _ => pts_nil) (fun _ _ _ _ _ => (pe_tup (pa_cons (pe_tup (pa_cons (pv 7) (pa_cons (pe_op op_mulA (pv 7) (pv 7)) pa_nil))) (pa_cons (pe_ix ix_lH (pe_lst (pa_cons pe_str (pa_cons pe_str pa_nil))) (pe_op op_mod (pe_op op_mod (pv 7) pe_int) pe_int) (fun _ _ => rfl)) pa_nil)))))
      (pss_one (ps_ret (pe_call (ok_law_right T) (hr.mono (by decide)) (by rfl) T.g_law_right T.F_law_right.kp T.b_law_right .nil pass0 (pa_cons (pe_call (ok_law_source T) (hr.mono (by decide)) (by rfl) T.g_law_source T.F_law_source.kp T.b_law_source .nil pass0 (pa_cons pe_int pa_nil)) (pa_cons (pv 3) (pa_cons (pe_lst (pa_cons (pe_tup (pa_cons pe_int (pa_cons pe_int pa_nil))) pa_nil)) (pa_cons (pe_tup (pa_cons pe_int (pa_cons pe_int pa_nil))) (pa_cons (pv 6) pa_nil))))))))))), ?_⟩
    refine ⟨fun σ _ => ∃ v1 v2 v3 v4 v5 v6 v7, σ = [some (V.ref a), v1, v2, v3, v4, v5, v6, v7], ?_, ?_⟩
    · walk_at "rd"
      intro p hp
      have f1 : (upd H p (.lst [V.int 0])) p = some (.lst [V.int 0]) := upd_same
      have s1 := Same.new hp (o := .lst [V.int 0])
      generalize upd H p (HO.lst [V.int 0]) = H1 at s1 f1 ⊢
      refine ⟨_, s1.seq hS, _, .inl (.inl f1), ?_, fun p1 hp1 => ⟨_, .inl (.inl upd_same), fun p2 hp2 J W => ?_⟩⟩
      · rw [List.length_map]
        exact Nat.le_trans (by simp; omega : ns.length + [V.int 0].length ≤ 64) (by decide)
      generalize hH2 : upd H1 p1 (HO.lst (ns.map V.int ++ [V.int 0])) = H2 at hp2 ⊢
      obtain ⟨ms, ei, _⟩ := cut_intsF (ns ++ [0]) none (some 4)
      rw [List.map_append] at ei
      have ei : cutV (ns.map V.int ++ [V.int 0]) none (some 4) = ms.map V.int := ei
      rw [ei] at W ⊢
      have f3 : (upd H2 p2 (.lst (ms.map V.int))) p2 = some (.lst (ms.map V.int)) := upd_same
      generalize upd H2 p2 (HO.lst (ms.map V.int)) = H3 at f3 ⊢
      refine forr W (fun i σ H' => MO a p2 (ms.map V.int) σ H') ⟨none, none, none, none, none, none, none, rfl, f3⟩ (fun _ _ _ _ h => by obtain ⟨_, _, _, _, _, _, _, _, h⟩ := h; exact h) ?_ ?_
      · rintro i x σ H4 H4' hi ⟨v1, v2, v3, v4, v5, v6, v7, rfl, h4⟩ ⟨rfl, hx⟩
        simp only [List.getElem?_map, Option.map_eq_some_iff] at hx
        obtain ⟨n, hn, rfl⟩ := hx
        refine ⟨MO1 a p2 (ms.map V.int), ?_, ?_⟩
        · walk_at "rd"
          exact ⟨n, rfl, fun H5 c s5 hc hsrc => ⟨c, _, _, _, _, _, _, rfl, s5 _ _ h4, ne_some h4 hc, hsrc⟩⟩
        rintro σ5 H5 ⟨c, v1, v3, v4, v5, v6, v7, rfl, h5, npc, hsrc⟩
        walk_at "rd"
        refine ⟨c, 60, rfl, hsrc, fun H6 r1 ss1 s6 hs6 hr1 z1 => ⟨c, rfl, hs6, fun H7 r2 ss2 s7 hs7 hr2 z2 u hu J2 W2 => ?_⟩⟩
        have su := Same.new hu (o := .lst [V.ref r1, V.ref r2])
        have nuc := hs7.ne hu
        refine forr W2 (fun i σ H' => MI a p2 c u r1 r2 (ms.map V.int) ss1 ss2 σ H') ⟨v1, v3, v4, v5, v6, v7, rfl, su _ _ (s7 _ _ npc (s6 _ _ npc h5)), hs7.same su, upd_same, su _ _ (hs6.tp s7 _ _ hr1), su _ _ hr2⟩ (fun _ _ _ _ h => by obtain ⟨_, _, _, _, _, _, _, _, _, h, _⟩ := h; exact h) ?_ ?_
        · rintro j y σ Hao Ha hj ⟨v1, v3, v4, v5, v6, v7, rfl, ha1, hsa, hau, hr1a, hr2a⟩ ⟨rfl, hy⟩
          obtain ⟨l, ss, rfl, hl, z⟩ : ∃ l ss, y = V.ref l ∧ Ha l = some (.tup (List.map V.int ss)) ∧ Sz ss := by
            have hj2 : j < 2 := hj
            have : j = 0 ∨ j = 1 := by omega
            rcases this with rfl | rfl
            · simp only [List.getElem?_cons_zero, Option.some.injEq] at hy
              exact ⟨r1, ss1, hy.symm, hr1a, z1⟩
            · simp only [List.getElem?_cons_succ, List.getElem?_cons_zero, Option.some.injEq] at hy
              exact ⟨r2, ss2, hy.symm, hr2a, z2⟩
          refine ⟨MI1 a p2 c u r1 r2 l (ms.map V.int) ss1 ss2 ss, ?_, ?_⟩
          · walk_at "rd"
            exact ⟨c, l, ss, 6, rfl, hsa, hl, z, by decide, by decide, fun Hb g gs sb hsb hg0 hg hgs => ⟨_, g, _, _, _, gs, rfl, sb _ _ npc ha1, hsb, sb _ _ nuc hau, hsa.tp sb _ _ hr1a, hsa.tp sb _ _ hr2a, hsa.tp sb _ _ hl, hg, hgs⟩⟩
          rintro σb Hb ⟨v1, g, v5, v6, v7, gs, rfl, hb1, hsb, hbu, hr1b, hr2b, hlb, hg, hgs⟩
          refine ⟨MI2 a p2 c u r1 r2 l (ms.map V.int) ss1 ss2 ss, ?_, ?_⟩
          · walk_at "rd"
            refine ⟨c, l, ss, rfl, hsb, hlb, z, fun Hc q1 ps1 s1 hs1 hq1 hS1 => ⟨c, l, ss, rfl, hs1, hsb.tp s1 _ _ hlb, z, fun Hd q2 ps2 s2 hs2 hq2 hS2 => ?_⟩⟩
            have s12 := s1.trans s2
            obtain ⟨gas, hg1, hgA⟩ := hg.sxs hsb s12
            cases gas with
            | nil => exact absurd (List.length_eq_zero_iff.mp hgA.1.symm) hgs.ne
            | cons g0 gr =>
              cases gs with
              | nil => exact absurd rfl hgs.ne
              | cons gt gsr =>
                have hg0 := hgA.2 0 g0 gt rfl rfl
                refine ⟨_, hg1, .ref g0, atI_0, fun e he => ?_⟩
                have se := Same.new he (o := .lst [V.ref q1, V.ref q2, V.ref g0])
                refine ⟨c, e, _, rfl, hs2.same se, upd_same, hs2.ne he, by simp, by simp, fun He v s5 hs5 hv => ?_⟩
                have t1 : Tp Hc He := ((hs1.tp s2).trans (Tp.of se)).trans ((hs2.same se).tp s5)
                have t2 : Tp Hd He := (Tp.of se).trans ((hs2.same se).tp s5)
                have t0 : Tp Hb He := (hsb.tp s1).trans t1
                have sA : Sx c Hb He := (s12.trans (Sx.of se)).trans s5
                obtain ⟨p, ps, rfl, hp, hS⟩ : ∃ p ps, v = V.ref p ∧ He p = some (.tup (List.map V.int ps)) ∧ Seat ss ps := by
                  simp only [List.mem_cons, List.mem_nil_iff, or_false] at hv
                  rcases hv with rfl | rfl | rfl
                  · exact ⟨q1, ps1, rfl, t1 _ _ hq1, hS1⟩
                  · exact ⟨q2, ps2, rfl, t2 _ _ hq2, hS2⟩
                  · exact ⟨g0, gt, rfl, t2 _ _ hg0, hgs.ok _ (List.mem_cons_self ..)⟩
                exact ⟨_, g, p, _, _, gt :: gsr, ps, rfl, sA _ _ npc hb1, hs5, sA _ _ nuc hbu, t0 _ _ hr1b, t0 _ _ hr2b, t0 _ _ hlb, hg.sxs hsb sA, hgs, hp, hS⟩
          rintro σc Hc ⟨v1, g, p, v6, v7, gs, ps, rfl, hc1, hsc, hcu, hr1c, hr2c, hlc, hgc, hgs, hp, hS⟩
          walk_at "rd"
          refine ⟨c, l, ss, 20, rfl, hsc, hlc, z, by decide, by decide, fun Hd m mv sd hsd hm0 hm hml hk => ⟨c, l, g, p, m, ss, gs, ps, mv, rfl, hsd, hsc.tp sd _ _ hlc, z, hgc.sxs hsc sd, hgs, hsc.tp sd _ _ hp, hS, hm, hml, by omega, fun He se hse => ⟨true, rfl, ?_⟩⟩⟩
          rw [if_neg (by decide)]
          have t : Tp Hc He := (hsc.tp sd).trans (hsd.tp se)
          have sA := sd.trans se
          exact ⟨_, _, _, _, _, _, rfl, sA _ _ npc hc1, hse, sA _ _ nuc hcu, t _ _ hr1c, t _ _ hr2c⟩
        · rintro σ Ha ⟨v1, v3, v4, v5, v6, v7, rfl, ha1, _⟩
          exact ⟨_, _, _, _, _, _, _, rfl, ha1⟩
      · rintro σ H4 ⟨v1, v2, v3, v4, v5, v6, v7, rfl, _⟩
        exact ⟨_, _, _, _, _, _, _, rfl⟩
    rintro σ1 H1 ⟨v1, v2, v3, v4, v5, v6, v7, rfl⟩
    refine ⟨fun σ H => ∃ v1 v2 r v4 v5 v6 v7, σ = [some (V.ref a), v1, v2, some (V.ref r), v4, v5, v6, v7] ∧ H r = some (.tup (([9, 4] : List Int).map V.int)), ?_, ?_⟩
    · walk_at "rd"
      exact fun _ _ => trivial
    rintro σ2 H2 ⟨v1, v2, r, v4, v5, v6, v7, rfl, hr2⟩
    refine ⟨fun σ H => ∃ v1 v2 v4 v5 m v7 mv, σ = [some (V.ref a), v1, v2, some (V.ref r), v4, v5, some (V.ref m), v7] ∧ H r = some (.tup (([9, 4] : List Int).map V.int)) ∧ MovAt true H m mv ∧ (∀ c ∈ mv, c.1.length = 2) ∧ mv.length ≤ 1000, ?_, ?_⟩
    · walk_at "rd"
      intro J W
      refine lcr_moves W (fun i => ([(i : Int), (i : Int) * (i : Int)], decide ((i : Int) % 3 % 2 = 1))) (Nat.le_refl _) (fun _ _ => trivial) (fun i x H H' y => by rw [y.1]; exact Same.refl _) ?_ ?_
      · rintro i x Ha Hb Qy hi sa ⟨rfl, rfl⟩ hq
        walk_at "rd"
        refine ⟨.inl (by have hi2 : i < 1000 := hi; omega), fun t0 ht0 t1 ht1 => ?_⟩
        have sA := Same.new ht0 (o := .tup [V.int i, V.int ((i : Int) * i)])
        have sB := Same.new ht1 (o := .lst [V.str (Str.ofString "forward"), V.str (Str.ofString "backward")])
        have e : atI [V.str (Str.ofString "forward"), V.str (Str.ofString "backward")] ((i : Int) % 3 % 2) = some (V.str (offW (decide ((i : Int) % 3 % 2 = 1)))) := by
          have h : (i : Int) % 3 % 2 = 0 ∨ (i : Int) % 3 % 2 = 1 := by omega
          rcases h with h | h
          · rw [h]; rfl
          · rw [h]; rfl
        refine ⟨_, e, fun m hm => ?_⟩
        have sC := Same.new hm (o := .tup [V.ref t0, V.str (offW (decide ((i : Int) % 3 % 2 = 1)))])
        exact hq m t0 _ ((sA.trans sB).trans sC) upd_same ((sB.trans sC) _ _ upd_same)
      · intro D Hc hD sc hM
        exact ⟨D, rfl, sc _ _ hr2, _, hM, fun c hc => by
          obtain ⟨i, _, rfl⟩ := List.mem_map.mp hc
          rfl, by simp⟩
    rintro σ3 H3 ⟨v1, v2, v4, v5, m, v7, mv, rfl, hr3, hm, hml, hk⟩
    walk_at "rd"
    refine ⟨7, rfl, fun H4 c s4 hc hsrc p1 hp1 p2 hp2 p3 hp3 => ?_⟩
    have t1 := Same.new hp1 (o := .tup [V.int 8, V.int 3])
    have t2 := Same.new hp2 (o := .lst [V.ref p1])
    have t3 := Same.new hp3 (o := .tup [V.int 1, V.int 1])
    have t := (t1.trans t2).trans t3
    refine ⟨c, r, p2, p3, m, [9, 4], [[8, 3]], [1, 1], mv, rfl, hsrc.same t, t _ _ (s4 _ _ hr3), sz_of (by decide) (by decide) (fun n hn => ?_), ⟨[p1], t3 _ _ upd_same, rfl, fun i u g h1 h2 => ?_⟩, ⟨by simp, by simp, by decide, fun g hg => ?_⟩, upd_same, .cons (by decide) (by decide) (.cons (by decide) (by decide) .nil), (hm.same s4).same t, hml, hk, fun H' _ _ => q H'⟩
    · simp only [List.mem_cons, List.mem_nil_iff, or_false] at hn
      rcases hn with rfl | rfl <;> decide
    · cases i with
      | zero =>
        simp only [List.getElem?_cons_zero, Option.some.injEq] at h1 h2
        rw [← h1, ← h2]
        exact (t2.trans t3) _ _ upd_same
      | succ i => simp at h1
    · rw [List.mem_singleton.mp hg]
      exact .cons (by decide) (by decide) (.cons (by decide) (by decide) .nil)
end

theorem kit_self (K : PySem.W.Frag) (C : Addr) : PySem.W.kitOne K (.ref C) (.ref C) = some true := by
  unfold PySem.W.kitOne
  rw [if_pos]
  exact beq_self_eq_true _
theorem all_mk {P : Program} {w : World} {K : PySem.W.Frag} {h : Heap} {mg : Str → Option Value} {fa : Addr} (X : K.In h) (G : h.Ns mainGlobals mg) (hfa : mg "law" = some (.ref fa))
    {c_Table : Addr} {c_Record : Addr} {f_is_integer : Addr} {od_is_integer an_is_integer : Option Addr} {sl_is_integer : Array (Option Value)} {oc_is_integer kV_is_integer dc_is_integer pm_is_integer cd_is_integer ct_is_integer : Value} {f_is_seat : Addr} {od_is_seat an_is_seat : Option Addr} {sl_is_seat : Array (Option Value)} {oc_is_seat kV_is_seat dc_is_seat pm_is_seat cd_is_seat ct_is_seat : Value} {f_is_call : Addr} {od_is_call an_is_call : Option Addr} {sl_is_call : Array (Option Value)} {oc_is_call kV_is_call dc_is_call pm_is_call cd_is_call ct_is_call : Value} {f_is_direction : Addr} {od_is_direction an_is_direction : Option Addr} {sl_is_direction : Array (Option Value)} {oc_is_direction kV_is_direction dc_is_direction pm_is_direction cd_is_direction ct_is_direction : Value} {f_is_move : Addr} {od_is_move an_is_move : Option Addr} {sl_is_move : Array (Option Value)} {oc_is_move kV_is_move dc_is_move pm_is_move cd_is_move ct_is_move : Value} {f_require_seat : Addr} {od_require_seat an_require_seat : Option Addr} {sl_require_seat : Array (Option Value)} {oc_require_seat kV_require_seat dc_require_seat pm_require_seat cd_require_seat ct_require_seat : Value} {f_require_seats : Addr} {od_require_seats an_require_seats : Option Addr} {sl_require_seats : Array (Option Value)} {oc_require_seats kV_require_seats dc_require_seats pm_require_seats cd_require_seats ct_require_seats : Value} {f_require_targets : Addr} {od_require_targets an_require_targets : Option Addr} {sl_require_targets : Array (Option Value)} {oc_require_targets kV_require_targets dc_require_targets pm_require_targets cd_require_targets ct_require_targets : Value} {f_require_moves : Addr} {od_require_moves an_require_moves : Option Addr} {sl_require_moves : Array (Option Value)} {oc_require_moves kV_require_moves dc_require_moves pm_require_moves cd_require_moves ct_require_moves : Value} {f_Table_init : Addr} {od_Table_init an_Table_init : Option Addr} {sl_Table_init : Array (Option Value)} {oc_Table_init kV_Table_init dc_Table_init pm_Table_init cd_Table_init ct_Table_init : Value} {f_Table_sizes : Addr} {od_Table_sizes an_Table_sizes : Option Addr} {sl_Table_sizes : Array (Option Value)} {oc_Table_sizes kV_Table_sizes dc_Table_sizes pm_Table_sizes cd_Table_sizes ct_Table_sizes : Value} {f_sizes_of : Addr} {od_sizes_of an_sizes_of : Option Addr} {sl_sizes_of : Array (Option Value)} {oc_sizes_of kV_sizes_of dc_sizes_of pm_sizes_of cd_sizes_of ct_sizes_of : Value} {f_both_moves : Addr} {od_both_moves an_both_moves : Option Addr} {sl_both_moves : Array (Option Value)} {oc_both_moves kV_both_moves dc_both_moves pm_both_moves cd_both_moves ct_both_moves : Value} {f_stepped : Addr} {od_stepped an_stepped : Option Addr} {sl_stepped : Array (Option Value)} {oc_stepped kV_stepped dc_stepped pm_stepped cd_stepped ct_stepped : Value} {f_are_sizes : Addr} {od_are_sizes an_are_sizes : Option Addr} {sl_are_sizes : Array (Option Value)} {oc_are_sizes kV_are_sizes dc_are_sizes pm_are_sizes cd_are_sizes ct_are_sizes : Value} {f_Record_init : Addr} {od_Record_init an_Record_init : Option Addr} {sl_Record_init : Array (Option Value)} {oc_Record_init kV_Record_init dc_Record_init pm_Record_init cd_Record_init ct_Record_init : Value} {f_Record_seats : Addr} {od_Record_seats an_Record_seats : Option Addr} {sl_Record_seats : Array (Option Value)} {oc_Record_seats kV_Record_seats dc_Record_seats pm_Record_seats cd_Record_seats ct_Record_seats : Value} {f_Record_calls_to_target : Addr} {od_Record_calls_to_target an_Record_calls_to_target : Option Addr} {sl_Record_calls_to_target : Array (Option Value)} {oc_Record_calls_to_target kV_Record_calls_to_target dc_Record_calls_to_target pm_Record_calls_to_target cd_Record_calls_to_target ct_Record_calls_to_target : Value} {f_seats_of_game : Addr} {od_seats_of_game an_seats_of_game : Option Addr} {sl_seats_of_game : Array (Option Value)} {oc_seats_of_game kV_seats_of_game dc_seats_of_game pm_seats_of_game cd_seats_of_game ct_seats_of_game : Value} {f_calls_before : Addr} {od_calls_before an_calls_before : Option Addr} {sl_calls_before : Array (Option Value)} {oc_calls_before kV_calls_before dc_calls_before pm_calls_before cd_calls_before ct_calls_before : Value} {f_law_mixed : Addr} {od_law_mixed an_law_mixed : Option Addr} {sl_law_mixed : Array (Option Value)} {oc_law_mixed kV_law_mixed dc_law_mixed pm_law_mixed cd_law_mixed ct_law_mixed : Value} {f_law_source : Addr} {od_law_source an_law_source : Option Addr} {sl_law_source : Array (Option Value)} {oc_law_source kV_law_source dc_law_source pm_law_source cd_law_source ct_law_source : Value} {f_law_take : Addr} {od_law_take an_law_take : Option Addr} {sl_law_take : Array (Option Value)} {oc_law_take kV_law_take dc_law_take pm_law_take cd_law_take ct_law_take : Value} {f_law_one : Addr} {od_law_one an_law_one : Option Addr} {sl_law_one : Array (Option Value)} {oc_law_one kV_law_one dc_law_one pm_law_one cd_law_one ct_law_one : Value} {f_law_rings : Addr} {od_law_rings an_law_rings : Option Addr} {sl_law_rings : Array (Option Value)} {oc_law_rings kV_law_rings dc_law_rings pm_law_rings cd_law_rings ct_law_rings : Value} {f_law_seat : Addr} {od_law_seat an_law_seat : Option Addr} {sl_law_seat : Array (Option Value)} {oc_law_seat kV_law_seat dc_law_seat pm_law_seat cd_law_seat ct_law_seat : Value} {f_law_seats : Addr} {od_law_seats an_law_seats : Option Addr} {sl_law_seats : Array (Option Value)} {oc_law_seats kV_law_seats dc_law_seats pm_law_seats cd_law_seats ct_law_seats : Value} {f_law_call : Addr} {od_law_call an_law_call : Option Addr} {sl_law_call : Array (Option Value)} {oc_law_call kV_law_call dc_law_call pm_law_call cd_law_call ct_law_call : Value} {f_law_moves : Addr} {od_law_moves an_law_moves : Option Addr} {sl_law_moves : Array (Option Value)} {oc_law_moves kV_law_moves dc_law_moves pm_law_moves cd_law_moves ct_law_moves : Value} {f_law_step : Addr} {od_law_step an_law_step : Option Addr} {sl_law_step : Array (Option Value)} {oc_law_step kV_law_step dc_law_step pm_law_step cd_law_step ct_law_step : Value} {f_law_walk : Addr} {od_law_walk an_law_walk : Option Addr} {sl_law_walk : Array (Option Value)} {oc_law_walk kV_law_walk dc_law_walk pm_law_walk cd_law_walk ct_law_walk : Value} {f_law_wide_rings : Addr} {od_law_wide_rings an_law_wide_rings : Option Addr} {sl_law_wide_rings : Array (Option Value)} {oc_law_wide_rings kV_law_wide_rings dc_law_wide_rings pm_law_wide_rings cd_law_wide_rings ct_law_wide_rings : Value} {f_law_spoil : Addr} {od_law_spoil an_law_spoil : Option Addr} {sl_law_spoil : Array (Option Value)} {oc_law_spoil kV_law_spoil dc_law_spoil pm_law_spoil cd_law_spoil ct_law_spoil : Value} {f_law_right : Addr} {od_law_right an_law_right : Option Addr} {sl_law_right : Array (Option Value)} {oc_law_right kV_law_right dc_law_right pm_law_right cd_law_right ct_law_right : Value} {f_law : Addr} {od_law an_law : Option Addr} {sl_law : Array (Option Value)} {oc_law kV_law dc_law pm_law cd_law ct_law : Value} {v_MAX_RINGS : Value}
    (ac_Record : PySem.W.nsIn K mainGlobals "Record" = some (some (.ref c_Record)))
    (ac_Table : PySem.W.nsIn K mainGlobals "Table" = some (some (.ref c_Table)))
    (a_is_integer : PySem.W.nsIn K mainGlobals "is_integer" = some (some (.ref f_is_integer)))
    (l_is_integer : K.lookup f_is_integer = some ⟨oc_is_integer, od_is_integer, .func (PySem.W.fnOf "is_integer" "is_integer" (defArgs d_is_integer) (defBody d_is_integer) (defScope d_is_integer) .none kV_is_integer dc_is_integer pm_is_integer an_is_integer cd_is_integer ct_is_integer), sl_is_integer⟩)
    (x_is_integer : PySem.W.codeIn K cd_is_integer "is_integer" = true)
    (k_is_integer : PySem.W.keepIn K (.ref f_is_integer) = true)
    (a_is_seat : PySem.W.nsIn K mainGlobals "is_seat" = some (some (.ref f_is_seat)))
    (l_is_seat : K.lookup f_is_seat = some ⟨oc_is_seat, od_is_seat, .func (PySem.W.fnOf "is_seat" "is_seat" (defArgs d_is_seat) (defBody d_is_seat) (defScope d_is_seat) .none kV_is_seat dc_is_seat pm_is_seat an_is_seat cd_is_seat ct_is_seat), sl_is_seat⟩)
    (x_is_seat : PySem.W.codeIn K cd_is_seat "is_seat" = true)
    (k_is_seat : PySem.W.keepIn K (.ref f_is_seat) = true)
    (a_is_call : PySem.W.nsIn K mainGlobals "is_call" = some (some (.ref f_is_call)))
    (l_is_call : K.lookup f_is_call = some ⟨oc_is_call, od_is_call, .func (PySem.W.fnOf "is_call" "is_call" (defArgs d_is_call) (defBody d_is_call) (defScope d_is_call) .none kV_is_call dc_is_call pm_is_call an_is_call cd_is_call ct_is_call), sl_is_call⟩)
    (x_is_call : PySem.W.codeIn K cd_is_call "is_call" = true)
    (k_is_call : PySem.W.keepIn K (.ref f_is_call) = true)
    (a_is_direction : PySem.W.nsIn K mainGlobals "is_direction" = some (some (.ref f_is_direction)))
    (l_is_direction : K.lookup f_is_direction = some ⟨oc_is_direction, od_is_direction, .func (PySem.W.fnOf "is_direction" "is_direction" (defArgs d_is_direction) (defBody d_is_direction) (defScope d_is_direction) .none kV_is_direction dc_is_direction pm_is_direction an_is_direction cd_is_direction ct_is_direction), sl_is_direction⟩)
    (x_is_direction : PySem.W.codeIn K cd_is_direction "is_direction" = true)
    (k_is_direction : PySem.W.keepIn K (.ref f_is_direction) = true)
    (a_is_move : PySem.W.nsIn K mainGlobals "is_move" = some (some (.ref f_is_move)))
    (l_is_move : K.lookup f_is_move = some ⟨oc_is_move, od_is_move, .func (PySem.W.fnOf "is_move" "is_move" (defArgs d_is_move) (defBody d_is_move) (defScope d_is_move) .none kV_is_move dc_is_move pm_is_move an_is_move cd_is_move ct_is_move), sl_is_move⟩)
    (x_is_move : PySem.W.codeIn K cd_is_move "is_move" = true)
    (k_is_move : PySem.W.keepIn K (.ref f_is_move) = true)
    (a_require_seat : PySem.W.nsIn K mainGlobals "require_seat" = some (some (.ref f_require_seat)))
    (l_require_seat : K.lookup f_require_seat = some ⟨oc_require_seat, od_require_seat, .func (PySem.W.fnOf "require_seat" "require_seat" (defArgs d_require_seat) (defBody d_require_seat) (defScope d_require_seat) .none kV_require_seat dc_require_seat pm_require_seat an_require_seat cd_require_seat ct_require_seat), sl_require_seat⟩)
    (x_require_seat : PySem.W.codeIn K cd_require_seat "require_seat" = true)
    (k_require_seat : PySem.W.keepIn K (.ref f_require_seat) = true)
    (a_require_seats : PySem.W.nsIn K mainGlobals "require_seats" = some (some (.ref f_require_seats)))
    (l_require_seats : K.lookup f_require_seats = some ⟨oc_require_seats, od_require_seats, .func (PySem.W.fnOf "require_seats" "require_seats" (defArgs d_require_seats) (defBody d_require_seats) (defScope d_require_seats) .none kV_require_seats dc_require_seats pm_require_seats an_require_seats cd_require_seats ct_require_seats), sl_require_seats⟩)
    (x_require_seats : PySem.W.codeIn K cd_require_seats "require_seats" = true)
    (k_require_seats : PySem.W.keepIn K (.ref f_require_seats) = true)
    (a_require_targets : PySem.W.nsIn K mainGlobals "require_targets" = some (some (.ref f_require_targets)))
    (l_require_targets : K.lookup f_require_targets = some ⟨oc_require_targets, od_require_targets, .func (PySem.W.fnOf "require_targets" "require_targets" (defArgs d_require_targets) (defBody d_require_targets) (defScope d_require_targets) .none kV_require_targets dc_require_targets pm_require_targets an_require_targets cd_require_targets ct_require_targets), sl_require_targets⟩)
    (x_require_targets : PySem.W.codeIn K cd_require_targets "require_targets" = true)
    (k_require_targets : PySem.W.keepIn K (.ref f_require_targets) = true)
    (a_require_moves : PySem.W.nsIn K mainGlobals "require_moves" = some (some (.ref f_require_moves)))
    (l_require_moves : K.lookup f_require_moves = some ⟨oc_require_moves, od_require_moves, .func (PySem.W.fnOf "require_moves" "require_moves" (defArgs d_require_moves) (defBody d_require_moves) (defScope d_require_moves) .none kV_require_moves dc_require_moves pm_require_moves an_require_moves cd_require_moves ct_require_moves), sl_require_moves⟩)
    (x_require_moves : PySem.W.codeIn K cd_require_moves "require_moves" = true)
    (k_require_moves : PySem.W.keepIn K (.ref f_require_moves) = true)
    (a_Table_init : PySem.W.findIn K (.ref c_Table) "__init__" = some (some (.ref f_Table_init)))
    (i_Table_init : PySem.W.isFn K (.ref f_Table_init) = true)
    (l_Table_init : K.lookup f_Table_init = some ⟨oc_Table_init, od_Table_init, .func (PySem.W.fnOf "__init__" "Table.__init__" (defArgs d_Table_init) (defBody d_Table_init) (defScope d_Table_init) .none kV_Table_init dc_Table_init pm_Table_init an_Table_init cd_Table_init ct_Table_init), sl_Table_init⟩)
    (x_Table_init : PySem.W.codeIn K cd_Table_init "Table.__init__" = true)
    (k_Table_init : PySem.W.keepIn K (.ref f_Table_init) = true)
    (a_Table_sizes : PySem.W.findIn K (.ref c_Table) "sizes" = some (some (.ref f_Table_sizes)))
    (i_Table_sizes : PySem.W.isFn K (.ref f_Table_sizes) = true)
    (l_Table_sizes : K.lookup f_Table_sizes = some ⟨oc_Table_sizes, od_Table_sizes, .func (PySem.W.fnOf "sizes" "Table.sizes" (defArgs d_Table_sizes) (defBody d_Table_sizes) (defScope d_Table_sizes) .none kV_Table_sizes dc_Table_sizes pm_Table_sizes an_Table_sizes cd_Table_sizes ct_Table_sizes), sl_Table_sizes⟩)
    (x_Table_sizes : PySem.W.codeIn K cd_Table_sizes "Table.sizes" = true)
    (k_Table_sizes : PySem.W.keepIn K (.ref f_Table_sizes) = true)
    (a_sizes_of : PySem.W.nsIn K mainGlobals "sizes_of" = some (some (.ref f_sizes_of)))
    (l_sizes_of : K.lookup f_sizes_of = some ⟨oc_sizes_of, od_sizes_of, .func (PySem.W.fnOf "sizes_of" "sizes_of" (defArgs d_sizes_of) (defBody d_sizes_of) (defScope d_sizes_of) .none kV_sizes_of dc_sizes_of pm_sizes_of an_sizes_of cd_sizes_of ct_sizes_of), sl_sizes_of⟩)
    (x_sizes_of : PySem.W.codeIn K cd_sizes_of "sizes_of" = true)
    (k_sizes_of : PySem.W.keepIn K (.ref f_sizes_of) = true)
    (a_both_moves : PySem.W.nsIn K mainGlobals "both_moves" = some (some (.ref f_both_moves)))
    (l_both_moves : K.lookup f_both_moves = some ⟨oc_both_moves, od_both_moves, .func (PySem.W.fnOf "both_moves" "both_moves" (defArgs d_both_moves) (defBody d_both_moves) (defScope d_both_moves) .none kV_both_moves dc_both_moves pm_both_moves an_both_moves cd_both_moves ct_both_moves), sl_both_moves⟩)
    (x_both_moves : PySem.W.codeIn K cd_both_moves "both_moves" = true)
    (k_both_moves : PySem.W.keepIn K (.ref f_both_moves) = true)
    (a_stepped : PySem.W.nsIn K mainGlobals "stepped" = some (some (.ref f_stepped)))
    (l_stepped : K.lookup f_stepped = some ⟨oc_stepped, od_stepped, .func (PySem.W.fnOf "stepped" "stepped" (defArgs d_stepped) (defBody d_stepped) (defScope d_stepped) .none kV_stepped dc_stepped pm_stepped an_stepped cd_stepped ct_stepped), sl_stepped⟩)
    (x_stepped : PySem.W.codeIn K cd_stepped "stepped" = true)
    (k_stepped : PySem.W.keepIn K (.ref f_stepped) = true)
    (a_are_sizes : PySem.W.nsIn K mainGlobals "_are_sizes" = some (some (.ref f_are_sizes)))
    (l_are_sizes : K.lookup f_are_sizes = some ⟨oc_are_sizes, od_are_sizes, .func (PySem.W.fnOf "_are_sizes" "_are_sizes" (defArgs d_are_sizes) (defBody d_are_sizes) (defScope d_are_sizes) .none kV_are_sizes dc_are_sizes pm_are_sizes an_are_sizes cd_are_sizes ct_are_sizes), sl_are_sizes⟩)
    (x_are_sizes : PySem.W.codeIn K cd_are_sizes "_are_sizes" = true)
    (k_are_sizes : PySem.W.keepIn K (.ref f_are_sizes) = true)
    (a_Record_init : PySem.W.findIn K (.ref c_Record) "__init__" = some (some (.ref f_Record_init)))
    (i_Record_init : PySem.W.isFn K (.ref f_Record_init) = true)
    (l_Record_init : K.lookup f_Record_init = some ⟨oc_Record_init, od_Record_init, .func (PySem.W.fnOf "__init__" "Record.__init__" (defArgs d_Record_init) (defBody d_Record_init) (defScope d_Record_init) .none kV_Record_init dc_Record_init pm_Record_init an_Record_init cd_Record_init ct_Record_init), sl_Record_init⟩)
    (x_Record_init : PySem.W.codeIn K cd_Record_init "Record.__init__" = true)
    (k_Record_init : PySem.W.keepIn K (.ref f_Record_init) = true)
    (a_Record_seats : PySem.W.findIn K (.ref c_Record) "seats" = some (some (.ref f_Record_seats)))
    (i_Record_seats : PySem.W.isFn K (.ref f_Record_seats) = true)
    (l_Record_seats : K.lookup f_Record_seats = some ⟨oc_Record_seats, od_Record_seats, .func (PySem.W.fnOf "seats" "Record.seats" (defArgs d_Record_seats) (defBody d_Record_seats) (defScope d_Record_seats) .none kV_Record_seats dc_Record_seats pm_Record_seats an_Record_seats cd_Record_seats ct_Record_seats), sl_Record_seats⟩)
    (x_Record_seats : PySem.W.codeIn K cd_Record_seats "Record.seats" = true)
    (k_Record_seats : PySem.W.keepIn K (.ref f_Record_seats) = true)
    (a_Record_calls_to_target : PySem.W.findIn K (.ref c_Record) "calls_to_target" = some (some (.ref f_Record_calls_to_target)))
    (i_Record_calls_to_target : PySem.W.isFn K (.ref f_Record_calls_to_target) = true)
    (l_Record_calls_to_target : K.lookup f_Record_calls_to_target = some ⟨oc_Record_calls_to_target, od_Record_calls_to_target, .func (PySem.W.fnOf "calls_to_target" "Record.calls_to_target" (defArgs d_Record_calls_to_target) (defBody d_Record_calls_to_target) (defScope d_Record_calls_to_target) .none kV_Record_calls_to_target dc_Record_calls_to_target pm_Record_calls_to_target an_Record_calls_to_target cd_Record_calls_to_target ct_Record_calls_to_target), sl_Record_calls_to_target⟩)
    (x_Record_calls_to_target : PySem.W.codeIn K cd_Record_calls_to_target "Record.calls_to_target" = true)
    (k_Record_calls_to_target : PySem.W.keepIn K (.ref f_Record_calls_to_target) = true)
    (a_seats_of_game : PySem.W.nsIn K mainGlobals "_seats_of_game" = some (some (.ref f_seats_of_game)))
    (l_seats_of_game : K.lookup f_seats_of_game = some ⟨oc_seats_of_game, od_seats_of_game, .func (PySem.W.fnOf "_seats_of_game" "_seats_of_game" (defArgs d_seats_of_game) (defBody d_seats_of_game) (defScope d_seats_of_game) .none kV_seats_of_game dc_seats_of_game pm_seats_of_game an_seats_of_game cd_seats_of_game ct_seats_of_game), sl_seats_of_game⟩)
    (x_seats_of_game : PySem.W.codeIn K cd_seats_of_game "_seats_of_game" = true)
    (k_seats_of_game : PySem.W.keepIn K (.ref f_seats_of_game) = true)
    (a_calls_before : PySem.W.nsIn K mainGlobals "_calls_before" = some (some (.ref f_calls_before)))
    (l_calls_before : K.lookup f_calls_before = some ⟨oc_calls_before, od_calls_before, .func (PySem.W.fnOf "_calls_before" "_calls_before" (defArgs d_calls_before) (defBody d_calls_before) (defScope d_calls_before) .none kV_calls_before dc_calls_before pm_calls_before an_calls_before cd_calls_before ct_calls_before), sl_calls_before⟩)
    (x_calls_before : PySem.W.codeIn K cd_calls_before "_calls_before" = true)
    (k_calls_before : PySem.W.keepIn K (.ref f_calls_before) = true)
    (a_law_mixed : PySem.W.nsIn K mainGlobals "_law_mixed" = some (some (.ref f_law_mixed)))
    (l_law_mixed : K.lookup f_law_mixed = some ⟨oc_law_mixed, od_law_mixed, .func (PySem.W.fnOf "_law_mixed" "_law_mixed" (defArgs d_law_mixed) (defBody d_law_mixed) (defScope d_law_mixed) .none kV_law_mixed dc_law_mixed pm_law_mixed an_law_mixed cd_law_mixed ct_law_mixed), sl_law_mixed⟩)
    (x_law_mixed : PySem.W.codeIn K cd_law_mixed "_law_mixed" = true)
    (k_law_mixed : PySem.W.keepIn K (.ref f_law_mixed) = true)
    (a_law_source : PySem.W.nsIn K mainGlobals "_law_source" = some (some (.ref f_law_source)))
    (l_law_source : K.lookup f_law_source = some ⟨oc_law_source, od_law_source, .func (PySem.W.fnOf "_law_source" "_law_source" (defArgs d_law_source) (defBody d_law_source) (defScope d_law_source) .none kV_law_source dc_law_source pm_law_source an_law_source cd_law_source ct_law_source), sl_law_source⟩)
    (x_law_source : PySem.W.codeIn K cd_law_source "_law_source" = true)
    (k_law_source : PySem.W.keepIn K (.ref f_law_source) = true)
    (a_law_take : PySem.W.nsIn K mainGlobals "_law_take" = some (some (.ref f_law_take)))
    (l_law_take : K.lookup f_law_take = some ⟨oc_law_take, od_law_take, .func (PySem.W.fnOf "_law_take" "_law_take" (defArgs d_law_take) (defBody d_law_take) (defScope d_law_take) .none kV_law_take dc_law_take pm_law_take an_law_take cd_law_take ct_law_take), sl_law_take⟩)
    (x_law_take : PySem.W.codeIn K cd_law_take "_law_take" = true)
    (k_law_take : PySem.W.keepIn K (.ref f_law_take) = true)
    (a_law_one : PySem.W.nsIn K mainGlobals "_law_one" = some (some (.ref f_law_one)))
    (l_law_one : K.lookup f_law_one = some ⟨oc_law_one, od_law_one, .func (PySem.W.fnOf "_law_one" "_law_one" (defArgs d_law_one) (defBody d_law_one) (defScope d_law_one) .none kV_law_one dc_law_one pm_law_one an_law_one cd_law_one ct_law_one), sl_law_one⟩)
    (x_law_one : PySem.W.codeIn K cd_law_one "_law_one" = true)
    (k_law_one : PySem.W.keepIn K (.ref f_law_one) = true)
    (a_law_rings : PySem.W.nsIn K mainGlobals "_law_rings" = some (some (.ref f_law_rings)))
    (l_law_rings : K.lookup f_law_rings = some ⟨oc_law_rings, od_law_rings, .func (PySem.W.fnOf "_law_rings" "_law_rings" (defArgs d_law_rings) (defBody d_law_rings) (defScope d_law_rings) .none kV_law_rings dc_law_rings pm_law_rings an_law_rings cd_law_rings ct_law_rings), sl_law_rings⟩)
    (x_law_rings : PySem.W.codeIn K cd_law_rings "_law_rings" = true)
    (k_law_rings : PySem.W.keepIn K (.ref f_law_rings) = true)
    (a_law_seat : PySem.W.nsIn K mainGlobals "_law_seat" = some (some (.ref f_law_seat)))
    (l_law_seat : K.lookup f_law_seat = some ⟨oc_law_seat, od_law_seat, .func (PySem.W.fnOf "_law_seat" "_law_seat" (defArgs d_law_seat) (defBody d_law_seat) (defScope d_law_seat) .none kV_law_seat dc_law_seat pm_law_seat an_law_seat cd_law_seat ct_law_seat), sl_law_seat⟩)
    (x_law_seat : PySem.W.codeIn K cd_law_seat "_law_seat" = true)
    (k_law_seat : PySem.W.keepIn K (.ref f_law_seat) = true)
    (a_law_seats : PySem.W.nsIn K mainGlobals "_law_seats" = some (some (.ref f_law_seats)))
    (l_law_seats : K.lookup f_law_seats = some ⟨oc_law_seats, od_law_seats, .func (PySem.W.fnOf "_law_seats" "_law_seats" (defArgs d_law_seats) (defBody d_law_seats) (defScope d_law_seats) .none kV_law_seats dc_law_seats pm_law_seats an_law_seats cd_law_seats ct_law_seats), sl_law_seats⟩)
    (x_law_seats : PySem.W.codeIn K cd_law_seats "_law_seats" = true)
    (k_law_seats : PySem.W.keepIn K (.ref f_law_seats) = true)
    (a_law_call : PySem.W.nsIn K mainGlobals "_law_call" = some (some (.ref f_law_call)))
    (l_law_call : K.lookup f_law_call = some ⟨oc_law_call, od_law_call, .func (PySem.W.fnOf "_law_call" "_law_call" (defArgs d_law_call) (defBody d_law_call) (defScope d_law_call) .none kV_law_call dc_law_call pm_law_call an_law_call cd_law_call ct_law_call), sl_law_call⟩)
    (x_law_call : PySem.W.codeIn K cd_law_call "_law_call" = true)
    (k_law_call : PySem.W.keepIn K (.ref f_law_call) = true)
    (a_law_moves : PySem.W.nsIn K mainGlobals "_law_moves" = some (some (.ref f_law_moves)))
    (l_law_moves : K.lookup f_law_moves = some ⟨oc_law_moves, od_law_moves, .func (PySem.W.fnOf "_law_moves" "_law_moves" (defArgs d_law_moves) (defBody d_law_moves) (defScope d_law_moves) .none kV_law_moves dc_law_moves pm_law_moves an_law_moves cd_law_moves ct_law_moves), sl_law_moves⟩)
    (x_law_moves : PySem.W.codeIn K cd_law_moves "_law_moves" = true)
    (k_law_moves : PySem.W.keepIn K (.ref f_law_moves) = true)
    (a_law_step : PySem.W.nsIn K mainGlobals "_law_step" = some (some (.ref f_law_step)))
    (l_law_step : K.lookup f_law_step = some ⟨oc_law_step, od_law_step, .func (PySem.W.fnOf "_law_step" "_law_step" (defArgs d_law_step) (defBody d_law_step) (defScope d_law_step) .none kV_law_step dc_law_step pm_law_step an_law_step cd_law_step ct_law_step), sl_law_step⟩)
    (x_law_step : PySem.W.codeIn K cd_law_step "_law_step" = true)
    (k_law_step : PySem.W.keepIn K (.ref f_law_step) = true)
    (a_law_walk : PySem.W.nsIn K mainGlobals "_law_walk" = some (some (.ref f_law_walk)))
    (l_law_walk : K.lookup f_law_walk = some ⟨oc_law_walk, od_law_walk, .func (PySem.W.fnOf "_law_walk" "_law_walk" (defArgs d_law_walk) (defBody d_law_walk) (defScope d_law_walk) .none kV_law_walk dc_law_walk pm_law_walk an_law_walk cd_law_walk ct_law_walk), sl_law_walk⟩)
    (x_law_walk : PySem.W.codeIn K cd_law_walk "_law_walk" = true)
    (k_law_walk : PySem.W.keepIn K (.ref f_law_walk) = true)
    (a_law_wide_rings : PySem.W.nsIn K mainGlobals "_law_wide_rings" = some (some (.ref f_law_wide_rings)))
    (l_law_wide_rings : K.lookup f_law_wide_rings = some ⟨oc_law_wide_rings, od_law_wide_rings, .func (PySem.W.fnOf "_law_wide_rings" "_law_wide_rings" (defArgs d_law_wide_rings) (defBody d_law_wide_rings) (defScope d_law_wide_rings) .none kV_law_wide_rings dc_law_wide_rings pm_law_wide_rings an_law_wide_rings cd_law_wide_rings ct_law_wide_rings), sl_law_wide_rings⟩)
    (x_law_wide_rings : PySem.W.codeIn K cd_law_wide_rings "_law_wide_rings" = true)
    (k_law_wide_rings : PySem.W.keepIn K (.ref f_law_wide_rings) = true)
    (a_law_spoil : PySem.W.nsIn K mainGlobals "_law_spoil" = some (some (.ref f_law_spoil)))
    (l_law_spoil : K.lookup f_law_spoil = some ⟨oc_law_spoil, od_law_spoil, .func (PySem.W.fnOf "_law_spoil" "_law_spoil" (defArgs d_law_spoil) (defBody d_law_spoil) (defScope d_law_spoil) .none kV_law_spoil dc_law_spoil pm_law_spoil an_law_spoil cd_law_spoil ct_law_spoil), sl_law_spoil⟩)
    (x_law_spoil : PySem.W.codeIn K cd_law_spoil "_law_spoil" = true)
    (k_law_spoil : PySem.W.keepIn K (.ref f_law_spoil) = true)
    (a_law_right : PySem.W.nsIn K mainGlobals "_law_right" = some (some (.ref f_law_right)))
    (l_law_right : K.lookup f_law_right = some ⟨oc_law_right, od_law_right, .func (PySem.W.fnOf "_law_right" "_law_right" (defArgs d_law_right) (defBody d_law_right) (defScope d_law_right) .none kV_law_right dc_law_right pm_law_right an_law_right cd_law_right ct_law_right), sl_law_right⟩)
    (x_law_right : PySem.W.codeIn K cd_law_right "_law_right" = true)
    (k_law_right : PySem.W.keepIn K (.ref f_law_right) = true)
    (a_law : PySem.W.nsIn K mainGlobals "law" = some (some (.ref f_law)))
    (l_law : K.lookup f_law = some ⟨oc_law, od_law, .func (PySem.W.fnOf "law" "law" (defArgs d_law) (defBody d_law) (defScope d_law) .none kV_law dc_law pm_law an_law cd_law ct_law), sl_law⟩)
    (x_law : PySem.W.codeIn K cd_law "law" = true)
    (k_law : PySem.W.keepIn K (.ref f_law) = true)
    (pg_Table : PySem.W.plainGet K c_Table Str.empty = true)
    (hd_Table : PySem.W.hasDictIn K c_Table = true)
    (po_Table : PySem.W.plainOver K c_Table = true)
    (sa_Table : PySem.W.findIn K (.ref c_Table) "__setattr__" = some (some (.builtin "object.__setattr__")))
    (mk_Table : PySem.W.makesIn K c_Table = true)
    (kc_Table : PySem.W.keepIn K (.ref c_Table) = true)
    (no_Table_sizes : PySem.W.findIn K (.ref c_Table) "_sizes" = some none)
    (ih_Table : PySem.W.findIn K (.ref c_Table) "__class__" = some (some (.builtin "object.__class__")))
    (in_Table : PySem.W.specialIn K (.builtin "object.__class__") "__get__" = some (some (.builtin "getset_descriptor.__get__")))
    (it_Table : PySem.W.takesIn K (.builtin "object.__class__") = some true)
    (im_Table : PySem.W.mroIn K c_Table (.type "object") = some true)
    (pg_Record : PySem.W.plainGet K c_Record Str.empty = true)
    (hd_Record : PySem.W.hasDictIn K c_Record = true)
    (po_Record : PySem.W.plainOver K c_Record = true)
    (sa_Record : PySem.W.findIn K (.ref c_Record) "__setattr__" = some (some (.builtin "object.__setattr__")))
    (mk_Record : PySem.W.makesIn K c_Record = true)
    (kc_Record : PySem.W.keepIn K (.ref c_Record) = true)
    (no_Record_table : PySem.W.findIn K (.ref c_Record) "_table" = some none)
    (no_Record_targets : PySem.W.findIn K (.ref c_Record) "_targets" = some none)
    (no_Record_moves : PySem.W.findIn K (.ref c_Record) "_moves" = some none)
    (no_Record_seats : PySem.W.findIn K (.ref c_Record) "_seats" = some none)
    (no_Record_calls : PySem.W.findIn K (.ref c_Record) "_calls" = some none)
    (y_MAX_RINGS : PySem.W.nsIn K mainGlobals "MAX_RINGS" = some (some v_MAX_RINGS))
    (r_MAX_RINGS : RelV (.int 4) v_MAX_RINGS)
    (z_all : PySem.W.nsIn K mainGlobals "all" = some none)
    (z_bool : PySem.W.nsIn K mainGlobals "bool" = some none)
    (z_enumerate : PySem.W.nsIn K mainGlobals "enumerate" = some none)
    (z_int : PySem.W.nsIn K mainGlobals "int" = some none)
    (z_isinstance : PySem.W.nsIn K mainGlobals "isinstance" = some none)
    (z_len : PySem.W.nsIn K mainGlobals "len" = some none)
    (z_list : PySem.W.nsIn K mainGlobals "list" = some none)
    (z_range : PySem.W.nsIn K mainGlobals "range" = some none)
    (z_set : PySem.W.nsIn K mainGlobals "set" = some none)
    (z_str : PySem.W.nsIn K mainGlobals "str" = some none)
    (z_tuple : PySem.W.nsIn K mainGlobals "tuple" = some none)
    (z_zip : PySem.W.nsIn K mainGlobals "zip" = some none)
    (ho_CX0 : Unit := ()) : ∃ fd : FuncData, (∀ (s : Shared) (v : Value), BindsTo s fd ⟨[v], []⟩ [("_law_script", v)]) ∧ ∀ base : Heap, K.In base → base.Ns mainGlobals mg → FnOk P w K mg base CX0 7 fa fd ["_law_script"] (sp_law K) := by
  have e := hfa.symm.trans (PySem.W.mg_of X G a_law)
  cases e
  have F_is_integer := fun_mk (st := d_is_integer) l_is_integer x_is_integer k_is_integer
  have b_is_integer := F_is_integer.binds (ps := ["number"]) fun _ _ _ _ _ _ us hl => match us, hl with | [_], _ => rfl
  have F_is_seat := fun_mk (st := d_is_seat) l_is_seat x_is_seat k_is_seat
  have b_is_seat := F_is_seat.binds (ps := ["sizes", "seat"]) fun _ _ _ _ _ _ us hl => match us, hl with | [_, _], _ => rfl
  have F_is_call := fun_mk (st := d_is_call) l_is_call x_is_call k_is_call
  have b_is_call := F_is_call.binds (ps := ["sizes", "call"]) fun _ _ _ _ _ _ us hl => match us, hl with | [_, _], _ => rfl
  have F_is_direction := fun_mk (st := d_is_direction) l_is_direction x_is_direction k_is_direction
  have b_is_direction := F_is_direction.binds (ps := ["direction"]) fun _ _ _ _ _ _ us hl => match us, hl with | [_], _ => rfl
  have F_is_move := fun_mk (st := d_is_move) l_is_move x_is_move k_is_move
  have b_is_move := F_is_move.binds (ps := ["sizes", "move"]) fun _ _ _ _ _ _ us hl => match us, hl with | [_, _], _ => rfl
  have F_require_seat := fun_mk (st := d_require_seat) l_require_seat x_require_seat k_require_seat
  have b_require_seat := F_require_seat.binds (ps := ["sizes", "seat"]) fun _ _ _ _ _ _ us hl => match us, hl with | [_, _], _ => rfl
  have F_require_seats := fun_mk (st := d_require_seats) l_require_seats x_require_seats k_require_seats
  have b_require_seats := F_require_seats.binds (ps := ["sizes", "seats"]) fun _ _ _ _ _ _ us hl => match us, hl with | [_, _], _ => rfl
  have F_require_targets := fun_mk (st := d_require_targets) l_require_targets x_require_targets k_require_targets
  have b_require_targets := F_require_targets.binds (ps := ["sizes", "targets"]) fun _ _ _ _ _ _ us hl => match us, hl with | [_, _], _ => rfl
  have F_require_moves := fun_mk (st := d_require_moves) l_require_moves x_require_moves k_require_moves
  have b_require_moves := F_require_moves.binds (ps := ["sizes", "moves"]) fun _ _ _ _ _ _ us hl => match us, hl with | [_, _], _ => rfl
  have F_Table_init := fun_mk (st := d_Table_init) l_Table_init x_Table_init k_Table_init
  have b_Table_init := F_Table_init.binds (ps := ["self", "rings"]) fun _ _ _ _ _ _ us hl => match us, hl with | [_, _], _ => rfl
  have F_Table_sizes := fun_mk (st := d_Table_sizes) l_Table_sizes x_Table_sizes k_Table_sizes
  have b_Table_sizes := F_Table_sizes.binds (ps := ["self"]) fun _ _ _ _ _ _ us hl => match us, hl with | [_], _ => rfl
  have F_sizes_of := fun_mk (st := d_sizes_of) l_sizes_of x_sizes_of k_sizes_of
  have b_sizes_of := F_sizes_of.binds (ps := ["table"]) fun _ _ _ _ _ _ us hl => match us, hl with | [_], _ => rfl
  have F_both_moves := fun_mk (st := d_both_moves) l_both_moves x_both_moves k_both_moves
  have b_both_moves := F_both_moves.binds (ps := ["sizes", "seat", "call"]) fun _ _ _ _ _ _ us hl => match us, hl with | [_, _, _], _ => rfl
  have F_stepped := fun_mk (st := d_stepped) l_stepped x_stepped k_stepped
  have b_stepped := F_stepped.binds (ps := ["sizes", "seat", "call", "direction"]) fun _ _ _ _ _ _ us hl => match us, hl with | [_, _, _, _], _ => rfl
  have F_are_sizes := fun_mk (st := d_are_sizes) l_are_sizes x_are_sizes k_are_sizes
  have b_are_sizes := F_are_sizes.binds (ps := ["rings"]) fun _ _ _ _ _ _ us hl => match us, hl with | [_], _ => rfl
  have F_Record_init := fun_mk (st := d_Record_init) l_Record_init x_Record_init k_Record_init
  have b_Record_init := F_Record_init.binds (ps := ["self", "table", "targets", "seat", "moves"]) fun _ _ _ _ _ _ us hl => match us, hl with | [_, _, _, _, _], _ => rfl
  have F_Record_seats := fun_mk (st := d_Record_seats) l_Record_seats x_Record_seats k_Record_seats
  have b_Record_seats := F_Record_seats.binds (ps := ["self"]) fun _ _ _ _ _ _ us hl => match us, hl with | [_], _ => rfl
  have F_Record_calls_to_target := fun_mk (st := d_Record_calls_to_target) l_Record_calls_to_target x_Record_calls_to_target k_Record_calls_to_target
  have b_Record_calls_to_target := F_Record_calls_to_target.binds (ps := ["self"]) fun _ _ _ _ _ _ us hl => match us, hl with | [_], _ => rfl
  have F_seats_of_game := fun_mk (st := d_seats_of_game) l_seats_of_game x_seats_of_game k_seats_of_game
  have b_seats_of_game := F_seats_of_game.binds (ps := ["sizes", "seat", "moves"]) fun _ _ _ _ _ _ us hl => match us, hl with | [_, _, _], _ => rfl
  have F_calls_before := fun_mk (st := d_calls_before) l_calls_before x_calls_before k_calls_before
  have b_calls_before := F_calls_before.binds (ps := ["seats", "targets"]) fun _ _ _ _ _ _ us hl => match us, hl with | [_, _], _ => rfl
  have F_law_mixed := fun_mk (st := d_law_mixed) l_law_mixed x_law_mixed k_law_mixed
  have b_law_mixed := F_law_mixed.binds (ps := ["_law_cell", "_law_k"]) fun _ _ _ _ _ _ us hl => match us, hl with | [_, _], _ => rfl
  have F_law_source := fun_mk (st := d_law_source) l_law_source x_law_source k_law_source
  have b_law_source := F_law_source.binds (ps := ["_law_cell"]) fun _ _ _ _ _ _ us hl => match us, hl with | [_], _ => rfl
  have F_law_take := fun_mk (st := d_law_take) l_law_take x_law_take k_law_take
  have b_law_take := F_law_take.binds (ps := ["_law_source_here", "_law_many"]) fun _ _ _ _ _ _ us hl => match us, hl with | [_, _], _ => rfl
  have F_law_one := fun_mk (st := d_law_one) l_law_one x_law_one k_law_one
  have b_law_one := F_law_one.binds (ps := ["_law_source_here", "_law_some"]) fun _ _ _ _ _ _ us hl => match us, hl with | [_, _], _ => rfl
  have F_law_rings := fun_mk (st := d_law_rings) l_law_rings x_law_rings k_law_rings
  have b_law_rings := F_law_rings.binds (ps := ["_law_source_here", "_law_limit"]) fun _ _ _ _ _ _ us hl => match us, hl with | [_, _], _ => rfl
  have F_law_seat := fun_mk (st := d_law_seat) l_law_seat x_law_seat k_law_seat
  have b_law_seat := F_law_seat.binds (ps := ["_law_source_here", "_law_rings_here"]) fun _ _ _ _ _ _ us hl => match us, hl with | [_, _], _ => rfl
  have F_law_seats := fun_mk (st := d_law_seats) l_law_seats x_law_seats k_law_seats
  have b_law_seats := F_law_seats.binds (ps := ["_law_source_here", "_law_rings_here", "_law_most"]) fun _ _ _ _ _ _ us hl => match us, hl with | [_, _, _], _ => rfl
  have F_law_call := fun_mk (st := d_law_call) l_law_call x_law_call k_law_call
  have b_law_call := F_law_call.binds (ps := ["_law_source_here", "_law_rings_here"]) fun _ _ _ _ _ _ us hl => match us, hl with | [_, _], _ => rfl
  have F_law_moves := fun_mk (st := d_law_moves) l_law_moves x_law_moves k_law_moves
  have b_law_moves := F_law_moves.binds (ps := ["_law_source_here", "_law_rings_here", "_law_most"]) fun _ _ _ _ _ _ us hl => match us, hl with | [_, _, _], _ => rfl
  have F_law_step := fun_mk (st := d_law_step) l_law_step x_law_step k_law_step
  have b_law_step := F_law_step.binds (ps := ["_law_rings_here", "_law_spot", "_law_delta", "_law_sign"]) fun _ _ _ _ _ _ us hl => match us, hl with | [_, _, _, _], _ => rfl
  have F_law_walk := fun_mk (st := d_law_walk) l_law_walk x_law_walk k_law_walk
  have b_law_walk := F_law_walk.binds (ps := ["_law_rings_here", "_law_start", "_law_played"]) fun _ _ _ _ _ _ us hl => match us, hl with | [_, _, _], _ => rfl
  have F_law_wide_rings := fun_mk (st := d_law_wide_rings) l_law_wide_rings x_law_wide_rings k_law_wide_rings
  have b_law_wide_rings := F_law_wide_rings.binds (ps := ["_law_source_here"]) fun _ _ _ _ _ _ us hl => match us, hl with | [_], _ => rfl
  have F_law_spoil := fun_mk (st := d_law_spoil) l_law_spoil x_law_spoil k_law_spoil
  have b_law_spoil := F_law_spoil.binds (ps := ["_law_source_here", "_law_items", "_law_more"]) fun _ _ _ _ _ _ us hl => match us, hl with | [_, _, _], _ => rfl
  have F_law_right := fun_mk (st := d_law_right) l_law_right x_law_right k_law_right
  have b_law_right := F_law_right.binds (ps := ["_law_source_here", "_law_rings_here", "_law_goals", "_law_start", "_law_played"]) fun _ _ _ _ _ _ us hl => match us, hl with | [_, _, _, _, _], _ => rfl
  have F_law := fun_mk (st := d_law) l_law x_law k_law
  have b_law := F_law.binds (ps := ["_law_script"]) fun _ _ _ _ _ _ us hl => match us, hl with | [_], _ => rfl
  have kb_Record_moves_seat_targets_table := kbn_of F_Record_init ["self", "table", "targets", "seat", "moves"] 1 ["moves", "seat", "targets", "table"] (fun us ws => [us.getD 0 Value.none, ws.getD 3 Value.none, ws.getD 2 Value.none, ws.getD 1 Value.none, ws.getD 0 Value.none]) (fun us ws => [us.getD 0 V.non, ws.getD 3 V.non, ws.getD 2 V.non, ws.getD 1 V.non, ws.getD 0 V.non])
    (fun _ _ _ _ _ _ us ws h1 h2 => match us, ws, h1, h2 with | [u0], [w0, w1, w2, w3], _, _ => rfl)
    (fun r1 r2 => (.cons (Vals.getD r1 0) (.cons (Vals.getD r2 3) (.cons (Vals.getD r2 2) (.cons (Vals.getD r2 1) (.cons (Vals.getD r2 0) .nil))))))
  let T : Tx K mg := { f_is_integer := f_is_integer, fd_is_integer := _, F_is_integer := F_is_integer, b_is_integer := b_is_integer, g_is_integer := PySem.W.mg_of X G a_is_integer, f_is_seat := f_is_seat, fd_is_seat := _, F_is_seat := F_is_seat, b_is_seat := b_is_seat, g_is_seat := PySem.W.mg_of X G a_is_seat, f_is_call := f_is_call, fd_is_call := _, F_is_call := F_is_call, b_is_call := b_is_call, g_is_call := PySem.W.mg_of X G a_is_call, f_is_direction := f_is_direction, fd_is_direction := _, F_is_direction := F_is_direction, b_is_direction := b_is_direction, g_is_direction := PySem.W.mg_of X G a_is_direction, f_is_move := f_is_move, fd_is_move := _, F_is_move := F_is_move, b_is_move := b_is_move, g_is_move := PySem.W.mg_of X G a_is_move, f_require_seat := f_require_seat, fd_require_seat := _, F_require_seat := F_require_seat, b_require_seat := b_require_seat, g_require_seat := PySem.W.mg_of X G a_require_seat, f_require_seats := f_require_seats, fd_require_seats := _, F_require_seats := F_require_seats, b_require_seats := b_require_seats, g_require_seats := PySem.W.mg_of X G a_require_seats, f_require_targets := f_require_targets, fd_require_targets := _, F_require_targets := F_require_targets, b_require_targets := b_require_targets, g_require_targets := PySem.W.mg_of X G a_require_targets, f_require_moves := f_require_moves, fd_require_moves := _, F_require_moves := F_require_moves, b_require_moves := b_require_moves, g_require_moves := PySem.W.mg_of X G a_require_moves, f_Table_init := f_Table_init, fd_Table_init := _, F_Table_init := F_Table_init, b_Table_init := b_Table_init, f_Table_sizes := f_Table_sizes, fd_Table_sizes := _, F_Table_sizes := F_Table_sizes, b_Table_sizes := b_Table_sizes, f_sizes_of := f_sizes_of, fd_sizes_of := _, F_sizes_of := F_sizes_of, b_sizes_of := b_sizes_of, g_sizes_of := PySem.W.mg_of X G a_sizes_of, f_both_moves := f_both_moves, fd_both_moves := _, F_both_moves := F_both_moves, b_both_moves := b_both_moves, g_both_moves := PySem.W.mg_of X G a_both_moves, f_stepped := f_stepped, fd_stepped := _, F_stepped := F_stepped, b_stepped := b_stepped, g_stepped := PySem.W.mg_of X G a_stepped, f_are_sizes := f_are_sizes, fd_are_sizes := _, F_are_sizes := F_are_sizes, b_are_sizes := b_are_sizes, g_are_sizes := PySem.W.mg_of X G a_are_sizes, f_Record_init := f_Record_init, fd_Record_init := _, F_Record_init := F_Record_init, b_Record_init := b_Record_init, f_Record_seats := f_Record_seats, fd_Record_seats := _, F_Record_seats := F_Record_seats, b_Record_seats := b_Record_seats, f_Record_calls_to_target := f_Record_calls_to_target, fd_Record_calls_to_target := _, F_Record_calls_to_target := F_Record_calls_to_target, b_Record_calls_to_target := b_Record_calls_to_target, f_seats_of_game := f_seats_of_game, fd_seats_of_game := _, F_seats_of_game := F_seats_of_game, b_seats_of_game := b_seats_of_game, g_seats_of_game := PySem.W.mg_of X G a_seats_of_game, f_calls_before := f_calls_before, fd_calls_before := _, F_calls_before := F_calls_before, b_calls_before := b_calls_before, g_calls_before := PySem.W.mg_of X G a_calls_before, f_law_mixed := f_law_mixed, fd_law_mixed := _, F_law_mixed := F_law_mixed, b_law_mixed := b_law_mixed, g_law_mixed := PySem.W.mg_of X G a_law_mixed, f_law_source := f_law_source, fd_law_source := _, F_law_source := F_law_source, b_law_source := b_law_source, g_law_source := PySem.W.mg_of X G a_law_source, f_law_take := f_law_take, fd_law_take := _, F_law_take := F_law_take, b_law_take := b_law_take, g_law_take := PySem.W.mg_of X G a_law_take, f_law_one := f_law_one, fd_law_one := _, F_law_one := F_law_one, b_law_one := b_law_one, g_law_one := PySem.W.mg_of X G a_law_one, f_law_rings := f_law_rings, fd_law_rings := _, F_law_rings := F_law_rings, b_law_rings := b_law_rings, g_law_rings := PySem.W.mg_of X G a_law_rings, f_law_seat := f_law_seat, fd_law_seat := _, F_law_seat := F_law_seat, b_law_seat := b_law_seat, g_law_seat := PySem.W.mg_of X G a_law_seat, f_law_seats := f_law_seats, fd_law_seats := _, F_law_seats := F_law_seats, b_law_seats := b_law_seats, g_law_seats := PySem.W.mg_of X G a_law_seats, f_law_call := f_law_call, fd_law_call := _, F_law_call := F_law_call, b_law_call := b_law_call, g_law_call := PySem.W.mg_of X G a_law_call, f_law_moves := f_law_moves, fd_law_moves := _, F_law_moves := F_law_moves, b_law_moves := b_law_moves, g_law_moves := PySem.W.mg_of X G a_law_moves, f_law_step := f_law_step, fd_law_step := _, F_law_step := F_law_step, b_law_step := b_law_step, g_law_step := PySem.W.mg_of X G a_law_step, f_law_walk := f_law_walk, fd_law_walk := _, F_law_walk := F_law_walk, b_law_walk := b_law_walk, g_law_walk := PySem.W.mg_of X G a_law_walk, f_law_wide_rings := f_law_wide_rings, fd_law_wide_rings := _, F_law_wide_rings := F_law_wide_rings, b_law_wide_rings := b_law_wide_rings, g_law_wide_rings := PySem.W.mg_of X G a_law_wide_rings, f_law_spoil := f_law_spoil, fd_law_spoil := _, F_law_spoil := F_law_spoil, b_law_spoil := b_law_spoil, g_law_spoil := PySem.W.mg_of X G a_law_spoil, f_law_right := f_law_right, fd_law_right := _, F_law_right := F_law_right, b_law_right := b_law_right, g_law_right := PySem.W.mg_of X G a_law_right, f_law := fa, fd_law := _, F_law := F_law, b_law := b_law, g_law := PySem.W.mg_of X G a_law, c_Table := c_Table, g_Table := PySem.W.mg_of X G ac_Table, cl_Table := ⟨pg_Table, hd_Table, po_Table, sa_Table⟩, M_Table := ⟨mk_Table, a_Table_init, i_Table_init, kc_Table⟩, m_Table_sizes := ⟨a_Table_sizes, i_Table_sizes, k_Table_sizes⟩, no_Table_sizes := no_Table_sizes, ins_Table := ⟨⟨pg_Table, hd_Table, po_Table, sa_Table⟩, ih_Table, in_Table, it_Table, im_Table, kit_self _ _⟩, c_Record := c_Record, g_Record := PySem.W.mg_of X G ac_Record, cl_Record := ⟨pg_Record, hd_Record, po_Record, sa_Record⟩, M_Record := ⟨mk_Record, a_Record_init, i_Record_init, kc_Record⟩, m_Record_seats := ⟨a_Record_seats, i_Record_seats, k_Record_seats⟩, m_Record_calls_to_target := ⟨a_Record_calls_to_target, i_Record_calls_to_target, k_Record_calls_to_target⟩, no_Record_table := no_Record_table, no_Record_targets := no_Record_targets, no_Record_moves := no_Record_moves, no_Record_seats := no_Record_seats, no_Record_calls := no_Record_calls, kb_Record_moves_seat_targets_table := kb_Record_moves_seat_targets_table, v_MAX_RINGS := _, g_MAX_RINGS := PySem.W.mg_of X G y_MAX_RINGS, r_MAX_RINGS := r_MAX_RINGS, n_all := PySem.W.mg_none_of X G z_all, n_bool := PySem.W.mg_none_of X G z_bool, n_enumerate := PySem.W.mg_none_of X G z_enumerate, n_int := PySem.W.mg_none_of X G z_int, n_isinstance := PySem.W.mg_none_of X G z_isinstance, n_len := PySem.W.mg_none_of X G z_len, n_list := PySem.W.mg_none_of X G z_list, n_range := PySem.W.mg_none_of X G z_range, n_set := PySem.W.mg_none_of X G z_set, n_str := PySem.W.mg_none_of X G z_str, n_tuple := PySem.W.mg_none_of X G z_tuple, n_zip := PySem.W.mg_none_of X G z_zip }
  exact ⟨PySem.W.fnOf "law" "law" (defArgs d_law) (defBody d_law) (defScope d_law) .none kV_law dc_law pm_law an_law cd_law ct_law, fun s v => .of_eq rfl, fun base _ _ => ok_law (P := P) (w := w) (base := base) T⟩
end Lw
open PySem PySem.W PyProof.Rows in
set_option maxHeartbeats 0 in
theorem PySem.Challenge.cw_calledseats_k41_records_of_games_holds : PySem.Challenge.rw_calledseats_k41_records_of_games.Holds := by
  w_on; o_law; k_head; (case hw => w_witness2)
  k_fill
  refine L2.walk_ofB (l := PySem.Challenge.rw_calledseats_k41_records_of_games) (n := 63) (k := 7) (x := "_law_script") (CX := fun _ => L2.CX0) (sp := fun w => Lw.sp_law _) rfl (by decide) rfl ⟨rfl, by decide, by decide⟩ (fun w h Y => PySem.W.kIn_of Y) ?F (fun _ _ a ns hl hb _ hS => ⟨a, ns, rfl, hS, hl, hb, fun _ => rfl⟩) (fun _ _ _ _ _ h => h)
  case F =>
    intro w mg fa h KX G hmg
    refine' Lw.all_mk KX G hmg ?ac_Record ?ac_Table ?a_is_integer ?l_is_integer ?x_is_integer ?k_is_integer ?a_is_seat ?l_is_seat ?x_is_seat ?k_is_seat ?a_is_call ?l_is_call ?x_is_call ?k_is_call ?a_is_direction ?l_is_direction ?x_is_direction ?k_is_direction ?a_is_move ?l_is_move ?x_is_move ?k_is_move ?a_require_seat ?l_require_seat ?x_require_seat ?k_require_seat ?a_require_seats ?l_require_seats ?x_require_seats ?k_require_seats ?a_require_targets ?l_require_targets ?x_require_targets ?k_require_targets ?a_require_moves ?l_require_moves ?x_require_moves ?k_require_moves ?a_Table_init ?i_Table_init ?l_Table_init ?x_Table_init ?k_Table_init ?a_Table_sizes ?i_Table_sizes ?l_Table_sizes ?x_Table_sizes ?k_Table_sizes ?a_sizes_of ?l_sizes_of ?x_sizes_of ?k_sizes_of ?a_both_moves ?l_both_moves ?x_both_moves ?k_both_moves ?a_stepped ?l_stepped ?x_stepped ?k_stepped ?a_are_sizes ?l_are_sizes ?x_are_sizes ?k_are_sizes ?a_Record_init ?i_Record_init ?l_Record_init ?x_Record_init ?k_Record_init ?a_Record_seats ?i_Record_seats ?l_Record_seats ?x_Record_seats ?k_Record_seats ?a_Record_calls_to_target ?i_Record_calls_to_target ?l_Record_calls_to_target ?x_Record_calls_to_target ?k_Record_calls_to_target ?a_seats_of_game ?l_seats_of_game ?x_seats_of_game ?k_seats_of_game ?a_calls_before ?l_calls_before ?x_calls_before ?k_calls_before ?a_law_mixed ?l_law_mixed ?x_law_mixed ?k_law_mixed ?a_law_source ?l_law_source ?x_law_source ?k_law_source ?a_law_take ?l_law_take ?x_law_take ?k_law_take ?a_law_one ?l_law_one ?x_law_one ?k_law_one ?a_law_rings ?l_law_rings ?x_law_rings ?k_law_rings ?a_law_seat ?l_law_seat ?x_law_seat ?k_law_seat ?a_law_seats ?l_law_seats ?x_law_seats ?k_law_seats ?a_law_call ?l_law_call ?x_law_call ?k_law_call ?a_law_moves ?l_law_moves ?x_law_moves ?k_law_moves ?a_law_step ?l_law_step ?x_law_step ?k_law_step ?a_law_walk ?l_law_walk ?x_law_walk ?k_law_walk ?a_law_wide_rings ?l_law_wide_rings ?x_law_wide_rings ?k_law_wide_rings ?a_law_spoil ?l_law_spoil ?x_law_spoil ?k_law_spoil ?a_law_right ?l_law_right ?x_law_right ?k_law_right ?a_law ?l_law ?x_law ?k_law ?pg_Table ?hd_Table ?po_Table ?sa_Table ?mk_Table ?kc_Table ?no_Table_sizes ?ih_Table ?in_Table ?it_Table ?im_Table ?pg_Record ?hd_Record ?po_Record ?sa_Record ?mk_Record ?kc_Record ?no_Record_table ?no_Record_targets ?no_Record_moves ?no_Record_seats ?no_Record_calls ?y_MAX_RINGS ?r_MAX_RINGS ?z_all ?z_bool ?z_enumerate ?z_int ?z_isinstance ?z_len ?z_list ?z_range ?z_set ?z_str ?z_tuple ?z_zip
    (case ac_Record => k_is)
    (case ac_Table => k_is)
    (case a_is_integer => k_is)
    (case l_is_integer => k_is)
    (case x_is_integer => k_is)
    (case k_is_integer => k_is)
    (case a_is_seat => k_is)
    (case l_is_seat => k_is)
    (case x_is_seat => k_is)
    (case k_is_seat => k_is)
    (case a_is_call => k_is)
    (case l_is_call => k_is)
    (case x_is_call => k_is)
    (case k_is_call => k_is)
    (case a_is_direction => k_is)
    (case l_is_direction => k_is)
    (case x_is_direction => k_is)
    (case k_is_direction => k_is)
    (case a_is_move => k_is)
    (case l_is_move => k_is)
    (case x_is_move => k_is)
    (case k_is_move => k_is)
    (case a_require_seat => k_is)
    (case l_require_seat => k_is)
    (case x_require_seat => k_is)
    (case k_require_seat => k_is)
    (case a_require_seats => k_is)
    (case l_require_seats => k_is)
    (case x_require_seats => k_is)
    (case k_require_seats => k_is)
    (case a_require_targets => k_is)
    (case l_require_targets => k_is)
    (case x_require_targets => k_is)
    (case k_require_targets => k_is)
    (case a_require_moves => k_is)
    (case l_require_moves => k_is)
    (case x_require_moves => k_is)
    (case k_require_moves => k_is)
    (case a_Table_init => k_is)
    (case i_Table_init => k_is)
    (case l_Table_init => k_is)
    (case x_Table_init => k_is)
    (case k_Table_init => k_is)
    (case a_Table_sizes => k_is)
    (case i_Table_sizes => k_is)
    (case l_Table_sizes => k_is)
    (case x_Table_sizes => k_is)
    (case k_Table_sizes => k_is)
    (case a_sizes_of => k_is)
    (case l_sizes_of => k_is)
    (case x_sizes_of => k_is)
    (case k_sizes_of => k_is)
    (case a_both_moves => k_is)
    (case l_both_moves => k_is)
    (case x_both_moves => k_is)
    (case k_both_moves => k_is)
    (case a_stepped => k_is)
    (case l_stepped => k_is)
    (case x_stepped => k_is)
    (case k_stepped => k_is)
    (case a_are_sizes => k_is)
    (case l_are_sizes => k_is)
    (case x_are_sizes => k_is)
    (case k_are_sizes => k_is)
    (case a_Record_init => k_is)
    (case i_Record_init => k_is)
    (case l_Record_init => k_is)
    (case x_Record_init => k_is)
    (case k_Record_init => k_is)
    (case a_Record_seats => k_is)
    (case i_Record_seats => k_is)
    (case l_Record_seats => k_is)
    (case x_Record_seats => k_is)
    (case k_Record_seats => k_is)
    (case a_Record_calls_to_target => k_is)
    (case i_Record_calls_to_target => k_is)
    (case l_Record_calls_to_target => k_is)
    (case x_Record_calls_to_target => k_is)
    (case k_Record_calls_to_target => k_is)
    (case a_seats_of_game => k_is)
    (case l_seats_of_game => k_is)
    (case x_seats_of_game => k_is)
    (case k_seats_of_game => k_is)
    (case a_calls_before => k_is)
    (case l_calls_before => k_is)
    (case x_calls_before => k_is)
    (case k_calls_before => k_is)
    (case a_law_mixed => k_is)
    (case l_law_mixed => k_is)
    (case x_law_mixed => k_is)
    (case k_law_mixed => k_is)
    (case a_law_source => k_is)
    (case l_law_source => k_is)
    (case x_law_source => k_is)
    (case k_law_source => k_is)
    (case a_law_take => k_is)
    (case l_law_take => k_is)
    (case x_law_take => k_is)
    (case k_law_take => k_is)
    (case a_law_one => k_is)
    (case l_law_one => k_is)
    (case x_law_one => k_is)
    (case k_law_one => k_is)
    (case a_law_rings => k_is)
    (case l_law_rings => k_is)
    (case x_law_rings => k_is)
    (case k_law_rings => k_is)
    (case a_law_seat => k_is)
    (case l_law_seat => k_is)
    (case x_law_seat => k_is)
    (case k_law_seat => k_is)
    (case a_law_seats => k_is)
    (case l_law_seats => k_is)
    (case x_law_seats => k_is)
    (case k_law_seats => k_is)
    (case a_law_call => k_is)
    (case l_law_call => k_is)
    (case x_law_call => k_is)
    (case k_law_call => k_is)
    (case a_law_moves => k_is)
    (case l_law_moves => k_is)
    (case x_law_moves => k_is)
    (case k_law_moves => k_is)
    (case a_law_step => k_is)
    (case l_law_step => k_is)
    (case x_law_step => k_is)
    (case k_law_step => k_is)
    (case a_law_walk => k_is)
    (case l_law_walk => k_is)
    (case x_law_walk => k_is)
    (case k_law_walk => k_is)
    (case a_law_wide_rings => k_is)
    (case l_law_wide_rings => k_is)
    (case x_law_wide_rings => k_is)
    (case k_law_wide_rings => k_is)
    (case a_law_spoil => k_is)
    (case l_law_spoil => k_is)
    (case x_law_spoil => k_is)
    (case k_law_spoil => k_is)
    (case a_law_right => k_is)
    (case l_law_right => k_is)
    (case x_law_right => k_is)
    (case k_law_right => k_is)
    (case a_law => k_is)
    (case l_law => k_is)
    (case x_law => k_is)
    (case k_law => k_is)
    (case pg_Table => k_is)
    (case hd_Table => k_is)
    (case po_Table => k_is)
    (case sa_Table => k_is)
    (case mk_Table => k_is)
    (case kc_Table => k_is)
    (case no_Table_sizes => k_is)
    (case ih_Table => k_is)
    (case in_Table => k_is)
    (case it_Table => k_is)
    (case im_Table => k_is)
    (case pg_Record => k_is)
    (case hd_Record => k_is)
    (case po_Record => k_is)
    (case sa_Record => k_is)
    (case mk_Record => k_is)
    (case kc_Record => k_is)
    (case no_Record_table => k_is)
    (case no_Record_targets => k_is)
    (case no_Record_moves => k_is)
    (case no_Record_seats => k_is)
    (case no_Record_calls => k_is)
    (case y_MAX_RINGS => k_is)
    (case r_MAX_RINGS => exact ⟨_, rfl⟩)
    (case z_all => k_is)
    (case z_bool => k_is)
    (case z_enumerate => k_is)
    (case z_int => k_is)
    (case z_isinstance => k_is)
    (case z_len => k_is)
    (case z_list => k_is)
    (case z_range => k_is)
    (case z_set => k_is)
    (case z_str => k_is)
    (case z_tuple => k_is)
    (case z_zip => k_is)
