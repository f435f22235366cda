import PyProof.Rows.All
import Wide.All
import OpenK.AllK
import Wide.FinOn
import HandS.ForMost
import HandS.Walk
import HandS.Zip
import HandS.List
import KE.GoesEnum
import KE.GoesZip
import KE.GoesMore
import PySem.Challenge.RW_uprightletters_k22_exceptions_of_the_fir
import HandS.IsInst
import HandS.SortKw
import PyProof.ReprRoads
import KE.DatumOrd
import HandS.ForExc
import HandS.ExcInit
import HandS.ExcValue
import KE.KExcIs
import HandS.Codes
import HandS.TupLen
import PyProof.EqKinds
import PyProof.InstEq
import HandS.OwnEq
import HandS.More
import HandS.SlotsOwn
set_option Elab.async false
set_option linter.all false
set_option maxRecDepth 100000
set_option maxHeartbeats 4000000
/-! rules of my own: enumerate of a tuple, zip of a list and a tuple -/
namespace PySem
namespace UpR
set_option maxHeartbeats 2000000 in
/-- what enumerate's maker meets when it is handed one thing that begins to be walked -/
theorem enum1_meets {v : Value} {o : Obj} {G : Heap → Prop} (B : Begins v o G) :
    Meets (Builtin.«enumerate.__new__» ⟨[.type "enumerate", v], []⟩) (fun _ R st => G st.heap ∧
      R (.ok (.ret (.ref (st.heap.push o).objs.size)))
        { st with heap := (st.heap.push o).push { cls := .type "enumerate", data := .fields #[.none, .bool false, .ref st.heap.objs.size, rawInt 0, .none, .none] } }) :=
  .of_wp fun prog w A R st hh => by
    obtain ⟨p0, gn, dw, tok, fs⟩ := st
    obtain ⟨hG, hR⟩ := hh
    have sub1 := sub_enumerate
    have it1 : ∀ {A' : Around} {E : Value → Shared → Prop} {Q : Value → Shared → Prop}, Q (.ref p0.objs.size) ⟨p0.push o, gn, dw, tok, fs⟩ → wpAny (model prog w) A' (pyIter v) Q E ⟨p0, gn, dw, tok, fs⟩ :=
      fun hq => B.iter prog w _ _ ⟨p0, gn, dw, tok, fs⟩ _ hG hq
    wp_walk using it1
    refine wpAny_stack_any fun stk => wpAny_pure ?_
    split
    · rename_i cc _ _ _ _ _
      cases (cc == Value.type "enumerate")
      all_goals
        wp_walk using it1
        exact ⟨_, rfl, hR⟩
    · wp_walk using it1
      exact ⟨_, rfl, hR⟩
theorem enum1_begins {prog : Program} {w : World} {A : Around} {E : Value → Shared → Prop} {st : Shared} {v : Value} {o : Obj} {G : Heap → Prop} {Q : Value → Shared → Prop} (B : Begins v o G) (hG : G st.heap)
    (hh : ∀ h', IsEnum h' (st.heap.objs.size + 1) st.heap.objs.size 0 .none → h'.get? st.heap.objs.size = some o → h'.objs.size = st.heap.objs.size + 2 →
      (∀ b u, st.heap.get? b = some u → h'.get? b = some u) → Q (.ref (st.heap.objs.size + 1)) { st with heap := h' }) :
    wpAny (model prog w) A (call (.type "enumerate") [v]) Q E st := by
  refine callType_new F.called_enumerate (by decide) (F.typeCall_enumerate_1 _) (F.newCall_enumerate_1 _) (fun obj => F.args_object_init_2 obj _) F.entry_enumerate_new (enum1_meets B) ⟨hG, ?_⟩
  have sz : (st.heap.push o).objs.size = st.heap.objs.size + 1 := Heap.size_push ..
  show _ ∧ _
  rw [sz]
  have en : IsEnum ((st.heap.push o).push { cls := .type "enumerate", data := .fields #[.none, .bool false, .ref st.heap.objs.size, rawInt 0, .none, .none] }) (st.heap.objs.size + 1) st.heap.objs.size 0 .none := by
    have t := Heap.get?_push_size (st.heap.push o) (o := { cls := .type "enumerate", data := .fields #[.none, .bool false, .ref st.heap.objs.size, rawInt 0, .none, .none] }) rfl
    rw [sz] at t
    exact t
  exact ⟨⟨_, en, rfl⟩, hh _ en (Heap.get?_push_of_some _ (Heap.get?_push_size _ B.free)) (by rw [Heap.size_push, sz]) fun b u e => Heap.get?_push_of_some _ (Heap.get?_push_of_some _ e)⟩
end UpR
end PySem
namespace Up
open PySem PySem.Spec PyProof.Rows L2
/-- the tuple at a, each item in a new pair behind its number -/
def IeT (K : PySem.W.Frag) (a : Addr) : It :=
  ⟨fun i H => ∃ (xs : List V) (x : V), SqT K H a xs ∧ xs[i]? = some x,
   fun i H v H' => ∃ U x, v = .ref U ∧ H U = none ∧ H' = upd H U (.tup [.int (i : Nat), x]) ∧ ∀ xs, SqT K H a xs → xs[i]? = some x,
   fun i H => ∃ xs : List V, SqT K H a xs ∧ xs.length = i⟩
theorem turn_eT {P : Program} {w : World} {K : PySem.W.Frag} {elts : List Expr} {kk : Nat} {tp : Pos} (a e it : Addr) :
    Turn P w K (.Tuple elts kk tp) (IeT K a) [e, it] e (fun i h => (∃ old, IsEnum h e it ((i : Nat) : Int) old) ∧ h.IsTupleIter it a i ∧ e ≠ it ∧ e ≠ a ∧ a ≠ it) where
  mem := List.mem_cons_self ..
  obj := fun i h st b hb => by
    obtain ⟨⟨old, he⟩, ⟨o, ho, _, hd⟩, _⟩ := st
    rcases (show b = e ∨ b = it by simpa using hb) with z | z
    · rw [z]
      exact ⟨_, he, fun v q => nomatch q⟩
    · rw [z]
      exact ⟨o, ho, fun v q => by rw [hd] at q; cases q⟩
  keep := fun i h h' st k => by
    obtain ⟨⟨old, he⟩, hi, ne⟩ := st
    exact ⟨⟨old, k e (by simp) _ he⟩, hi.at fun o q => k it (by simp) o q, ne⟩
  item := by
    intro X hP hw hK hc i pins s σ H E I hf st hg
    subst hP hw hK
    obtain ⟨⟨old, he⟩, hit, nei, nea, nai⟩ := st
    obtain ⟨xs, x, hq, hx⟩ := hg
    obtain ⟨its, rv, p, _⟩ := I.tuple hq
    obtain ⟨u, hu, ru⟩ := rv.get hx
    have hlt : i < its.toArray.size := by
      rcases Nat.lt_or_ge i its.toArray.size with z | z
      · exact z
      · simp at z
        rw [List.getElem?_eq_none z] at hu
        cases hu
    have el : e < s.heap.objs.size := Heap.lt_size he
    have il : it < s.heap.objs.size := by
      obtain ⟨_, q, _⟩ := hit
      exact Heap.lt_size q
    refine wpAny_pyNext_enum_itemD (Draws.tuple (A := X.A.in1) (I.ok.hd hc) it a nai its.toArray) he ⟨hit, p⟩ hlt nei (by simp [nei, nea]) fun x2 h' tk hx2 ho hit' hU hsz hk => ?_
    have ex2 : x2 = u := by
      have z : its[i]? = some x2 := by simpa using hx2
      exact Option.some.inj (z.symm.trans hu)
    subst ex2
    refine ⟨_, rfl, wpAny_letOwnedTupleGo_enum (s := { s with heap := h', toks := tk + 1 }) ho fun h2 he2 sb => ?_⟩
    have hU2 : h2.get? s.heap.objs.size = some { cls := .type "tuple", data := .seq #[.int i tk, x2] } := (sb.2 _ (Nat.ne_of_gt el)).trans hU
    have new : ObjOk X.prog X.w (upd H s.heap.objs.size (.tup [.int (i : Nat), x])) h2 s.heap.objs.size (.tup [.int (i : Nat), x]) :=
      ⟨by show 2 ≤ sizeLine; decide, [.int i tk, x2], .cons ⟨_, rfl⟩ (.cons ru .nil), ⟨_, hU2, rfl, _, rfl⟩⟩
    have J : Inv X pins σ (upd H s.heap.objs.size (.tup [.int (i : Nat), x])) { s with heap := h2, toks := tk + 1 } :=
      I.turnedNew (ch := [e, it]) (fun b ob hb q => (sb.2 b (fun z => hb (by simp [z]))).trans (hk b ob (fun z => hb (by simp [z])) (fun z => hb (by simp [z])) q)) hf (Nat.le_refl _) new
    refine ⟨.ref s.heap.objs.size, _, J, rfl, ⟨_, x, rfl, I.hok.fresh (Nat.le_refl _), rfl, fun ys hy => by rw [I.tuple_inj hy hq]; exact hx⟩, ⟨⟨x2, ?_⟩, hit'.1.at fun o q => (sb.2 it nei.symm).trans q, nei, nea, nai⟩, fun b hb => ?_⟩
    · have e1 : ((i + 1 : Nat) : Int) = (i : Int) + 1 := by omega
      rw [e1]
      exact he2
    · have lb : b < s.heap.objs.size := by
        rcases (show b = e ∨ b = it by simpa using hb) with z | z
        · exact z ▸ el
        · exact z ▸ il
      rw [upd_ne (Nat.ne_of_lt lb)]
      exact (hf b hb).1
  done := by
    intro X hP hw hK hc i pins s σ H E I hf st hg
    subst hP hw hK
    obtain ⟨⟨old, he⟩, hit, nei, nea, nai⟩ := st
    obtain ⟨xs, hq, hx⟩ := hg
    obtain ⟨its, rv, p, _⟩ := I.tuple hq
    obtain ⟨f0, f1, f2, f3, f4, f5⟩ := hf it (by simp)
    have hl := rv.length
    have sz : its.toArray.size = i := by
      rw [List.size_toArray]
      omega
    exact wpAny_pyNext_enum_endD (Draws.tuple (A := X.A.in1) (I.ok.hd hc) it a nai its.toArray) he (by rw [sz]; exact ⟨hit, p⟩) fun h' eb => ⟨rfl, I.turned (t' := s.toks) (fun b o hb q => eb b o hb q) f0 f1 f3 f4 f5⟩
  self := fun A i s Q E st h => let ⟨⟨_, he⟩, _⟩ := st; wpAny_pyIter_enum he h
def iEnT (K : PySem.W.Frag) (ta : TA) : TI := fun σ H R => ta σ H fun vs H1 => ∃ a xs, vs = [.ref a] ∧ SqT K H1 a xs ∧ R (IeT K a) H1
theorem pi_enT {X : Cx} {e : Expr} {ta : TA} {p pos tp : Pos} {elts : List Expr} {kk : Nat} (hg : Gl X "enumerate") (hm : X.mg "enumerate" = none) (ha : PA X [e] ta) (hs : starEach [e] X.env = [(false, eval e X.env)] := by rfl) :
    PI X (.Tuple elts kk tp) (.Call (.Name "enumerate" p) [e] [] pos) (iEnT X.K ta) := by
  refine ⟨fun pins s σ H R I h => ?_⟩
  refine Call_ (ld_blt I hg hm boot_enumerate (PyProof.Rows.callWith_type1 (thn (ha.run pos pins s σ H _ I h) fun us s1 ⟨vs, H1, I1, r1, q1⟩ => ?_) hs rfl))
  obtain ⟨a, xs, rfl, hq, q⟩ := q1
  cases r1 with
  | cons r rr =>
    cases rr
    cases r
    obtain ⟨its, rv, pt, _⟩ := I1.tuple hq
    have la : a < s1.heap.objs.size := by
      obtain ⟨o, ho, _⟩ := id pt
      exact Heap.lt_size ho
    refine PySem.UpR.enum1_begins (begins_tuple a its.toArray) pt fun h' he hit hsz hk => wpAny_pyIter_enum he ?_
    have I2 : Inv X pins σ H1 { s1 with heap := h' } := I1.kept (t' := s1.toks) hk
    refine ⟨s1.heap.objs.size + 1, [s1.heap.objs.size + 1, s1.heap.objs.size], _, _, H1, rfl, I2, turn_eT a (s1.heap.objs.size + 1) s1.heap.objs.size, ⟨⟨.none, he⟩, ⟨_, hit, rfl, rfl⟩, Nat.succ_ne_self _, ?_, ?_⟩, fun b hb => ?_, q⟩
    · exact Nat.ne_of_gt (Nat.lt_succ_of_lt la)
    · exact Nat.ne_of_lt la
    · have hle : s1.heap.objs.size ≤ b := by
        rcases (show b = s1.heap.objs.size + 1 ∨ b = s1.heap.objs.size by simpa using hb) with z | z
        · rw [z]
          exact Nat.le_succ _
        · exact Nat.le_of_eq z.symm
      exact I1.fpOk hle (I1.hok.fresh hle)
/-- a list at a beside a tuple at b, the items in new pairs -/
def IzM (K : PySem.W.Frag) (a b : Addr) : It :=
  ⟨fun i H => ∃ (xs ys : List V) (x y : V), SqL K H a xs ∧ SqT K H b ys ∧ xs[i]? = some x ∧ ys[i]? = some y,
   fun i H v H' => ∃ U x y, v = .ref U ∧ H U = none ∧ H' = upd H U (.tup [x, y]) ∧ (∀ xs, SqL K H a xs → xs[i]? = some x) ∧ ∀ ys, SqT K H b ys → ys[i]? = some y,
   fun i H => ∃ xs ys : List V, SqL K H a xs ∧ SqT K H b ys ∧ i ≤ xs.length ∧ i ≤ ys.length ∧ (i = xs.length ∨ i = ys.length)⟩
theorem no2 {x y z : Addr} (h1 : x ≠ y) (h2 : x ≠ z) : x ∉ ([y, z] : List Addr) := by simp [h1, h2]
theorem nij (n i j : Nat) (h : i ≠ j) : n + i ≠ n + j := by omega
theorem ni0 (n i : Nat) (h : i ≠ 0) : n + i ≠ n := by omega
theorem nik (n i k : Nat) (h : k < n) : n + i ≠ k := by omega
theorem n0j (n j : Nat) (h : j ≠ 0) : n ≠ n + j := by omega
theorem n0k (n k : Nat) (h : k < n) : n ≠ k := by omega
theorem sep_num (n k l : Nat) (h1 : k < n) (h2 : l < n) : ZipSep2 (n + 4) (n + 2) (n + 3) n (n + 1) [n, k] [n + 1, l] where
  TIz := nij n 2 4 (by decide)
  TOz := nij n 3 4 (by decide)
  TITO := nij n 2 3 (by decide)
  TIi1 := ni0 n 2 (by decide)
  mem1 := List.mem_cons_self ..
  zf1 := no2 (ni0 n 4 (by decide)) (nik n 4 k h1)
  Tf1 := no2 (ni0 n 3 (by decide)) (nik n 3 k h1)
  TIi2 := nij n 2 1 (by decide)
  mem2 := List.mem_cons_self ..
  zf2 := no2 (nij n 4 1 (by decide)) (nik n 4 l h2)
  Tf2 := no2 (nij n 3 1 (by decide)) (nik n 3 l h2)
  sep1_2 := no2 (n0j n 1 (by decide)) (n0k n l h2)
  sep2_1 := no2 (ni0 n 1 (by decide)) (nik n 1 k h1)
theorem turn_zM {P : Program} {w : World} {K : PySem.W.Frag} {elts : List Expr} {kk : Nat} {tp : Pos} {a b z TI TO i1 i2 : Addr} (S : ZipSep2 z TI TO i1 i2 [i1, a] [i2, b]) :
    Turn P w K (.Tuple elts kk tp) (IzM K a b) [z, TI, TO, i1, i2] z (fun i h => IsZip h z TI TO .none ∧ IsTupOf2 h TI (.ref i1) (.ref i2) ∧ (∃ x y, IsTupOf2 h TO x y) ∧ h.IsListIter i1 a i ∧ h.IsTupleIter i2 b i ∧ a ≠ i1 ∧ b ≠ i2) where
  mem := List.mem_cons_self ..
  obj := fun i h st c hc => by
    obtain ⟨hz, hTI, ⟨x, y, hTO⟩, ⟨o1, e1, _, d1⟩, ⟨o2, e2, _, d2⟩, _⟩ := st
    rcases (show c = z ∨ c = TI ∨ c = TO ∨ c = i1 ∨ c = i2 by simpa using hc) with q | q | q | q | q <;> rw [q]
    · exact ⟨_, hz, fun v q => nomatch q⟩
    · exact ⟨_, hTI, fun v q => nomatch q⟩
    · exact ⟨_, hTO, fun v q => nomatch q⟩
    · exact ⟨o1, e1, fun v q => by rw [d1] at q; cases q⟩
    · exact ⟨o2, e2, fun v q => by rw [d2] at q; cases q⟩
  keep := fun i h h' st k => by
    obtain ⟨hz, hTI, ⟨x, y, hTO⟩, h1, h2, ne⟩ := st
    exact ⟨k z (by simp) _ hz, k TI (by simp) _ hTI, ⟨x, y, k TO (by simp) _ hTO⟩, h1.at fun o q => k i1 (by simp) o q, h2.at fun o q => k i2 (by simp) o q, ne⟩
  item := by
    intro X hP hw hK hc i pins s σ H E I hf st hg
    subst hP hw hK
    obtain ⟨hz, hTI, ⟨x0, y0, hTO⟩, h1, h2, na, nb⟩ := st
    obtain ⟨xs, ys, x, y, qx, qy, ex, ey⟩ := hg
    obtain ⟨its, rv, p, _⟩ := I.list qx
    obtain ⟨jts, rw2, p2, _⟩ := I.tuple qy
    obtain ⟨u, hu, ru⟩ := rv.get ex
    obtain ⟨v, hv, rvv⟩ := rw2.get ey
    have l1 : i < its.toArray.size := by
      rw [List.size_toArray]
      exact (List.getElem?_eq_some_iff.mp hu).1
    have l2 : i < jts.toArray.size := by
      rw [List.size_toArray]
      exact (List.getElem?_eq_some_iff.mp hv).1
    have lz : z < s.heap.objs.size := Heap.lt_size hz
    have hd1 : X.A.in1.handled = none := I.ok.hd hc
    refine wpAny_pyNext_zipD2_item S (Draws.list (A := X.A.in1) hd1 i1 a na its.toArray) (Draws.tuple (A := X.A.in1) hd1 i2 b nb jts.toArray) hz hTI hTO ⟨h1, p.isList⟩ ⟨h2, p2⟩ l1 l2 fun u2 v2 h' tk eu ev z' TO' g1 g2 hU hsz hk => ?_
    have eu2 : u2 = u := by
      have t : its[i]? = some u2 := by simpa using eu
      exact Option.some.inj (t.symm.trans hu)
    have ev2 : v2 = v := by
      have t : jts[i]? = some v2 := by simpa using ev
      exact Option.some.inj (t.symm.trans hv)
    subst eu2 ev2
    refine ⟨_, rfl, wpAny_letOwnedTupleGo_zip (s := { s with heap := h', toks := tk }) z' fun k2 z2 sb => ?_⟩
    have hU2 : k2.get? s.heap.objs.size = some { cls := .type "tuple", data := .seq #[u2, v2] } := (sb.2 _ (Nat.ne_of_gt lz)).trans hU
    have new : ObjOk X.prog X.w (upd H s.heap.objs.size (.tup [x, y])) k2 s.heap.objs.size (.tup [x, y]) :=
      ⟨by show 2 ≤ sizeLine; decide, [u2, v2], .cons ru (.cons rvv .nil), ⟨_, hU2, rfl, _, rfl⟩⟩
    have J : Inv X pins σ (upd H s.heap.objs.size (.tup [x, y])) { s with heap := k2, toks := tk } :=
      I.turnedNew (ch := [z, TI, TO, i1, i2]) (fun c o hb q => (sb.2 c (fun t => hb (by simp [t]))).trans (hk c o (fun t => hb (by simp [t])) (fun t => hb (by simp [t])) (fun t => hb (by simp [t])) (fun t => hb (by simp [t])) q)) hf (Nat.le_refl _) new
    refine ⟨.ref s.heap.objs.size, _, J, rfl, ⟨_, x, y, rfl, I.hok.fresh (Nat.le_refl _), rfl, fun l hl => by rw [I.list_inj hl qx]; exact ex, fun l hl => by rw [I.tuple_inj hl qy]; exact ey⟩, ⟨z2, ?_, ⟨u2, v2, ?_⟩, ?_, ?_, na, nb⟩, fun c hcm => ?_⟩
    · exact (sb.2 _ S.TIz).trans (hk _ _ S.TIz S.TITO S.TIi1 S.TIi2 hTI)
    · exact (sb.2 _ S.TOz).trans TO'
    · exact g1.1.at fun o q => (sb.2 _ S.zi1.symm).trans q
    · exact g2.1.at fun o q => (sb.2 _ S.zi2.symm).trans q
    · have lt : c < s.heap.objs.size := by
        rcases (show c = z ∨ c = TI ∨ c = TO ∨ c = i1 ∨ c = i2 by simpa using hcm) with q | q | q | q | q <;> rw [q]
        · exact lz
        · exact Heap.lt_size hTI
        · exact Heap.lt_size hTO
        · obtain ⟨_, e1, _⟩ := h1
          exact Heap.lt_size e1
        · obtain ⟨_, e2, _⟩ := h2
          exact Heap.lt_size e2
      rw [upd_ne (Nat.ne_of_lt lt)]
      exact (hf c hcm).1
  done := by
    intro X hP hw hK hc i pins s σ H E I hf st hg
    subst hP hw hK
    obtain ⟨hz, hTI, ⟨x0, y0, hTO⟩, h1, h2, na, nb⟩ := st
    obtain ⟨xs, ys, qx, qy, le1, le2, hend⟩ := hg
    obtain ⟨its, rv, p, _⟩ := I.list qx
    obtain ⟨jts, rw2, p2, _⟩ := I.tuple qy
    have hd1 : X.A.in1.handled = none := I.ok.hd hc
    have s1 : its.toArray.size = xs.length := by rw [List.size_toArray, rv.length]
    have s2 : jts.toArray.size = ys.length := by rw [List.size_toArray, rw2.length]
    exact wpAny_pyNext_zipD2_end S (Draws.list (A := X.A.in1) hd1 i1 a na its.toArray) (Draws.tuple (A := X.A.in1) hd1 i2 b nb jts.toArray) hz hTI hTO ⟨h1, p.isList⟩ ⟨h2, p2⟩ (by omega) (by omega) (by omega) fun h' tk hk =>
      ⟨rfl, I.turnedL (ch := [z, TI, TO, i1, i2]) (fun c o hb q => hk c o (fun t => hb (by simp [t])) (fun t => hb (by simp [t])) (fun t => hb (by simp [t])) (fun t => hb (by simp [t])) q) hf⟩
  self := fun A i s Q E st h => wpAny_pyIter_zip st.1 h
def iZpM (K : PySem.W.Frag) (ta : TA) : TI := fun σ H R => ta σ H fun vs H1 => ∃ a b xs ys, vs = [.ref a, .ref b] ∧ SqL K H1 a xs ∧ SqT K H1 b ys ∧ R (IzM K a b) H1
theorem pi_zpM {X : Cx} {e e2 : Expr} {ta : TA} {p pos tp : Pos} {elts : List Expr} {kk : Nat} (hg : Gl X "zip") (hm : X.mg "zip" = none) (ha : PA X [e, e2] ta)
    (hs : starEach [e, e2] X.env = (false, eval e X.env) :: starEach [e2] X.env := by rfl) (hpl : (backTo pos (starEach [e2] X.env)).any (·.1) = false := by rfl) :
    PI X (.Tuple elts kk tp) (.Call (.Name "zip" p) [e, e2] [] pos) (iZpM X.K ta) := by
  refine ⟨fun pins s σ H R I h => ?_⟩
  refine Call_ (ld_blt I hg hm PyProof.Rows.boot_zip (PyProof.Rows.callWith_type1 (thn (ha.run pos pins s σ H _ I h) fun us s1 ⟨vs, H1, I1, r1, q1⟩ => ?_) hs hpl))
  obtain ⟨a, b, xs, ys, rfl, qx, qy, q⟩ := q1
  cases r1 with
  | cons r rr =>
    cases rr with
    | cons r' rr =>
      cases rr
      cases r
      cases r'
      obtain ⟨its, rv, p1, _⟩ := I1.list qx
      obtain ⟨jts, rw2, p2, _⟩ := I1.tuple qy
      have la : a < s1.heap.objs.size := p1.lt
      have lb : b < s1.heap.objs.size := by
        obtain ⟨o2, ho2, _⟩ := id p2
        exact Heap.lt_size ho2
      refine zip_begins2 (begins_list a its.toArray) (begins_tuple b jts.toArray) p1.isList p2 fun h' hz hTI hTO g1 g2 hsz hk => wpAny_pyIter_zip hz ?_
      have I2 : Inv X pins σ H1 { s1 with heap := h' } := I1.kept (t' := s1.toks) hk
      refine ⟨s1.heap.objs.size + 4, [s1.heap.objs.size + 4, s1.heap.objs.size + 2, s1.heap.objs.size + 3, s1.heap.objs.size, s1.heap.objs.size + 1], _, _, H1, rfl, I2, turn_zM (sep_num _ _ _ la lb), ⟨hz, hTI, ⟨_, _, hTO⟩, ⟨_, g1, rfl, rfl⟩, ⟨_, g2, rfl, rfl⟩, Nat.ne_of_lt la, Nat.ne_of_lt (Nat.lt_succ_of_lt lb)⟩, fun c hcm => ?_, q⟩
      have hle : s1.heap.objs.size ≤ c := by
        rcases (show c = s1.heap.objs.size + 4 ∨ c = s1.heap.objs.size + 2 ∨ c = s1.heap.objs.size + 3 ∨ c = s1.heap.objs.size ∨ c = s1.heap.objs.size + 1 by simpa using hcm) with t | t | t | t | t <;> rw [t]
        · exact Nat.le_add_right _ _
        · exact Nat.le_add_right _ _
        · exact Nat.le_add_right _ _
        · exact Nat.le_refl _
        · exact Nat.le_add_right _ _
      exact I1.fpOk hle (I1.hok.fresh hle)
theorem walk_zM {K : PySem.W.Frag} {a b : Addr} {xs ys : List V} {n : Nat} (hn : n = min xs.length ys.length) : Walk (IzM K a b) n (fun H => SqL K H a xs ∧ SqT K H b ys) (YPair (fun i => xs[i]?) (fun i => ys[i]?)) := by
  subst hn
  refine ⟨fun i _ hi q => ?_, fun _ q => ⟨xs, ys, q.1, q.2, by omega, by omega, by omega⟩, fun i H v H' _ q y => ?_⟩
  · have g1 : i < xs.length := by omega
    have g2 : i < ys.length := by omega
    exact ⟨xs, ys, xs[i], ys[i], q.1, q.2, by simp [g1], by simp [g2]⟩
  · obtain ⟨U, x, z, h1, h2, h3, h4, h5⟩ := y
    exact ⟨U, x, z, h1, h2, h3, h4 xs q.1, h5 ys q.2⟩
theorem walk_enT {K : PySem.W.Frag} {a : Addr} {xs : List V} : Walk (IeT K a) xs.length (fun H => SqT K H a xs) (YPair (fun i => some (.int (i : Nat))) (fun i => xs[i]?)) := by
  refine ⟨fun i _ hi q => ⟨xs, xs[i], q, by simp [hi]⟩, fun _ q => ⟨xs, q, rfl⟩, fun i H v H' _ q y => ?_⟩
  obtain ⟨U, x, h1, h2, h3, h4⟩ := y
  exact ⟨U, .int (i : Nat), x, h1, h2, h3, rfl, h4 xs q⟩
/-- a list or a tuple at a -/
def LTa (K : PySem.W.Frag) (H : Hp) (a : Addr) (xs : List V) : Prop := SqL K H a xs ∨ SqT K H a xs
def SeqW (K : PySem.W.Frag) (H : Hp) (a : Addr) (R : It → Hp → Prop) : Prop := (∃ xs, SqL K H a xs ∧ R (Itl K a) H) ∨ ∃ xs, SqT K H a xs ∧ R (Itt K a) H
def iSeq (K : PySem.W.Frag) (tl : TE) : TI := fun σ H R => tl σ H fun x H1 => ∃ a, x = .ref a ∧ SeqW K H1 a R
/-- what is walked is a list or a tuple -/
theorem pi_seq {X : Cx} {tg l : Expr} {tl : TE} (hl : PE X l tl) : PI X tg l (iSeq X.K tl) := by
  refine ⟨fun pins s σ H R I h => thn (hl.run pins s σ H _ I h) fun v s1 ⟨x, H1, I1, r1, a, e, q1⟩ => ?_⟩
  subst e
  cases r1
  have fp1 : ∀ b ∈ [s1.heap.objs.size], FpOk X pins H1 b := fun b hb => by
    obtain rfl : b = s1.heap.objs.size := by simpa using hb
    exact I1.fpOk (Nat.le_refl _) (I1.hok.fresh (Nat.le_refl _))
  rcases q1 with ⟨xs, hq, q⟩ | ⟨xs, hq, q⟩
  · obtain ⟨its, rv, p, _⟩ := I1.list hq
    exact wpAny_pyIter_list p.isList ⟨s1.heap.objs.size, [s1.heap.objs.size], _, _, H1, rfl, I1.kept (t' := s1.toks) fun b o e => Heap.get?_push_of_some _ e, turn_list a _, ⟨_, Heap.get?_push_size _ rfl, rfl, rfl⟩, fp1, q⟩
  · obtain ⟨its, rv, p, _⟩ := I1.tuple hq
    exact wpAny_pyIter_tuple (show s1.heap.IsTuple a its.toArray from p) ⟨s1.heap.objs.size, [s1.heap.objs.size], _, _, H1, rfl, I1.kept (t' := s1.toks) fun b o e => Heap.get?_push_of_some _ e, turn_tuple a _, ⟨_, Heap.get?_push_size _ rfl, rfl, rfl⟩, fp1, q⟩
theorem seqT_same {K : PySem.W.Frag} {H H' : Hp} {a : Addr} {xs : List V} (e : Same H H') (h : SqT K H a xs) : SqT K H' a xs := by
  rcases h with (h | ⟨o, h⟩) | h
  · exact .inl (.inl (e _ _ h))
  · exact .inl (.inr ⟨o, e _ _ h⟩)
  · exact .inr h
theorem LTa.same {K : PySem.W.Frag} {H H' : Hp} {a : Addr} {xs : List V} (e : Same H H') (h : LTa K H a xs) : LTa K H' a xs := h.imp e.seq (seqT_same e)
/-- its walk, whichever it is: G stands while nothing that is tracked changes -/
theorem seq_of {K : PySem.W.Frag} {H : Hp} {a : Addr} {xs : List V} {R : It → Hp → Prop} (h : LTa K H a xs)
    (k : ∀ (J : It) (G : Hp → Prop), Walk J xs.length G (YAt xs) → (∀ H', Same H H' → G H') → R J H) : SeqW K H a R := by
  rcases h with h | h
  · exact .inl ⟨xs, h, k _ _ walk_list fun H' e => e.seq h⟩
  · exact .inr ⟨xs, h, k _ _ walk_tup fun H' e => seqT_same e h⟩
/-! ### rules where the written part is named: within a comprehension -/
theorem bt_int : bootBuiltins "int" = some (.type "int") := by decide +kernel
theorem bt_bool : bootBuiltins "bool" = some (.type "bool") := by decide +kernel
theorem bt_str : bootBuiltins "str" = some (.type "str") := by decide +kernel
theorem bt_list : bootBuiltins "list" = some (.type "list") := by decide +kernel
theorem bt_tuple : bootBuiltins "tuple" = some (.type "tuple") := by decide +kernel
theorem bb_isinstance : bootBuiltins "isinstance" = some (.builtin "isinstance") := by decide +kernel
theorem bb_max : bootBuiltins "max" = some (.builtin "max") := by decide +kernel
theorem bb_min : bootBuiltins "min" = some (.builtin "min") := by decide +kernel
theorem bb_repr : bootBuiltins "repr" = some (.builtin "repr") := by decide +kernel
section
variable {X : Cx} {K : PySem.W.Frag}
def rTupOf (K : PySem.W.Frag) : List V → Hp → VK → Prop := fun xs H Q => ∃ p ys, xs = [.ref p] ∧ ((SqL K H p ys ∧ ∀ l, H l = none → Q (.ref l) (upd H l (.tup ys))) ∨ (SqT K H p ys ∧ Q (.ref p) H))
theorem call_tupK (e : X.K = K) : CallR X (.type "tuple") (rTupOf K) := e ▸ (call_tuple_of (X := X))
def rLenSq (K : PySem.W.Frag) : List V → Hp → VK → Prop := fun xs H Q => ∃ p ys, xs = [.ref p] ∧ (SqL K H p ys ∨ SqT K H p ys) ∧ Q (.int ys.length) H
theorem call_lenK (e : X.K = K) : CallR X (.builtin "len") (rLenSq K) := e ▸ (call_len_seq (X := X))
theorem ix_listK (e : X.K = K) : IxR X (rIxL K) := e ▸ (ix_list (X := X))
theorem ix_tupK (e : X.K = K) : IxR X (rIxT K) := e ▸ (ix_tup (X := X))
theorem op_inK (e : X.K = K) : OpR X (compareOp .In) (rIn K false) := e ▸ (op_in_seq (X := X))
theorem op_notInK (e : X.K = K) : OpR X (compareOp .NotIn) (rIn K true) := e ▸ (op_notIn_seq (X := X))
theorem op_eqDK (e : X.K = K) (hu : X.A.units + 64 < cLine) : OpR X (compareOp .Eq) (rEqD K) := e ▸ (op_eqD (X := X) hu)
theorem op_neDK (e : X.K = K) (hu : X.A.units + 64 < cLine) : OpR X (compareOp .NotEq) (rNeD K) := e ▸ (op_neD (X := X) hu)
theorem pg_tupK {ts : List Expr} {k n : Nat} {pos : Pos} {t : TGs} (e : X.K = K) (hc : X.calm = true) (h : PGs X ts t)
    (hn : (assignEach ts X.env).length = n := by rfl) (hs : (assignEach ts X.env).findIdx? (·.1) = none := by rfl) : PG X (.Tuple ts k pos) (gTup K n t) := e ▸ (pg_tup hc h hn hs)
end
end Up

set_option Elab.async false
set_option linter.all false
set_option maxRecDepth 100000
set_option maxHeartbeats 2000000
/-! the draws: what a law's own drawing does to the heap -/
namespace Up
open PySem PySem.Spec PyProof.Rows L2
def topS (i : Nat) : Stmt := PySem.Challenge.pw_uprightletters_k22_exceptions_of_the_fir.main.body.getD i (.Pass ⟨0, 0, 0, 0⟩)
abbrev sMix : Stmt := (topS 24)
abbrev sFol : Stmt := (topS 25)
abbrev sDrw : Stmt := (topS 26)
abbrev sBeg : Stmt := (topS 27)
theorem scM : FnScope ["cell", "n", "blend"] ["cell", "n"] (defScope sMix) := ⟨rfl, rfl, rfl, by decide +kernel, rfl, by decide +kernel, by decide +kernel⟩
theorem scF : FnScope ["script", "n", "found", "cell"] ["script"] (defScope sFol) := ⟨rfl, rfl, rfl, by decide +kernel, rfl, by decide +kernel, by decide +kernel⟩
theorem scD : FnScope ["m", "limit", "n", "lot", "here", "cell"] ["m", "limit"] (defScope sDrw) := ⟨rfl, rfl, rfl, by decide +kernel, rfl, by decide +kernel, by decide +kernel⟩
theorem scB : FnScope ["script", "m", "cell"] ["script"] (defScope sBeg) := ⟨rfl, rfl, rfl, by decide +kernel, rfl, by decide +kernel, by decide +kernel⟩
/-- built-in names that stand as they are; the drawing's own defs -/
structure TxtB (mg : Str → Option Value) : Prop where
  int : mg "int" = none
  len : mg "len" = none
  range : mg "range" = none
  enumerate : mg "enumerate" = none
section
variable {P : Program} {w : World} {K : PySem.W.Frag} {mg : Str → Option Value} {base : Heap}
/-! ### _law_mixed -/
def spMix : Sp := fun vs H Q _ => ∃ (c n : Int), vs = [.int c, .int n] ∧ -(2 ^ 62) < n ∧ n < 2 ^ 62 ∧ ∀ r : Int, Q (.int r) H
theorem ok_mix {f : Addr} {fd : FuncData} (F : Fun K "_law_mixed" "_law_mixed" sMix f fd) (T : TxtB mg) : FnOk P w K mg base CX0 1 f fd ["cell", "n"] spMix := by
  refine F.ok scM (fun vs H Q E h => ?_) (fun cdv A outer s H vs Q E hr h => ?_)
  · obtain ⟨c, n, rfl, _⟩ := h
    rfl
  · obtain ⟨c, n, rfl, lo, hi, q⟩ := h
    refine ⟨_, (pss_cons (ps_set (i := 2) scM.nd rfl (Or.inl rfl) (pe_op op_add (pe_op op_add (pe_op op_mod (pe_callTy call_int1 (by rfl) T.int bt_int (pa_cons (pe_op op_mul (pe_op op_mul (pv 0) (pe_op op_add pe_int (pe_op op_mul pe_int (pv 1)))) pe_int) pa_nil)) pe_int) (pe_op op_mul (pe_op op_mul pe_int (pv 1)) (pv 1))) (pe_op op_mul pe_int (pv 1)))) (pss_one (ps_ret (pe_op op_fdiv (pe_op op_mod (pe_callTy call_int1 (by rfl) T.int bt_int (pa_cons (pe_op op_mul (pv 2) pe_int) pa_nil)) pe_int) pe_int)))), ?_⟩
    refine ⟨_, rfl, _, rfl, _, _, rfl, rfl, .inl ⟨by decide, by decide⟩, _, _, rfl, rfl, _, _, rfl, rfl, .inr ⟨by omega, by omega⟩, _, _, rfl, rfl, .inr ⟨by decide, by decide⟩, .inl ⟨_, rfl, ?_⟩⟩
    refine ⟨_, _, rfl, rfl, (by show (0 : Int) < 2147483647; decide), ?_⟩
    refine ⟨_, rfl, _, _, rfl, rfl, .inl ⟨by decide, by decide⟩, _, rfl, _, _, rfl, rfl, .inr ⟨by omega, by omega⟩, _, _, rfl, rfl, ?_⟩
    refine ⟨_, rfl, _, _, rfl, rfl, .inl ⟨by decide, by decide⟩, _, _, rfl, rfl, ?_⟩
    refine ⟨_, rfl, _, _, rfl, rfl, .inr ⟨by decide, by decide⟩, .inl ⟨_, rfl, ?_⟩⟩
    refine ⟨_, _, rfl, rfl, (by show (0 : Int) < 2147483629; decide), _, _, rfl, rfl, ⟨by decide, by decide⟩, ?_⟩
    exact q _

/-! ### small lemmas -/
abbrev iL (ns : List Int) : List V := ns.map V.int
theorem same_new {H : Hp} {p : Addr} {o : HO} (h : H p = none) : Same H (upd H p o) := fun b x e => by
  rw [upd_ne (ne_of_none e h)]
  exact e
theorem ix_at {n : Nat} {k : Int} {j : Nat} (e : k = (j : Int)) (h : j < n) : ixN n k = some j := by
  subst e
  unfold ixN
  rw [if_pos (by omega), if_pos (by omega)]
  simp
theorem iL_get {ns : List Int} {j : Nat} (h : j < ns.length) : (iL ns)[j]? = some (.int ns[j]) := by
  rw [List.getElem?_map, List.getElem?_eq_getElem h]
  rfl
theorem iL_at {ns : List Int} {k : Int} {j : Nat} (e : k = (j : Int)) (h : j < ns.length) : atI (iL ns) k = some (.int ns[j]) := at_of e (iL_get h)
theorem iL_set (ns : List Int) (j : Nat) (z : Int) : (iL ns).set j (.int z) = iL (ns.set j z) := List.map_set.symm
theorem iL_app (ns : List Int) (z : Int) : iL ns ++ [V.int z] = iL (ns ++ [z]) := (List.map_append (l₁ := ns) (l₂ := [z]) (f := V.int)).symm
theorem iL_put {H : Hp} {D : Addr} {cs : List Int} {j : Nat} {z : Int} : upd H D (.lst ((iL cs).set j (.int z))) D = some (.lst (iL (cs.set j z))) := by
  rw [upd_same, iL_set]
/-! ### _law_folded -/
def spFol (K : PySem.W.Frag) : Sp := fun vs H Q _ => ∃ (a : Addr) (ns : List Int), vs = [.ref a] ∧ SqL K H a (iL ns) ∧ ns.length ≤ 63 ∧
  ∀ (H' : Hp) (p : Addr) (cs : List Int), Same H H' → H p = none → H' p = some (.lst (iL cs)) → cs.length = 64 → Q (.ref p) H'
theorem ok_fol {f : Addr} {fd : FuncData} (F : Fun K "_law_folded" "_law_folded" sFol f fd) (T : TxtB mg) : FnOk P w K mg base CX0 1 f fd ["script"] (spFol K) := by
  refine F.ok scF (fun vs H Q E h => ?_) (fun cdv A outer s H vs Q E hr h => ?_)
  · obtain ⟨a, ns, rfl, _⟩ := h
    rfl
  · obtain ⟨a, ns, rfl, hS, hlen, q⟩ := h
    refine ⟨_, (pss_cons (ps_setLc (i := 2) (own := [("n", 1)]) (tt := tYes) rfl scF.nd rfl rfl (sw_true rfl rfl rfl (by decide +kernel)) (pi_range1 (by rfl) T.range (pa_cons pe_int pa_nil)) (blkOk_by (own := [("n", 1)]) (N := ["script", "n", "found", "cell"]) (sc := defScope sFol) (by decide +kernel)) (fun _ _ _ _ _ => (pg_name (i := 1) scF.nd rfl (Or.inl rfl))) (fun _ _ _ _ _ => pts_nil) (fun _ _ _ _ _ => (pe_op op_add pe_int (pv 1)))) (pss_cons (ps_for PassesOwn.never rfl (pi_enum (by rfl) T.enumerate (pa_cons (pv 0) pa_nil)) (pg_tup (by rfl) (pgs_cons (pg_name (i := 1) scF.nd rfl (Or.inl rfl)) (pgs_cons (pg_name (i := 3) scF.nd rfl (Or.inl rfl)) pgs_nil))) (pss_one (ps_asg (pe_op op_mod (pe_callTy call_int1 (by rfl) T.int bt_int (pa_cons (pe_op op_add (pe_op op_mul (pe_ix ix_list (pv 2) (pe_op op_mod (pe_callTy call_int1 (by rfl) T.int bt_int (pa_cons (pv 1) pa_nil)) pe_int) (fun _ _ => rfl)) pe_int) (pv 3)) pa_nil)) pe_int) (pg_sub (pv 2) (pe_op op_mod (pe_callTy call_int1 (by rfl) T.int bt_int (pa_cons (pv 1) pa_nil)) pe_int) set_list)))) (pss_cons (ps_for PassesOwn.never rfl (pi_range2 (by rfl) T.range (pa_cons pe_int (pa_cons pe_int pa_nil))) (pg_name (i := 1) scF.nd rfl (Or.inl rfl)) (pss_one (ps_asg (pe_op op_mod (pe_callTy call_int1 (by rfl) T.int bt_int (pa_cons (pe_op op_add (pe_ix ix_list (pv 2) (pv 1) (fun _ _ => rfl)) (pe_op op_mul (pe_ix ix_list (pv 2) (pe_op op_sub (pv 1) pe_int) (fun _ _ => rfl)) pe_int)) pa_nil)) pe_int) (pg_sub (pv 2) (pv 1) set_list)))) (pss_one (ps_ret (pv 2)))))), ?_⟩
    -- found = [17 + n for n in range(64)]
    refine ⟨64, rfl, by decide, by decide, fun D nD => lc_range (lo := 0) (n := 64) (fun i H2 => ∃ cs : List Int, cs.length = i ∧ H2 D = some (.lst (iL cs)) ∧ Same H H2) ⟨[], rfl, upd_same, same_new nD⟩ ?_ ?_⟩
    · rintro i H2 hi ⟨cs, hl, hD, sm⟩
      refine ⟨rfl, ?_⟩
      refine ⟨_, rfl, _, _, rfl, rfl, _, hD, ?_, cs ++ [17 + (0 + (i : Int))], ?_, ?_, fun b o e => ?_⟩
      · rw [List.length_map]
        exact small1000 (by omega)
      · rw [List.length_append, hl]
        rfl
      · rw [upd_same, iL_app]
      · rw [upd_ne (ne_of_none e nD)]
        exact sm b o e
    · rintro H2 ⟨cs, hl, hD, sm⟩
      -- for n, cell in enumerate(script)
      refine ⟨_, rfl, a, _, rfl, sm.seq hS, for_it walk_enum (fun i σ H3 => ∃ (v1 v3 : Option V) (cs : List Int), σ = [some (.ref a), v1, some (.ref D), v3] ∧ cs.length = 64 ∧ H3 D = some (.lst (iL cs)) ∧ Same H H3) ⟨_, _, cs, rfl, hl, hD, sm⟩ (fun i σ H3 _ ⟨_, _, _, _, _, _, sm'⟩ => sm'.seq hS) ?_ ?_⟩
      · rintro i x σ H3 H4 hi ⟨v1, v3, cs, rfl, hl, hD, sm⟩ ⟨U, x1, x2, rfl, nU, rfl, e1, e2⟩
        have hin : i < ns.length := by rw [List.length_map] at hi; exact hi
        have ex1 : x1 = .int (i : Int) := (Option.some.inj e1).symm
        have ex2 : x2 = .int ns[i] := Option.some.inj (e2.symm.trans (iL_get hin))
        subst ex1 ex2
        have hD4 : (upd H3 U (.tup [.int (i : Int), .int ns[i]])) D = some (.lst (iL cs)) := by rw [upd_ne (ne_of_none hD nU)]; exact hD
        have hj : i % 64 < cs.length := by omega
        refine ⟨U, _, rfl, .inl (.inl upd_same), rfl, _, _, rfl, _, _, rfl, rfl, ?_⟩
        refine ⟨_, rfl, _, rfl, .inl ⟨_, rfl, ?_⟩⟩
        refine ⟨_, _, rfl, rfl, (by show (0 : Int) < 64; decide), D, iL cs, _, .int cs[i % 64], rfl, rfl, .inl (.inl hD4), iL_at (by omega) hj, ?_⟩
        refine ⟨_, _, rfl, rfl, .inr ⟨by decide, by decide⟩, _, rfl, _, _, rfl, rfl, .inl ⟨_, rfl, ?_⟩⟩
        refine ⟨_, _, rfl, rfl, (by show (0 : Int) < 2147483647; decide), ?_⟩
        refine ⟨_, rfl, _, rfl, .inl ⟨_, rfl, ?_⟩⟩
        refine ⟨_, _, rfl, rfl, (by show (0 : Int) < 64; decide), D, iL cs, _, i % 64, rfl, rfl, hD4, ix_at (by omega) (by rw [List.length_map]; exact hj), ?_⟩
        refine ⟨_, _, _, rfl, by rw [List.length_set]; exact hl, iL_put, fun b o e => ?_⟩
        · rw [upd_ne (ne_of_none e nD), upd_ne (ne_of_none (sm b o e) nU)]
          exact sm b o e
      · rintro σ H3 ⟨v1, v3, cs, rfl, hl, hD, sm⟩
        -- for n in range(1, 64)
        refine ⟨1, 64, rfl, ⟨by decide, by decide, by decide, by decide⟩, for_range (lo := 1) (n := 63) (fun i σ H3 => ∃ (v1 v3 : Option V) (cs : List Int), σ = [some (.ref a), v1, some (.ref D), v3] ∧ cs.length = 64 ∧ H3 D = some (.lst (iL cs)) ∧ Same H H3) ⟨_, _, cs, rfl, hl, hD, sm⟩ ?_ ?_⟩
        · rintro i σ H3 hi ⟨v1, v3, cs, rfl, hl, hD, sm⟩
          have h1 : i + 1 < cs.length := by omega
          have h0 : i < cs.length := by omega
          refine ⟨_, rfl, _, rfl, D, iL cs, _, .int cs[i + 1], rfl, rfl, .inl (.inl hD), iL_at (by omega) h1, ?_⟩
          refine ⟨_, rfl, _, rfl, _, _, rfl, rfl, D, iL cs, _, .int cs[i], rfl, rfl, .inl (.inl hD), iL_at (by omega) h0, ?_⟩
          refine ⟨_, _, rfl, rfl, .inr ⟨by decide, by decide⟩, _, _, rfl, rfl, .inl ⟨_, rfl, ?_⟩⟩
          refine ⟨_, _, rfl, rfl, (by show (0 : Int) < 2147483647; decide), ?_⟩
          refine ⟨_, rfl, _, rfl, D, iL cs, _, i + 1, rfl, rfl, hD, ix_at (by omega) (by rw [List.length_map]; exact h1), ?_⟩
          refine ⟨_, _, _, rfl, by rw [List.length_set]; exact hl, iL_put, fun b o e => ?_⟩
          · rw [upd_ne (ne_of_none e nD)]
            exact sm b o e
        · rintro σ H3 ⟨v1, v3, cs, rfl, hl, hD, sm⟩
          exact ⟨_, rfl, q H3 D cs sm nD hD hl⟩

/-! ### the drawing's state: m, a dict of two lists and a number -/
abbrev kCe : Key := .inr "cells"
abbrev kGr : Key := .inr "great"
abbrev kSp : Key := .inr "spot"
def mkM (c g : Addr) (n : Int) : List (Key × V) := [(kCe, .ref c), (kGr, .ref g), (kSp, .int n)]
theorem val_ce (c g : Addr) (n : Int) : valV (mkM c g n) kCe = some (.ref c) := by rfl
theorem val_gr (c g : Addr) (n : Int) : valV (mkM c g n) kGr = some (.ref g) := by rfl
theorem val_sp (c g : Addr) (n : Int) : valV (mkM c g n) kSp = some (.int n) := by rfl
theorem put_sp (c g : Addr) (n z : Int) : putK (mkM c g n) kSp (.int z) = mkM c g z := by rfl
theorem put_gr (c g g2 : Addr) (n : Int) : putK (mkM c g n) kGr (.ref g2) = mkM c g2 n := by rfl
theorem merge_m (c g : Addr) (n : Int) : mergeK [] (mkM c g n) = mkM c g n := by rfl
/-- m at m, its list of great numbers at g, at most b draws done -/
structure MAt (H : Hp) (m g : Addr) (b : Nat) : Prop where
  ex : ∃ (c : Addr) (cs gs : List Int) (n : Nat), H m = some (.dK (mkM c g n)) ∧ H c = some (.lst (iL cs)) ∧ cs.length = 64 ∧ H g = some (.lst (iL gs)) ∧ gs.length ≤ 63 ∧ n ≤ b
theorem MAt.mono {H : Hp} {m g : Addr} {a b : Nat} (M : MAt H m g a) (h : a ≤ b) : MAt H m g b := by
  obtain ⟨c, cs, gs, n, h1, h2, h3, h4, h5, h6⟩ := M.ex
  exact ⟨c, cs, gs, n, h1, h2, h3, h4, h5, Nat.le_trans h6 h⟩
theorem MAt.same {H H' : Hp} {m g : Addr} {b : Nat} (M : MAt H m g b) (s : Same H H') : MAt H' m g b := by
  obtain ⟨c, cs, gs, n, h1, h2, h3, h4, h5, h6⟩ := M.ex
  exact ⟨c, cs, gs, n, s _ _ h1, s _ _ h2, h3, s _ _ h4, h5, h6⟩
theorem MAt.m_some {H : Hp} {m g : Addr} {b : Nat} (M : MAt H m g b) : H m ≠ none := by
  obtain ⟨c, cs, gs, n, h1, _⟩ := M.ex
  rw [h1]
  exact fun z => nomatch z
theorem MAt.g_some {H : Hp} {m g : Addr} {b : Nat} (M : MAt H m g b) : H g ≠ none := by
  obtain ⟨c, cs, gs, n, h1, h2, h3, h4, _⟩ := M.ex
  rw [h4]
  exact fun z => nomatch z
/-- all but m and its list stand as they stood -/
def But (m g : Addr) (H H' : Hp) : Prop := ∀ b o, H b = some o → b ≠ m → b ≠ g → H' b = some o
theorem But.trans {m g : Addr} {H H1 H2 : Hp} (a : But m g H H1) (b : But m g H1 H2) : But m g H H2 := fun c o e n1 n2 => b c o (a c o e n1 n2) n1 n2
theorem But.of {m g : Addr} {H H' : Hp} (s : Same H H') : But m g H H' := fun b o e _ _ => s b o e
theorem But.free {m g : Addr} {H H' : Hp} {b : Nat} (s : But m g H H') (M : MAt H' m g b) {a : Addr} (h : H' a = none) : H a = none := by
  cases e : H a with
  | none => rfl
  | some o =>
    by_cases h1 : a = m
    · rw [h1] at h
      exact (M.m_some h).elim
    by_cases h2 : a = g
    · rw [h2] at h
      exact (M.g_some h).elim
    · rw [s a o e h1 h2] at h
      cases h
def spDrw : Sp := fun vs H Q _ => ∃ (m g : Addr) (lim : Int) (b : Nat), vs = [.ref m, .int lim] ∧ 0 < lim ∧ lim < 1000000 ∧ b < 1000000 ∧ MAt H m g b ∧
  ∀ (d : Int) (H' : Hp), 0 ≤ d → d < lim → MAt H' m g (b + 1) → But m g H H' → Q (.int d) H'
theorem dp_iL {K : PySem.W.Frag} {H : Hp} : ∀ ns : List Int, DpAll K H (iL ns) (ns.map PyData.int)
  | [] => .nil
  | n :: ns => .cons (.int n) (dp_iL ns)
theorem eqv_nil : ∀ ns : List Int, PyData.eqv (.list (ns.map PyData.int)) (.list []) = ns.isEmpty
  | [] => rfl
  | _ :: _ => rfl
theorem depth_ints : ∀ ns : List Int, PyData.depthAll (ns.map PyData.int) ≤ 1
  | [] => by decide
  | n :: ns => by
    have h := depth_ints ns
    have e : PyData.depth (.int n) = 0 := by rw [PyData.depth]
    rw [List.map_cons, PyData.depthAll, e]
    omega
theorem lay_ints : ∀ ns : List Int, PyData.canLayAll0 (ns.map PyData.int) = true
  | [] => rfl
  | n :: ns => by
    rw [List.map_cons, PyData.canLayAll0, lay_ints ns, PyData.canLay0]
    rfl
theorem shaped_ints (ns : List Int) : SeqAt.shaped (.list (ns.map PyData.int)) = true := by
  have h := depth_ints ns
  have h3 : PyData.depth (.list (ns.map PyData.int)) ≤ 64 := by
    rw [PyData.depth]
    omega
  unfold SeqAt.shaped
  rw [PyData.canLay0, lay_ints ns, decide_eq_true h3]
  rfl
structure TxtD (K : PySem.W.Frag) (mg : Str → Option Value) (fM : Addr) : Prop extends TxtB mg where
  mix : mg "_law_mixed" = some (.ref fM)
theorem ok_drw {f fM : Addr} {fd fdM : FuncData} (F : Fun K "_law_draw" "_law_draw" sDrw f fd) (T : TxtD K mg fM) (FM : Fun K "_law_mixed" "_law_mixed" sMix fM fdM) (bM : Binds K fdM ["cell", "n"] []) : FnOk P w K mg base CX0 2 f fd ["m", "limit"] spDrw := by
  have GM : FnOk P w K mg base CX0 1 fM fdM ["cell", "n"] spMix := ok_mix FM T.toTxtB
  refine F.ok scD (fun vs H Q E h => ?_) (fun cdv A outer s H vs Q E hr h => ?_)
  · obtain ⟨m, g, lim, b, rfl, _⟩ := h
    rfl
  · obtain ⟨m, g, lim, b, rfl, l0, l1, hb, M, q⟩ := h
    have hu := hu_of hr
    have hr1 : Room 1 _ := hr.mono (by decide)
    obtain ⟨c, cs, gs, n, hm, hc, lc, hg, lg, hn⟩ := M.ex
    have nmc : m ≠ c := ne_of hm hc (by intro z; cases z)
    have nmg : m ≠ g := ne_of hm hg (by intro z; cases z)
    have ncg : c ≠ g := fun z => by
      subst z
      have e2 : iL cs = iL gs := HO.lst.inj (Option.some.inj (hc.symm.trans hg))
      have e3 := congrArg List.length e2
      simp only [List.length_map] at e3
      omega
    refine ⟨_, (pss_cons (ps_set (i := 2) scD.nd rfl (Or.inl rfl) (pe_dget hu (pv 0) pe_str (fun _ _ => rfl))) (pss_cons (ps_dput hu (pv 0) pe_str (pe_op op_add (pv 2) pe_int) rfl) (pss_cons (ps_if (pt_cmpR (op_neD hr.units) (pe_dget hu (pv 0) pe_str (fun _ _ => rfl)) (pe_lst pa_nil) (nomark _)) (pss_cons (ps_set (i := 3) scD.nd rfl (Or.inl rfl) (pe_dget hu (pv 0) pe_str (fun _ _ => rfl))) (pss_cons (ps_set (i := 4) scD.nd rfl (Or.inl rfl) (pe_op op_mod (pe_callTy call_int1 (by rfl) T.int bt_int (pa_cons (pv 2) pa_nil)) (pe_callB call_len_seq (by rfl) T.len PySem.boot_len (pa_cons (pv 3) pa_nil)))) (pss_cons (ps_set (i := 5) scD.nd rfl (Or.inl rfl) (pe_ix ix_list (pv 3) (pv 4) (fun _ _ => rfl))) (pss_one (ps_if (pt_cmpR op_gt (pv 5) pe_int (nomark _)) (pss_cons (ps_asg (pe_op op_fdivN (pv 5) (pv 1)) (pg_sub (pv 3) (pv 4) set_list)) (pss_one (ps_ret (pe_op op_mod (pe_callTy call_int1 (by rfl) T.int bt_int (pa_cons (pv 5) pa_nil)) (pv 1))))) pss_nil))))) pss_nil) (pss_cons (ps_set (i := 3) scD.nd rfl (Or.inl rfl) (pe_dget hu (pv 0) pe_str (fun _ _ => rfl))) (pss_one (ps_ret (pe_op op_mod (pe_callTy call_int1 (by rfl) T.int bt_int (pa_cons (pe_call GM hr1 (by rfl) T.mix FM.kp bM .nil pass0 (pa_cons (pe_call GM hr1 (by rfl) T.mix FM.kp bM .nil pass0 (pa_cons (pe_op op_add (pe_ix ix_list (pv 3) (pe_op op_mod (pe_callTy call_int1 (by rfl) T.int bt_int (pa_cons (pv 2) pa_nil)) pe_int) (fun _ _ => rfl)) (pe_op op_mul pe_int (pe_op op_fdiv (pv 2) pe_int))) (pa_cons (pv 2) pa_nil))) (pa_cons (pe_op op_add (pv 2) pe_int) pa_nil))) pa_nil)) (pv 1)))))))), ?_⟩
    -- n = m['spot']; m['spot'] = n + 1
    refine ⟨_, rfl, m, _, rfl, DGet.k (k := kSp) hm, ?_⟩
    refine ⟨_, rfl, _, _, rfl, rfl, _, rfl, m, _, rfl, DPut.k (k := kSp) hm (by show 3 < sizeLine; decide), ?_⟩
    rw [put_sp]
    have hm1 : (upd H m (.dK (mkM c g ((n : Int) + 1)))) m = some (.dK (mkM c g ((n : Int) + 1))) := upd_same
    have hc1 : (upd H m (.dK (mkM c g ((n : Int) + 1)))) c = some (.lst (iL cs)) := by rw [upd_ne nmc.symm]; exact hc
    have hg1 : (upd H m (.dK (mkM c g ((n : Int) + 1)))) g = some (.lst (iL gs)) := by rw [upd_ne nmg.symm]; exact hg
    have k1 : ∀ b o, H b = some o → b ≠ m → (upd H m (.dK (mkM c g ((n : Int) + 1)))) b = some o := fun b o e h => by rw [upd_ne h]; exact e
    revert hm1 hc1 hg1 k1
    generalize upd H m (.dK (mkM c g ((n : Int) + 1))) = H1
    intro hm1 hc1 hg1 k1
    -- if m['great'] != []
    refine ⟨_, rfl, m, _, rfl, DGet.k (k := kGr) hm1, (by show 0 ≤ sizeLine; decide), fun p np => ?_⟩
    have k2 : Same H1 (upd H1 p (.lst [])) := same_new np
    have hm2 := k2 _ _ hm1
    have hc2 := k2 _ _ hc1
    have hg2 := k2 _ _ hg1
    have hp2 : (upd H1 p (.lst [])) p = some (.lst []) := upd_same
    have k3 : ∀ b o, H b = some o → b ≠ m → (upd H1 p (.lst [])) b = some o := fun b o e h => k2 b o (k1 b o e h)
    revert hm2 hc2 hg2 hp2 k3
    generalize upd H1 p (.lst []) = H2
    intro hm2 hc2 hg2 hp2 k3
    refine ⟨_, _, .lst (.inl (.inl hg2)) (dp_iL gs), .lst (.inl (.inl hp2)) .nil, shaped_ints gs, rfl, _, rfl, ?_⟩
    -- lot = m['cells'], and the rest: whichever way it is reached
    have mat : ∀ (H3 : Hp) (gs' : List Int), H3 m = some (.dK (mkM c g ((n : Int) + 1))) → H3 c = some (.lst (iL cs)) → H3 g = some (.lst (iL gs')) → gs'.length ≤ 63 → MAt H3 m g (b + 1) := fun H3 gs' e1 e2 e3 e4 => ⟨c, cs, gs', n + 1, e1, e2, lc, e3, e4, by omega⟩
    have fin : ∀ z : Int, 0 ≤ z % lim ∧ z % lim < lim := fun z => ⟨Int.emod_nonneg _ (by omega), Int.emod_lt_of_pos _ l0⟩
    cases gs with
    | cons z gs =>
      have hl1 : n % (gs.length + 1) < (z :: gs).length := by
        rw [List.length_cons]
        exact Nat.mod_lt _ (Nat.succ_pos _)
      have elen : ((iL (z :: gs)).length : Int) = ((gs.length + 1 : Nat) : Int) := by rw [List.length_map, List.length_cons]
      refine ⟨_, rfl, m, _, rfl, DGet.k (k := kGr) hm2, ?_⟩
      refine ⟨_, rfl, .inl ⟨_, rfl, _, rfl, g, _, rfl, .inl (.inl (.inl hg2)), _, _, rfl, rfl, (by show (0 : Int) < ((iL (z :: gs)).length : Int); rw [elen]; omega), ?_⟩⟩
      refine ⟨_, rfl, _, rfl, g, _, _, .int (z :: gs)[n % (gs.length + 1)], rfl, rfl, .inl (.inl hg2), iL_at (j := n % (gs.length + 1)) (by rw [elen]; exact (Int.natCast_emod n (gs.length + 1)).symm) hl1, ?_⟩
      refine ⟨_, rfl, _, _, rfl, rfl, _, rfl, ite2 (fun cz => ?_) (fun cz => ?_)⟩
      · refine ⟨_, rfl, _, rfl, _, _, rfl, rfl, ⟨by omega, by omega⟩, _, rfl, _, rfl, g, _, _, n % (gs.length + 1), rfl, rfl, hg2, ix_at (by rw [elen]; exact (Int.natCast_emod n (gs.length + 1)).symm) (by rw [List.length_map]; exact hl1), ?_⟩
        refine ⟨_, rfl, .inl ⟨_, rfl, _, rfl, _, _, rfl, rfl, l0, ?_⟩⟩
        refine q _ _ (fin _).1 (fin _).2 (mat _ _ (by rw [upd_ne nmg]; exact hm2) (by rw [upd_ne ncg]; exact hc2) iL_put (by rw [List.length_set]; exact lg)) fun b o e h1 h2 => ?_
        rw [upd_ne h2]
        exact k3 b o e h1
      · have hj : n % 64 < cs.length := by omega
        refine ⟨_, rfl, m, _, rfl, DGet.k (k := kCe) hm2, ?_⟩
        refine ⟨_, rfl, _, rfl, .inl ⟨_, rfl, _, _, rfl, rfl, (by show (0 : Int) < 64; decide), c, iL cs, _, .int cs[n % 64], rfl, rfl, .inl (.inl hc2), iL_at (by omega) hj, ?_⟩⟩
        refine ⟨_, rfl, _, _, rfl, rfl, ⟨by decide, by decide⟩, _, _, rfl, rfl, .inl ⟨by decide, by decide⟩, _, _, rfl, rfl, _, rfl, ?_⟩
        refine ⟨_, _, rfl, by omega, by omega, fun r => ?_⟩
        refine ⟨_, rfl, _, _, rfl, rfl, ?_⟩
        refine ⟨_, _, rfl, by omega, by omega, fun r2 => .inl ⟨_, rfl, ?_⟩⟩
        refine ⟨_, rfl, _, _, rfl, rfl, l0, ?_⟩
        exact q _ _ (fin _).1 (fin _).2 (mat _ _ hm2 hc2 hg2 lg) fun b o e h1 h2 => k3 b o e h1
    | nil =>
      have hj : n % 64 < cs.length := by omega
      refine ⟨_, rfl, m, _, rfl, DGet.k (k := kCe) hm2, ?_⟩
      refine ⟨_, rfl, _, rfl, .inl ⟨_, rfl, _, _, rfl, rfl, (by show (0 : Int) < 64; decide), c, iL cs, _, .int cs[n % 64], rfl, rfl, .inl (.inl hc2), iL_at (by omega) hj, ?_⟩⟩
      refine ⟨_, rfl, _, _, rfl, rfl, ⟨by decide, by decide⟩, _, _, rfl, rfl, .inl ⟨by decide, by decide⟩, _, _, rfl, rfl, _, rfl, ?_⟩
      refine ⟨_, _, rfl, by omega, by omega, fun r => ?_⟩
      refine ⟨_, rfl, _, _, rfl, rfl, ?_⟩
      refine ⟨_, _, rfl, by omega, by omega, fun r2 => .inl ⟨_, rfl, ?_⟩⟩
      refine ⟨_, rfl, _, _, rfl, rfl, l0, ?_⟩
      exact q _ _ (fin _).1 (fin _).2 (mat _ _ hm2 hc2 hg2 lg) fun b o e h1 h2 => k3 b o e h1

/-! ### _law_begun -/
def spBeg (K : PySem.W.Frag) : Sp := fun vs H Q _ => ∃ (a : Addr) (ns : List Int), vs = [.ref a] ∧ SqL K H a (iL ns) ∧ ns.length ≤ 63 ∧
  ∀ (H' : Hp) (m g : Addr), Same H H' → MAt H' m g 0 → Q (.ref m) H'
structure TxtG (K : PySem.W.Frag) (mg : Str → Option Value) (fF : Addr) : Prop extends TxtB mg where
  fol : mg "_law_folded" = some (.ref fF)
theorem ok_beg {f fF : Addr} {fd fdF : FuncData} (F : Fun K "_law_begun" "_law_begun" sBeg f fd) (T : TxtG K mg fF) (FF : Fun K "_law_folded" "_law_folded" sFol fF fdF) (bF : Binds K fdF ["script"] []) : FnOk P w K mg base CX0 2 f fd ["script"] (spBeg K) := by
  have GF : FnOk P w K mg base CX0 1 fF fdF ["script"] (spFol K) := ok_fol FF T.toTxtB
  refine F.ok scB (fun vs H Q E h => ?_) (fun cdv A outer s H vs Q E hr h => ?_)
  · obtain ⟨a, ns, rfl, _⟩ := h
    rfl
  · obtain ⟨a, ns, rfl, hS, hlen, q⟩ := h
    have hu := hu_of hr
    have hr1 : Room 1 _ := hr.mono (by decide)
    refine ⟨_, (pss_cons (ps_set (i := 1) scB.nd rfl (Or.inl rfl) (pe_disp (pps_cons pe_str (pe_call GF hr1 (by rfl) T.fol FF.kp bF .nil pass0 (pa_cons (pv 0) pa_nil)) (pps_cons pe_str (pe_lst pa_nil) (pps_cons pe_str pe_int pps_nil))) (by rfl) (by rfl) (fun z => by cases z) (by decide))) (pss_cons (ps_dput hu (pv 1) pe_str (pe_lc (own := [("cell", 2)]) (tt := tYes) rfl scB.nd (pi_list (pv 0)) (blkOk_by (own := [("cell", 2)]) (N := ["script", "m", "cell"]) (sc := defScope sBeg) (by decide +kernel)) (fun _ _ _ _ _ => (pg_name (i := 2) scB.nd rfl (Or.inl rfl))) (fun _ _ _ _ _ => pts_nil) (fun _ _ _ _ _ => (pe_ifExp (pt_cmpR op_ge (pv 2) (pe_op op_pow pe_int pe_int) (nomark _)) (pv 2) pe_int))) rfl) (pss_one (ps_ret (pv 1))))), ?_⟩
    intro m nm
    have s0 : Same H (upd H m (.dK [])) := same_new nm
    refine ⟨_, rfl, a, ns, rfl, s0.seq hS, hlen, fun H1 c cs s1 nc hc lc => ⟨(by show 0 ≤ sizeLine; decide), fun g0 ng0 => ?_⟩⟩
    have s2 : Same H1 (upd H1 g0 (.lst [])) := same_new ng0
    have hm1 : H1 m = some (.dK []) := s1 _ _ upd_same
    have nmc : c ≠ m := ne_of hc hm1 (by intro z; cases z)
    refine ⟨s2 _ _ hm1, mkM c g0 0, rfl, (by show 3 ≤ 15; decide), ?_⟩
    have hm3 : (upd (upd H1 g0 (.lst [])) m (.dK (mergeK [] (mkM c g0 0)))) m = some (.dK (mkM c g0 0)) := by rw [upd_same, merge_m]
    have hc3 : (upd (upd H1 g0 (.lst [])) m (.dK (mergeK [] (mkM c g0 0)))) c = some (.lst (iL cs)) := by rw [upd_ne nmc]; exact s2 _ _ hc
    have s3 : Same H (upd (upd H1 g0 (.lst [])) m (.dK (mergeK [] (mkM c g0 0)))) := fun b o e => by
      rw [upd_ne (ne_of_none e nm)]
      exact s2 _ _ (s1 _ _ (s0 _ _ e))
    revert hm3 hc3 s3
    generalize upd (upd H1 g0 (.lst [])) m (.dK (mergeK [] (mkM c g0 0))) = H3
    intro hm3 hc3 s3
    refine ⟨_, rfl, a, rfl, ⟨_, s3.seq hS⟩, fun D nD => lc_list (K := K) (a := a) (xs := iL ns) (fun i H4 => ∃ gs : List Int, gs.length = i ∧ H4 D = some (.lst (iL gs)) ∧ Same H3 H4) ⟨[], rfl, upd_same, same_new nD⟩ (fun i H4 _ ⟨_, _, _, sm⟩ => sm.seq (s3.seq hS)) ?_ ?_⟩
    · rintro i x H4 hi ⟨gs, hl, hD, sm⟩
      have hin : i < ns.length := by
        have h := (List.getElem?_eq_some_iff.mp hi).1
        rw [List.length_map] at h
        exact h
      obtain rfl : x = .int ns[i] := Option.some.inj (hi.symm.trans (iL_get hin))
      have step : ∀ z : Int, ∃ acc : List V, H4 D = some (.lst acc) ∧ acc.length < sizeLine ∧ ∃ gs : List Int, gs.length = i + 1 ∧ (upd H4 D (.lst (acc ++ [V.int z]))) D = some (.lst (iL gs)) ∧ Same H3 (upd H4 D (.lst (acc ++ [V.int z]))) := fun z =>
        ⟨_, hD, by rw [List.length_map]; exact small1000 (by omega), gs ++ [z], by rw [List.length_append, hl]; rfl, by rw [upd_same, iL_app], fun b o e => by rw [upd_ne (ne_of_none e nD)]; exact sm b o e⟩
      refine ⟨rfl, ?_⟩
      refine ⟨_, rfl, _, _, rfl, rfl, ⟨by decide, by decide, by decide⟩, _, _, rfl, rfl, _, rfl, ite2 (fun _ => ?_) (fun _ => ?_)⟩
      · exact ⟨_, rfl, step _⟩
      · exact step 0
    · rintro H4 ⟨gs, hl, hD, sm⟩
      rw [List.length_map] at hl
      have hm4 := sm _ _ hm3
      have nDm : D ≠ m := ne_of hD hm4 (by intro z; cases z)
      refine ⟨_, rfl, m, _, rfl, DPut.k (k := kGr) hm4 (by show 3 < sizeLine; decide), _, rfl, ?_⟩
      rw [put_gr]
      refine q _ m D (fun b o e => ?_) ⟨c, cs, gs, 0, upd_same, by rw [upd_ne nmc]; exact sm _ _ hc3, lc, by rw [upd_ne nDm]; exact hD, by omega, Nat.le_refl _⟩
      rw [upd_ne (ne_of_none e nm)]
      exact sm _ _ (s3 _ _ e)
end
end Up

/-! the checks of values, over data of any kind -/
namespace Up
open PySem PySem.Spec PyProof.Rows L2
abbrev s_is_whole : Stmt := (topS 2)
abbrev s_is_index : Stmt := (topS 3)
abbrev s_is_listing : Stmt := (topS 4)
abbrev s_is_couple : Stmt := (topS 5)
abbrev s_is_doing : Stmt := (topS 6)
theorem sc_is_whole : FnScope ["value"] ["value"] (defScope s_is_whole) := ⟨rfl, rfl, rfl, by decide +kernel, rfl, by decide +kernel, by decide +kernel⟩
theorem sc_is_index : FnScope ["value", "many"] ["value", "many"] (defScope s_is_index) := ⟨rfl, rfl, rfl, by decide +kernel, rfl, by decide +kernel, by decide +kernel⟩
theorem sc_is_listing : FnScope ["value", "most"] ["value", "most"] (defScope s_is_listing) := ⟨rfl, rfl, rfl, by decide +kernel, rfl, by decide +kernel, by decide +kernel⟩
theorem sc_is_couple : FnScope ["value"] ["value"] (defScope s_is_couple) := ⟨rfl, rfl, rfl, by decide +kernel, rfl, by decide +kernel, by decide +kernel⟩
theorem sc_is_doing : FnScope ["value", "many", "word", "letter"] ["value", "many"] (defScope s_is_doing) := ⟨rfl, rfl, rfl, by decide +kernel, rfl, by decide +kernel, by decide +kernel⟩
/-- what a passed value may be: None, a bool, an int, a text, a list, a tuple, a dict -/
inductive Kd (H : Hp) : V → Type where
  | non : Kd H .non
  | bl (b : Bool) : Kd H (.bl b)
  | int (i : Int) : Kd H (.int i)
  | str (x : Str) : Kd H (.str x)
  | lst (a : Addr) (xs : List V) (h : H a = some (.lst xs)) : Kd H (.ref a)
  | tup (a : Addr) (xs : List V) (h : H a = some (.tup xs)) : Kd H (.ref a)
  | dct (a : Addr) (kvs : List (Key × V)) (h : H a = some (.dK kvs)) : Kd H (.ref a)
def Kd.ty {H : Hp} {v : V} : Kd H v → String
  | .non => "NoneType"
  | .bl _ => "bool"
  | .int _ => "int"
  | .str _ => "str"
  | .lst .. => "list"
  | .tup .. => "tuple"
  | .dct .. => "dict"
theorem Kd.tyx {K : PySem.W.Frag} {H : Hp} {v : V} (k : Kd H v) : TyX K H v (.type k.ty) := by
  cases k with
  | non => exact .base .non
  | bl b => exact .base (.bl b)
  | int i => exact .base (.int i)
  | str x => exact .base (.str x)
  | lst a xs h => exact .base (.lst h)
  | tup a xs h => exact .base (.tup h)
  | dct a kvs h => exact .base (.dK h)
def Kd.is {H : Hp} {v : V} (k : Kd H v) (t : String) : Bool := (kitB k.ty t).getD false
theorem Kd.kit {K : PySem.W.Frag} {H : Hp} {v : V} (k : Kd H v) {t : String} (ht : t ∈ ["int", "bool", "str", "list", "tuple"]) : PySem.W.kitOne K (.type k.ty) (.type t) = some (k.is t) := by
  simp only [List.mem_cons, List.not_mem_nil, or_false] at ht
  refine kit_ty ?_
  unfold Kd.is
  cases k <;> rcases ht with rfl | rfl | rfl | rfl | rfl <;> (dsimp only [Kd.ty]; decide +kernel)
theorem Kd.same {H H' : Hp} {v : V} (k : Kd H v) (s : Same H H') : Nonempty (Kd H' v) := by
  cases k with
  | non => exact ⟨.non⟩
  | bl b => exact ⟨.bl b⟩
  | int i => exact ⟨.int i⟩
  | str x => exact ⟨.str x⟩
  | lst a xs h => exact ⟨.lst a xs (s _ _ h)⟩
  | tup a xs h => exact ⟨.tup a xs (s _ _ h)⟩
  | dct a kvs h => exact ⟨.dct a kvs (s _ _ h)⟩
/-- the built-in names that the program's checks use -/
structure TxtC (mg : Str → Option Value) : Prop extends TxtB mg where
  isinstance : mg "isinstance" = none
  bool : mg "bool" = none
  str : mg "str" = none
  list : mg "list" = none
  tuple : mg "tuple" = none
/-- an integer as the program counts -/
def wholeV : V → Bool
  | .int _ => true
  | _ => false
def spWhole : Sp := fun vs H Q _ => ∃ (v : V) (k : Kd H v), vs = [v] ∧ Q (.bl (wholeV v)) H
section
variable {P : Program} {w : World} {K : PySem.W.Frag} {mg : Str → Option Value} {base : Heap}
theorem ok_whole {f : Addr} {fd : FuncData} (F : Fun K "is_whole" "is_whole" s_is_whole f fd) (T : TxtC mg) : FnOk P w K mg base CX0 1 f fd ["value"] spWhole := by
  refine F.ok sc_is_whole (fun vs H Q E h => ?_) (fun cdv A outer s H vs Q E hr h => ?_)
  · obtain ⟨v, k, rfl, _⟩ := h
    rfl
  · obtain ⟨v, k, rfl, q⟩ := h
    refine ⟨_, (pss_one (ps_ret (pe_and (pe_callB call_isi (by rfl) T.isinstance bb_isinstance (pa_cons (pv 0) (pa_cons (pe_bltn (v := .ty "int") (by rfl) T.int bt_int rfl) pa_nil))) (pe_one (pe_not (pe_callB call_isi (by rfl) T.isinstance bb_isinstance (pa_cons (pv 0) (pa_cons (pe_bltn (v := .ty "bool") (by rfl) T.bool bt_bool rfl) pa_nil)))))))), ?_⟩
    refine ⟨_, rfl, v, .ty "int", _, _, _, rfl, .ty _, k.tyx, k.kit (by decide), _, rfl, ?_⟩
    have e1 : (if k.is "int" = true then Q (.bl (!k.is "bool")) H else Q (.bl false) H) := by
      cases k <;> exact q
    by_cases c : k.is "int" = true
    · rw [if_pos c] at e1 ⊢
      exact ⟨_, rfl, v, .ty "bool", _, _, _, rfl, .ty _, k.tyx, k.kit (by decide), _, rfl, e1⟩
    · rw [if_neg c] at e1 ⊢
      exact e1
/-- is_index(value, many): an integer from 0 to many - 1 -/
def indexV (v : V) (many : Int) : Bool := match v with
  | .int i => decide (0 ≤ i) && decide (i < many)
  | _ => false
def spIndex : Sp := fun vs H Q _ => ∃ (v : V) (k : Kd H v) (many : Int), vs = [v, .int many] ∧ Q (.bl (indexV v many)) H
structure TxtI (K : PySem.W.Frag) (mg : Str → Option Value) (fW : Addr) : Prop extends TxtC mg where
  g_is_whole : mg "is_whole" = some (.ref fW)
theorem ok_index {f fW : Addr} {fd fdW : FuncData} (F : Fun K "is_index" "is_index" s_is_index f fd) (T : TxtI K mg fW) (F_is_whole : Fun K "is_whole" "is_whole" s_is_whole fW fdW) (b_is_whole : Binds K fdW ["value"] []) : FnOk P w K mg base CX0 2 f fd ["value", "many"] spIndex := by
  have G_is_whole : FnOk P w K mg base CX0 1 fW fdW ["value"] spWhole := ok_whole F_is_whole T.toTxtC
  refine F.ok sc_is_index (fun vs H Q E h => ?_) (fun cdv A outer s H vs Q E hr h => ?_)
  · obtain ⟨v, k, many, rfl, _⟩ := h
    rfl
  · obtain ⟨v, k, many, rfl, q⟩ := h
    have hr_is_whole : Room 1 _ := hr.mono (by decide)
    refine ⟨_, (pss_one (ps_ret (pe_and (pe_call G_is_whole hr_is_whole (by rfl) T.g_is_whole F_is_whole.kp b_is_whole .nil pass0 (pa_cons (pv 0) pa_nil)) (pe_one (pe_chain op_le op_lt pe_int (pv 0) (pv 1)))))), ?_⟩
    refine ⟨_, rfl, v, k, rfl, _, rfl, ?_⟩
    cases k with
    | int i =>
      refine ⟨_, rfl, _, _, rfl, rfl, _, rfl, ?_⟩
      by_cases c : 0 ≤ i
      · rw [decide_eq_true c]
        refine ⟨_, rfl, _, _, rfl, rfl, ?_⟩
        have e : indexV (.int i) many = decide (i < many) := by
          show (decide (0 ≤ i) && decide (i < many)) = _
          rw [decide_eq_true c]
          rfl
        show Q (.bl (decide (i < many))) H
        rw [← e]
        exact q
      · rw [decide_eq_false c]
        have e : indexV (.int i) many = false := by
          show (decide (0 ≤ i) && decide (i < many)) = _
          rw [decide_eq_false c]
          rfl
        rw [e] at q
        exact q
    | _ => exact q
/-- a tuple of two, as it stands in the heap -/
def Kd.couple {H : Hp} {v : V} : Kd H v → Option (V × V)
  | .tup _ [x, y] _ => some (x, y)
  | _ => none
def spCouple : Sp := fun vs H Q _ => ∃ (v : V) (k : Kd H v), vs = [v] ∧ Q (.bl k.couple.isSome) H
theorem ok_couple {f : Addr} {fd : FuncData} (F : Fun K "is_couple" "is_couple" s_is_couple f fd) (T : TxtC mg) : FnOk P w K mg base CX0 1 f fd ["value"] spCouple := by
  refine F.ok sc_is_couple (fun vs H Q E h => ?_) (fun cdv A outer s H vs Q E hr h => ?_)
  · obtain ⟨v, k, rfl, _⟩ := h
    rfl
  · obtain ⟨v, k, rfl, q⟩ := h
    refine ⟨_, (pss_one (ps_ret (pe_and (pe_callB call_isi (by rfl) T.isinstance bb_isinstance (pa_cons (pv 0) (pa_cons (pe_bltn (v := .ty "tuple") (by rfl) T.tuple bt_tuple rfl) pa_nil))) (pe_one (pe_cmpR op_eq (pe_callB call_len_seq (by rfl) T.len PySem.boot_len (pa_cons (pv 0) pa_nil)) pe_int (nomark _)))))), ?_⟩
    refine ⟨_, rfl, v, .ty "tuple", _, _, _, rfl, .ty _, k.tyx, k.kit (by decide), _, rfl, ?_⟩
    cases k with
    | tup a xs h =>
      refine ⟨_, rfl, a, xs, rfl, .inr (.inl (.inl h)), rfl, ?_⟩
      match xs, h, q with
      | [], h, q => exact q
      | [_], h, q => exact q
      | [_, _], h, q => exact q
      | x :: y :: z :: r, h, q =>
        have e : decide (V.int ((x :: y :: z :: r).length : Int) = V.int 2) = false := by
          refine decide_eq_false fun c => ?_
          have c2 := V.int.inj c
          simp only [List.length_cons] at c2
          omega
        show Q (.bl (decide (V.int ((x :: y :: z :: r).length : Int) = V.int 2))) H
        rw [e]
        exact q
    | _ => exact q
/-- ("send", L) or ("get", L), L from 0 to many - 1 -/
def wordV (x : V) : Bool := match x with
  | .str z => inV (.str z) [.str "send", .str "get"]
  | _ => false
def Kd.doing {H : Hp} {v : V} (k : Kd H v) (many : Int) : Bool := match k.couple with
  | some (x, y) => wordV x && indexV y many
  | none => false
def spDoing : Sp := fun vs H Q _ => ∃ (v : V) (k : Kd H v) (many : Int), vs = [v, .int many] ∧ (∀ x y, k.couple = some (x, y) → Nonempty (Kd H x) ∧ Nonempty (Kd H y)) ∧ ∀ H', Same H H' → Q (.bl (k.doing many)) H'
structure TxtDo (K : PySem.W.Frag) (mg : Str → Option Value) (fC fI : Addr) : Prop extends TxtC mg where
  g_is_couple : mg "is_couple" = some (.ref fC)
  g_is_index : mg "is_index" = some (.ref fI)
theorem ok_doing {f fC fI : Addr} {fd fdC fdI : FuncData} (F : Fun K "is_doing" "is_doing" s_is_doing f fd) (T : TxtDo K mg fC fI) (F_is_couple : Fun K "is_couple" "is_couple" s_is_couple fC fdC) (b_is_couple : Binds K fdC ["value"] [])
    (F_is_index : Fun K "is_index" "is_index" s_is_index fI fdI) (b_is_index : Binds K fdI ["value", "many"] []) (G_is_index : FnOk P w K mg base CX0 2 fI fdI ["value", "many"] spIndex) : FnOk P w K mg base CX0 3 f fd ["value", "many"] spDoing := by
  have G_is_couple : FnOk P w K mg base CX0 1 fC fdC ["value"] spCouple := ok_couple F_is_couple T.toTxtC
  refine F.ok sc_is_doing (fun vs H Q E h => ?_) (fun cdv A outer s H vs Q E hr h => ?_)
  · obtain ⟨v, k, many, rfl, _⟩ := h
    rfl
  · obtain ⟨v, k, many, rfl, hk, q⟩ := h
    have hr_is_couple : Room 1 _ := hr.mono (by decide)
    have hr_is_index : Room 2 _ := hr.mono (by decide)
    refine ⟨_, (pss_cons (ps_if (pt_not (pt_val (pe_call G_is_couple hr_is_couple (by rfl) T.g_is_couple F_is_couple.kp b_is_couple .nil pass0 (pa_cons (pv 0) pa_nil)))) (pss_one (ps_ret pe_bl)) pss_nil) (pss_cons (ps_asg (pv 0) (pg_tup (by rfl) (pgs_cons (pg_name (i := 2) sc_is_doing.nd rfl (Or.inl rfl)) (pgs_cons (pg_name (i := 3) sc_is_doing.nd rfl (Or.inl rfl)) pgs_nil)))) (pss_one (ps_ret (pe_and (pe_callB call_isi (by rfl) T.isinstance bb_isinstance (pa_cons (pv 2) (pa_cons (pe_bltn (v := .ty "str") (by rfl) T.str bt_str rfl) pa_nil))) (pe_and (pe_cmpR op_in_seq (pv 2) (pe_tup (pa_cons pe_str (pa_cons pe_str pa_nil))) (by rfl)) (pe_one (pe_call G_is_index hr_is_index (by rfl) T.g_is_index F_is_index.kp b_is_index .nil pass0 (pa_cons (pv 3) (pa_cons (pv 1) pa_nil)))))))))), ?_⟩
    refine ⟨_, rfl, v, k, rfl, _, rfl, ?_⟩
    have q0 := q
    unfold Kd.doing at q
    cases e : k.couple with
    | none =>
      rw [e] at q
      exact q H (Same.refl H)
    | some p =>
      obtain ⟨x, y⟩ := p
      rw [e] at q
      obtain ⟨⟨kx⟩, ⟨ky⟩⟩ := hk x y e
      obtain ⟨a, rfl, ha⟩ : ∃ a, v = .ref a ∧ H a = some (.tup [x, y]) := by
        cases k with
        | tup a xs h =>
          match xs, h, e with
          | [x', y'], h, e =>
            have e2 := Option.some.inj e
            cases e2
            exact ⟨a, rfl, h⟩
        | _ => cases e
      refine ⟨_, rfl, a, [x, y], rfl, .inl (.inl ha), rfl, x, [y], rfl, y, [], rfl, rfl, ?_⟩
      refine ⟨_, rfl, x, .ty "str", _, _, _, rfl, .ty _, kx.tyx, kx.kit (by decide), _, rfl, ?_⟩
      cases kx with
      | str z =>
        refine ⟨_, rfl, (by show 2 ≤ sizeLine; decide), fun p np => ?_⟩
        have s1 : Same H (upd H p (.tup [.str "send", .str "get"])) := same_new np
        refine ⟨p, [.str "send", .str "get"], rfl, .inr (.inl (.inl upd_same)), rfl, rfl, _, rfl, ?_⟩
        obtain ⟨ky2⟩ := ky.same s1
        have q2 : Q (.bl (wordV (.str z) && indexV y many)) _ := q _ s1
        by_cases c : inV (.str z) [.str "send", .str "get"] = true
        · have e2 : wordV (.str z) = true := c
          rw [e2] at q2
          refine Eq.mpr (if_pos c) ?_
          exact ⟨_, rfl, _, rfl, y, ky2, many, rfl, q2⟩
        · have e3 : inV (.str z) [.str "send", .str "get"] = false := by simpa using c
          have e2 : wordV (.str z) = false := e3
          rw [e2] at q2
          exact Eq.mpr (if_neg c) q2
      | _ => exact q H (Same.refl H)
end
end Up

set_option Elab.async false
set_option linter.all false
set_option maxRecDepth 100000
set_option maxHeartbeats 4000000
/-! defs that are run where nothing is being shown (so that what they make may be shown), and what repr and max tell -/
namespace Up
open PySem PySem.Spec PyProof.Rows L2
/-- no repr is under way -/
def Quiet (A : Around) : Prop := A.guards = some []
/-- as FnOk, where no repr is under way -/
structure FnG (P : Program) (w : World) (K : PySem.W.Frag) (mg : Str → Option Value) (base : Heap) (CX : CXT) (k : Nat) (f : Addr) (fd : FuncData) (ps : List Str) (sp : Sp) : Prop where
  cnt : ∀ vs H Q E, sp vs H Q E → vs.length = ps.length
  go : ∀ (A : Around) (out : List Env) (st : Shared) (H : Hp) (ar : Args) (us : List Value) (vs : List V) (Q : VK) (E : XK), Quiet A → Room k A → Env0 P w K mg base A out st H → BindsTo st fd ar (ps.zip us) → Vals vs us → sp vs H Q E →
    codeAny (model P w) A (.call (.ref f) ar) (CR CX out P w H st Q E) st
theorem FnG.of {P : Program} {w : World} {K : PySem.W.Frag} {mg : Str → Option Value} {base : Heap} {CX : CXT} {k : Nat} {f : Addr} {fd : FuncData} {ps : List Str} {sp : Sp} (F : FnOk P w K mg base CX k f fd ps sp) : FnG P w K mg base CX k f fd ps sp :=
  ⟨F.len, fun A out st H ar us vs Q E _ => F.run A out st H ar us vs Q E⟩
section
variable {X : Cx} {CX : CXT} {k : Nat} {f : Addr} {fd : FuncData} {ps : List Str} {sp : Sp} {dvs : List V} {ds : List Value} {E : XK} {x : Str} {p pos : Pos} {e : Expr} {es : List Expr} {t : TA}
theorem runG {pins : List (Addr × Obj)} {σ : L2.St} {H : Hp} {st : Shared} {Q : VK} {us : List Value} {vs : List V} (hQ : Quiet X.A) (F : FnG X.prog X.w X.K X.mg X.base CX k f fd ps sp) (hr : Room k X.A) (hb : Binds X.K fd ps ds) (hd : Vals dvs ds) (hx : Passes CX X E)
    (I : Inv X pins σ H st) (rv : Vals vs us) (h : sp (vs ++ dvs) H Q E) : wpAny (model X.prog X.w) X.A (call (.ref f) us) (EP X pins σ Q) X.xe st := by
  have rw2 : Vals (vs ++ dvs) (us ++ ds) := rv.append hd
  have ln : (us ++ ds).length = ps.length := rw2.length.symm.trans (F.cnt _ _ _ _ h)
  refine wpAny_call (codeAny_mono (F.go X.A X.stack st H ⟨us, []⟩ (us ++ ds) (vs ++ dvs) Q E hQ hr I.env0 (hb st us I.kIn ln) rw2 h) fun res st2 hq => ?_)
  match res, hq with
  | .error er, hq => exact hx pins σ H st er st2 I hq
  | .ok (.ret u), hq => exact I.after hq
/-- f(..), f a def that is to run where no repr is under way -/
theorem pe_callG (hQ : Quiet X.A) (F : FnG X.prog X.w X.K X.mg X.base CX k f fd ps sp) (hr : Room k X.A) (hg : Gl X x) (hm : X.mg x = some (.ref f)) (hk : PySem.W.keepIn X.K (.ref f) = true) (hb : Binds X.K fd ps ds) (hd : Vals dvs ds) (hx : Passes CX X E)
    (ha : PA X (e :: es) t) (hdb : (x == ("__debug__" : Str)) = false := by decide) (he : starEach (e :: es) X.env = (false, eval e X.env) :: starEach es X.env := by rfl) (hpl : (backTo pos (starEach es X.env)).any (·.1) = false := by rfl) :
    PE X (.Call (.Name x p) (e :: es) [] pos) (tCall sp dvs E t) := by
  refine ⟨fun pins st σ H Q I hh => ?_⟩
  refine wpAny_Call_Name_kw (ld_glob I hg hm ?_ hdb)
  exact PySem.W.callWith_K (h₀ := X.base) I.ok.mod.kin hk (thn (ha.run pos pins st σ H _ I hh) fun us st1 ⟨vs, H1, I1, rv, q⟩ => ⟨I1.kIn, runG hQ F hr hb hd hx I1 rv q⟩) he hpl
end
/-- a def's body, where no repr is under way -/
theorem fn_ofG {CX : CXT} {P : Program} {w : World} {K : PySem.W.Frag} {mg : Str → Option Value} {base : Heap} {k : Nat} {f : Addr} {nm qual : Str} {params : Arguments} {body : List Stmt} {sc : Scope} {dV kV doc pm cdv ct oc : Value} {an od : Option Addr}
    {osl : Array (Option Value)} {N ps : List Str} {sp : Sp} (lk : K.lookup f = some ⟨oc, od, .func (PySem.W.fnOf nm qual params body sc dV kV doc pm an cdv ct), osl⟩) (hcd : PySem.W.codeIn K cdv qual = true) (S : FnScope N ps sc)
    (cnt : ∀ vs H Q E, sp vs H Q E → vs.length = ps.length)
    (hbody : ∀ (A : Around) (out : List Env) (st : Shared) (H : Hp) (vs : List V) (Q : VK) (E : XK), Quiet (A.deeper (envOfC qual sc st.heap.objs.size f cdv)) → Room k (A.deeper (envOfC qual sc st.heap.objs.size f cdv)) → sp vs H Q E →
      ∃ t, PSs (cxOf CX P w K mg base N qual sc f cdv A out st H E) body t ∧ t { nx := fun _ H' => Q .non H', rt := Q } (start N vs) H) :
    FnG P w K mg base CX (k + 1) f (PySem.W.fnOf nm qual params body sc dV kV doc pm an cdv ct) ps sp := by
  refine ⟨cnt, fun A out st H ar us vs Q E hQ hr e0 hb rv hsp => ?_⟩
  have ln := cnt _ _ _ _ hsp
  have KX : K.In st.heap := e0.mod.kin.keeps fun b o e => (e0.bs b o e).1
  have nl : st.heap.NoLimit := e0.mod.nolimit.keeps fun b o e => (e0.bs b o e).1
  have kinds : ∀ y ∈ ps.zip us, sc.names.lookup y.1 = some .local ∨ (sc.names.lookup y.1 = some .cell ∧ ((cellsFrom (st.heap.objs.size + 1) sc.names []).lookup y.1).isSome = true) := fun ⟨n, v⟩ hy =>
    (S.par n (List.of_mem_zip hy).1).imp id fun q => ⟨q, PySem.W.cellsFrom_some _ _ _ (.inl q)⟩
  refine codeAny_call_function hr.depth (KX _ _ lk) rfl S.co S.gen rfl (PySem.W.codeRec_of KX hcd) (hb _ _ _ _ (wpAny_newFunctionEnv_cells S.kind kinds fun env he s1 xc => ?_))
  subst he
  obtain ⟨t, ht, hq⟩ := hbody A out st H vs Q E hQ (hr.deeper _) hsp
  have I : Inv (cxOf CX P w K mg base N qual sc f cdv A out st H E) [] (start N vs) H s1 := inv_start S hr.hd e0 ln rv xc
  refine ⟨nl.keeps xc.toInCall.keep, codeAny_func (wpAny_mono (ht.run [] s1 (start N vs) H _ I hq) (fun fl s' hs => ?_) fun _ _ z => z)⟩
  match fl, hs with
  | .ret u, ⟨v, σ', H', J, rv', q⟩ => exact ⟨v, H', J.os, J.bare, J.base, J.hok, rv', q⟩
  | .next, ⟨σ', H', J, q⟩ => exact ⟨V.non, H', J.os, J.bare, J.base, J.hok, rfl, q⟩
  | .brk, ⟨_, _, _, q⟩ => exact q.elim
  | .cont, ⟨_, _, _, q⟩ => exact q.elim
section
variable {P : Program} {w : World} {K : PySem.W.Frag} {mg : Str → Option Value} {base : Heap}
theorem okG {x qual : Str} {st : Stmt} {f : Addr} {fd : FuncData} {N ps : List Str} {k : Nat} {sp : Sp} (F : Fun K x qual st f fd) (S : FnScope N ps (defScope st)) (cnt : ∀ vs H Q E, sp vs H Q E → vs.length = ps.length)
    (hbody : ∀ (cdv : Value) (A : Around) (out : List Env) (s : Shared) (H : Hp) (vs : List V) (Q : VK) (E : XK), Quiet (A.deeper (envOfC qual (defScope st) s.heap.objs.size f cdv)) → Room k (A.deeper (envOfC qual (defScope st) s.heap.objs.size f cdv)) → sp vs H Q E →
      ∃ t, PSs (cxOf CX0 P w K mg base N qual (defScope st) f cdv A out s H E).nox (defBody st) t ∧ t { nx := fun _ H' => Q .non H', rt := Q } (start N vs) H) : FnG P w K mg base CX0 (k + 1) f fd ps sp := by
  obtain ⟨oc, od, kV, doc, pm, an, cdv, ct, osl, rfl, lk, hcd⟩ := F.ex
  refine fn_ofG lk hcd S cnt fun A out s H vs Q E hQ hr hsp => ?_
  obtain ⟨t, h, q⟩ := hbody cdv A out s H vs Q E hQ hr hsp
  exact ⟨t, h.nox, q⟩
end
/-! ### the law's end, where no repr is under way -/
theorem quiet_top : Quiet callerA := rfl
theorem law_callG {P : Program} {w : World} {K : PySem.W.Frag} {mg mb : Str → Option Value} {k : Nat} {fa a : Addr} {fd : FuncData} {x : Str} {sp : Sp} {s0 : Shared} {vs : List Value} {ns : List Int}
    (KX : K.In s0.heap) (hns : s0.heap.Ns mainGlobals mg) (hb : s0.heap.Ns builtinsNs mb) (hbb : ∀ y : Str, y ≠ "__name__" → mb y = bootBuiltins y) (hlim : s0.heap.NoLimit) (hg : s0.gens = #[])
    (ha : s0.heap.get? a = some { cls := .type "list", data := .seq vs.toArray }) (hi : IntsAre vs ns) (hl : ns.length ≤ sizeLine) (hr : Room k callerA)
    (F : ∀ base : Heap, K.In base → base.Ns mainGlobals mg → FnG P w K mg base CX0 k fa fd [x] sp) (hbind : ∀ (st : Shared) (u : Value), BindsTo st fd ⟨[u], []⟩ [(x, u)])
    (hsp : ∀ H : Hp, SqL K H a (ns.map V.int) → sp [.ref a] H (fun v _ => v = .bl true) fun _ _ _ => False) :
    codeAny (model P w) callerA (.call (.ref fa) ⟨[.ref a], []⟩) (fun res s' => res = .ok (.ret (.bool true)) ∧ OldK s0.heap s'.heap ∧ s'.os = s0.os ∧ AllBare s'.gens) s0 := by
  have rv := vals_ints hi
  have lnV := hi.length
  have mid : ∀ H : Hp, Only H → SqL K H a (ns.map V.int) → HOk P w H s0.heap → (∀ b, H b ≠ none → b = a) → (H a ≠ none → K.lookup a = none) →
      codeAny (model P w) callerA (.call (.ref fa) ⟨[.ref a], []⟩) (fun res s' => res = .ok (.ret (.bool true)) ∧ OldK s0.heap s'.heap ∧ s'.os = s0.os ∧ AllBare s'.gens) s0 := by
    intro H hO hS hok hA hK
    have toBase : ∀ {b : Addr} {o : Obj}, s0.heap.get? b = some o → H b = none → (hidT s0.heap H).get? b = some o := fun e n => hidT_get e n
    have noDict : ∀ {b : Addr} {o : Obj} {es : Array DictEntry} {ep : Nat}, s0.heap.get? b = some o → o.data = .dict es ep → H b = none := fun {b o es ep} e d => by
      cases t : H b with
      | none => rfl
      | some u =>
        obtain rfl : b = a := hA b (by rw [t]; simp)
        cases e.symm.trans ha
        exact nomatch (show Data.seq vs.toArray _ = Data.dict es ep from d)
    have nsB : ∀ {b : Addr} {m : Str → Option Value}, s0.heap.Ns b m → (hidT s0.heap H).Ns b m := fun {b m} ⟨o, es, ep, e, d, r⟩ => ⟨o, es, ep, toBase e (noDict e d), d, r⟩
    have kinB : K.In (hidT s0.heap H) := fun b o e => toBase (KX b o e) (by
      cases t : H b with
      | none => rfl
      | some u =>
        obtain rfl : b = a := hA b (by rw [t]; simp)
        cases e.symm.trans (hK (by rw [t]; simp)))
    have modB : Mod K mg (hidT s0.heap H) := ⟨kinB, nsB hns, ⟨mb, nsB hb, hbb⟩, let ⟨mc, h1, h2⟩ := hlim; ⟨mc, nsB h1, h2⟩⟩
    have e0 : Env0 P w K mg (hidT s0.heap H) callerA [] s0 H := ⟨rfl, modB, fun b o e => of_hidT e, Nat.le_of_eq (hidT_size _ _), trivial, fun b hm => (List.not_mem_nil hm).elim, hok, .of_eq hg⟩
    refine codeAny_mono ((F _ kinB (nsB hns)).go callerA [] s0 H ⟨[.ref a], []⟩ [.ref a] [.ref a] _ _ quiet_top hr e0 (hbind s0 (.ref a)) (.cons rfl .nil) (hsp H hS)) fun res s' h => ?_
    match res, h with
    | .ok (.ret u), ⟨v, H', os, bare, un, hok', rr, q⟩ =>
      obtain rfl : v = .bl true := q
      obtain rfl : u = Value.bool true := rr
      refine ⟨rfl, OldK.of_keep fun b o e => ?_, os, bare⟩
      cases t : H b with
      | none => exact un.keep b o e t List.not_mem_nil List.not_mem_nil
      | some u =>
        rcases hO b with z | ⟨ob, xs, z⟩
        · exact nomatch z.symm.trans t
        · have e1 := (hok b _ z).1
          have e2 := (hok' b _ (un.frzs b ob _ z)).1
          rw [e] at e1
          cases e1
          exact e2
  cases hk : K.lookup a with
  | some o =>
    have e := KX a o hk
    rw [ha] at e
    cases e
    exact mid (fun _ => none) (fun _ => .inl rfl) (.inr ⟨_, vs.toArray, _, hk, rfl, rfl, rfl, by rw [List.size_toArray, lnV]; exact hl, by simpa using rv⟩) (fun b u z => nomatch (show (none : Option HO) = some u from z)) (fun b z => absurd rfl z) fun z => absurd rfl z
  | none =>
    have isA : ∀ {b : Addr} {u : HO}, (if b = a then some (HO.frz { cls := .type "list", data := .seq vs.toArray } (.lst (ns.map V.int))) else none) = some u → b = a := fun {b u} z => by
      by_cases t : b = a
      · exact t
      · rw [if_neg t] at z
        cases z
    refine mid (fun b => if b = a then some (.frz { cls := .type "list", data := .seq vs.toArray } (.lst (ns.map V.int))) else none) (fun b => ?_) (.inl (.inr ⟨{ cls := .type "list", data := .seq vs.toArray }, if_pos rfl⟩)) (fun b u z => ?_) (fun b z => ?_) fun _ => hk
    · by_cases t : b = a
      · exact .inr ⟨_, _, if_pos t⟩
      · exact .inl (if_neg t)
    · have t := isA z
      subst t
      cases (if_pos rfl).symm.trans z
      exact ⟨ha, by rw [List.length_map]; exact hl, vs, _, rv, ha⟩
    · by_cases t : b = a
      · exact t
      · exact absurd (if_neg t) z
theorem walk_ofG {l : PySem.W.OpenLaw} {n k : Nat} {q : Program} {loose : List Str} {XP : (Str → Option Value) → Heap → Prop} {YP : World → Heap → Prop} {d : DefRec} {K : Params → PySem.W.Frag} {sp : PySem.W.Frag → Sp} {x : Str}
    (hn : l.most = some n) (hn2 : n ≤ sizeLine) (hdf : d.params.defaults = []) (hr : Room k callerA)
    (hY : ∀ (w : World) (h : Heap), YP w h → (K w.params).In h)
    (F : ∀ (w : World) (mg : Str → Option Value) (fa : Addr) (h : Heap), (K w.params).In h → h.Ns mainGlobals mg → mg d.name = some (.ref fa) →
      ∃ fd : FuncData, (∀ (st : Shared) (u : Value), BindsTo st fd ⟨[u], []⟩ [(x, u)]) ∧
        ∀ base : Heap, (K w.params).In base → base.Ns mainGlobals mg → FnG l.prog w (K w.params) mg base CX0 k fa fd [x] (sp (K w.params)))
    (hsp : ∀ (K : PySem.W.Frag) (H : Hp) (a : Addr) (ns : List Int), ns.length ≤ n → SqL K H a (ns.map V.int) → sp K [.ref a] H (fun v _ => v = .bl true) fun _ _ _ => False) :
    PySem.W.WalkO q loose XP YP l.row.toRowW d [] (fun f vs => PySem.call f vs) := by
  refine Att.attach_call hn hdf fun w st st1 mg mb fa o pm cd doc a vs ns G Y ho hd hcd hmg hobj hints hlen hg => ?_
  have KX := hY w _ Y
  obtain ⟨fd, hb, hF⟩ := F w mg fa _ KX G.T.g hmg
  exact law_callG KX G.T.g G.T.b G.T.builtins G.T.nolimit hg hobj hints (Nat.le_trans hlen hn2) hr hF hb fun H hS => hsp (K w.params) H a ns hlen hS
/-! ### repr of data: the text hangs on the data alone -/
mutual
/-- data of any depth; as: where its lists and dicts stand -/
inductive Dq (K : PySem.W.Frag) (H : Hp) : V → PyData → List Addr → Prop
  | non : Dq K H .non .none []
  | bl (b : Bool) : Dq K H (.bl b) (.bool b) []
  | int (i : Int) : Dq K H (.int i) (.int i) []
  | str (x : Str) : Dq K H (.str x) (.str x) []
  | lst {a : Addr} {xs : List V} {ds : List PyData} {as : List Addr} : SqL K H a xs → DqAll K H xs ds as → Dq K H (.ref a) (.list ds) (a :: as)
  | tup {a : Addr} {xs : List V} {ds : List PyData} {as : List Addr} : SqT K H a xs → DqAll K H xs ds as → Dq K H (.ref a) (.tuple ds) as
  | dct {a : Addr} : H a = some (.dK []) → Dq K H (.ref a) (.dict []) [a]
inductive DqAll (K : PySem.W.Frag) (H : Hp) : List V → List PyData → List Addr → Prop
  | nil : DqAll K H [] [] []
  | cons {v : V} {vs : List V} {d : PyData} {ds : List PyData} {as bs : List Addr} : Dq K H v d as → DqAll K H vs ds bs → DqAll K H (v :: vs) (d :: ds) (as ++ bs)
end
section
variable {X : Cx} {pins : List (Addr × Obj)} {σ : L2.St} {H : Hp} {s : Shared}
mutual
theorem Dq.reads (I : Inv X pins σ H s) : ∀ (d : PyData) (v : V) (as : List Addr) (u : Value), Dq X.K H v d as → RelV v u → Reads s.heap u d as
  | .none, _, _, _, h, r => by
    cases h
    cases r
    exact Reads.none
  | .bool b, _, _, _, h, r => by
    cases h
    cases r
    exact Reads.bool b
  | .int i, _, _, _, h, r => by
    cases h
    obtain ⟨t, rfl⟩ := r
    exact Reads.int i t
  | .str x, _, _, _, h, r => by
    cases h
    obtain ⟨t, rfl⟩ := r
    exact Reads.str x t
  | .list ds, _, _, _, h, r => by
    cases h with
    | lst hs ha =>
      cases r
      obtain ⟨its, rv, ⟨o, n, ho, hc, _, hd⟩, _⟩ := I.list hs
      exact Reads.list ho hc hd (Dq.readsAll I ds _ _ its ha rv)
  | .tuple ds, _, _, _, h, r => by
    cases h with
    | tup hs ha =>
      cases r
      obtain ⟨its, rv, ⟨o, ho, hc, n, hd⟩, _⟩ := I.tuple hs
      exact Reads.tuple ho hc hd (Dq.readsAll I ds _ _ its ha rv)
  | .dict _, _, _, _, h, r => by
    cases h with
    | dct ha =>
      cases r
      obtain ⟨_, _, vs, kv, o, es, ep, ho, hx, hd, _, he, _⟩ := (show ObjOk X.prog X.w H s.heap _ (.dK []) from I.hok _ _ ha)
      cases kv
      have e0 : es.toList = [] := by
        cases t : es.toList with
        | nil => rfl
        | cons x r =>
          rw [t] at he
          cases he
      refine Reads.dict (as := []) (bs := []) ho hx.1 hd ?_ ?_ <;> rw [e0] <;> exact ReadsAll.nil
theorem Dq.readsAll (I : Inv X pins σ H s) : ∀ (ds : List PyData) (vs : List V) (as : List Addr) (us : List Value), DqAll X.K H vs ds as → Vals vs us → ReadsAll s.heap us ds as
  | [], _, _, _, h, r => by
    cases h
    cases r
    exact ReadsAll.nil
  | d :: ds, _, _, _, h, r => by
    cases h with
    | cons h1 h2 =>
      cases r with
      | cons r1 r2 => exact ReadsAll.cons (Dq.reads I d _ _ _ h1 r1) (Dq.readsAll I ds _ _ _ h2 r2)
end
end
section
variable {X : Cx}
/-- what repr asks: data that may be shown, of no great depth and length; its dicts, if any, are no module table -/
def rRepr (K : PySem.W.Frag) : List V → Hp → VK → Prop := fun xs H Q => ∃ (v : V) (d : PyData) (as : List Addr), xs = [v] ∧ Dq K H v d as ∧ d.showable = true ∧ (d.hasDict = true → ∀ b ∈ as, b ≠ sysModules ∨ ∃ kvs, H b = some (.dK kvs)) ∧
  d.depth ≤ 60 ∧ d.shown.length ≤ sizeLine ∧ Q (.str d.shown) H
theorem call_reprD (hQ : Quiet X.A) (hu : X.A.units + 64 < cLine) : CallR X (.builtin "repr") (rRepr X.K) := by
  intro pins s σ H xs us Q I r h
  obtain ⟨v, d, as, rfl, hd, hs, hm, hp, hz, q⟩ := h
  obtain ⟨u, rfl, ru⟩ := vals1 r
  have fin : ∀ h' u2 tk, (∀ b o, s.heap.get? b = some o → h'.get? b = some o) → EP X pins σ Q (.str d.shown u2) { s with heap := h', toks := tk } := fun h' u2 tk hk => ⟨.str _, H, I.kept hk, ⟨_, rfl⟩, q⟩
  have rd := Dq.reads I d v as u hd ru
  have nos : d.hasDict = true → sysModules ∉ as := fun c hmem => by
    rcases hm c _ hmem with z | ⟨kvs, z⟩
    · exact z rfl
    · obtain ⟨_, nz, _⟩ := (show ObjOk X.prog X.w H s.heap sysModules (.dK kvs) from I.hok _ _ z)
      exact absurd nz (by decide)
  cases hd with
  | non =>
    cases ru
    exact PySem.P.repr_of_none (fin s.heap _ _ fun _ _ e => e)
  | bl b =>
    cases ru
    exact PySem.P.repr_of_bool (by cases b <;> exact (fin s.heap _ _ fun _ _ e => e))
  | int i =>
    obtain ⟨t, rfl⟩ := ru
    exact PySem.P.repr_of_int (by simpa [PyData.showable] using hs) (fin s.heap _ _ fun _ _ e => e)
  | str x =>
    obtain ⟨t, rfl⟩ := ru
    exact PySem.P.repr_of_str (fin s.heap _ _ fun _ _ e => e) (by simpa [PyData.shown] using hz)
  | lst _ _ =>
    cases ru
    exact repr_of_reads' rd hs nos hQ (by omega) (fun _ _ e => e) fin hz
  | tup _ _ =>
    cases ru
    exact repr_of_reads' rd hs nos hQ (by omega) (fun _ _ e => e) fin hz
  | dct _ =>
    cases ru
    exact repr_of_reads' rd hs nos hQ (by omega) (fun _ _ e => e) fin hz
/-- max(xs, default=d) of a list of ints -/
def rMaxD (K : PySem.W.Frag) : List V → List V → Hp → VK → Prop := fun xs zs H Q => ∃ (p : Addr) (ns : List Int) (d : Int), xs = [.ref p] ∧ zs = [.int d] ∧ SqL K H p (ns.map V.int) ∧
  (ns = [] → Q (.int d) H) ∧ ∀ m, m ∈ ns → (∀ a ∈ ns, a ≤ m) → Q (.int m) H
theorem maxOf_ints : ∀ (ys : List Int) (y : Int), PySem.W.maxOf y ys ∈ y :: ys ∧ ∀ a ∈ y :: ys, a ≤ PySem.W.maxOf y ys
  | [], y => ⟨List.mem_cons_self .., fun a h => by
    rcases List.mem_cons.mp h with z | z
    · exact Int.le_of_eq z
    · cases z⟩
  | z :: ys, y => by
    have e : PySem.W.maxOf y (z :: ys) = PySem.W.maxOf (if y < z then z else y) ys := by
      unfold PySem.W.maxOf
      rw [List.foldl_cons]
      congr 1
      show (if decide (y < z) = true then z else y) = _
      by_cases c : y < z <;> simp [c]
    have k : y ≤ (if y < z then z else y) ∧ z ≤ (if y < z then z else y) ∧ ((if y < z then z else y) = y ∨ (if y < z then z else y) = z) := by
      by_cases c : y < z
      · rw [if_pos c]
        exact ⟨by omega, Int.le_refl _, .inr rfl⟩
      · rw [if_neg c]
        exact ⟨Int.le_refl _, by omega, .inl rfl⟩
    rw [e]
    revert k
    generalize (if y < z then z else y) = t
    intro ⟨k1, k2, k3⟩
    obtain ⟨h1, h2⟩ := maxOf_ints ys t
    have hw := h2 _ (List.mem_cons_self ..)
    refine ⟨?_, fun a ha => ?_⟩
    · rcases List.mem_cons.mp h1 with c | c
      · rw [c]
        rcases k3 with c | c <;> rw [c] <;> simp
      · exact List.mem_cons_of_mem _ (List.mem_cons_of_mem _ c)
    · rcases List.mem_cons.mp ha with c | c
      · rw [c]
        exact Int.le_trans k1 hw
      · rcases List.mem_cons.mp c with c | c
        · rw [c]
          exact Int.le_trans k2 hw
        · exact h2 _ (List.mem_cons_of_mem _ c)
theorem call_maxD (hc : X.calm = true) (hu : X.A.units + 64 < cLine) : CallRK X (.builtin "max") ["default"] (rMaxD X.K) := by
  intro pins s σ H xs zs us ws Q I r rz h
  obtain ⟨p, ns, d, rfl, rfl, hq, h0, h1⟩ := h
  obtain ⟨u, rfl, ru⟩ := vals1 r
  obtain ⟨u2, rfl, ru2⟩ := vals1 rz
  cases ru
  obtain ⟨its, rv, pl, _⟩ := I.list hq
  have hold : PySem.W.HoldAll s.heap its.toArray.toList ns := PySem.W.HoldAll.of_ints (by simpa using rv.ints)
  refine PySem.W.max_list_datum_default (α := Int) (I.ok.hd hc) pl.isList hold (by show X.A.units + 1 + 0 < cLine; omega) (fun e h' tk hk => ⟨.int d, H, I.kept hk, ru2, h0 e⟩) fun y ys i v h' tk e hi hv hk => ?_
  have hm := maxOf_ints ys y
  rw [← e] at hm
  refine ⟨.int (PySem.W.maxOf y ys), H, I.kept hk, ?_, h1 _ hm.1 hm.2⟩
  obtain ⟨as, rd⟩ := hv
  cases rd with
  | int i t => exact ⟨t, rfl⟩
end
end Up

set_option Elab.async false
set_option linter.all false
set_option maxRecDepth 100000
set_option maxHeartbeats 4000000
/-! an own exception class with one field, made as a value, by position or by name -/
namespace PySem
namespace UpX
open PySem.W PySem.Calls PyProof.Rows PySem.HandSPX
section
variable {prog : Program} {w : World} {A : Around} {E : Value → Shared → Prop} {R : Result → Shared → Prop} {hp : Heap} {gn : Array GenState} {dw : Drawn} {tk : Nat} {fs : OsState}
variable {nm q : Str} {C N : Addr} {bs bm bmB : List Value} {hdct : Bool} {sn : List Str} {sub : List Value} {ab : Bool} {col : Option Bool} {dd : Option Addr} {k0 k1 k2 k3 k5 : Option Value} {B newId initId : String}
theorem chk_new (F : ExcBaseFacts B newId initId bmB) (hT : ∀ X : String, bm.contains (.type X) = bmB.contains (.type X)) {rest : List Value} {kw : List (Str × Value)} {Q : Unit → Shared → Prop}
    (hC : hp.get? C = some (excClassObj nm q C N bs bm hdct sn sub ab col dd k0 k1 k2 k3 k5 newId)) (hq : Q () ⟨hp, gn, dw, tk, fs⟩) : wpAny (model prog w) A (checkBuiltinCall newId ⟨.ref C :: rest, kw⟩) Q E ⟨hp, gn, dw, tk, fs⟩ := by
  have cB : (Value.ref C :: bm).contains (.type B) = true := by rw [List.contains_cons, hT, F.hasB, Bool.or_true]
  have nst := F.noStar
  simp only [checkBuiltinCall, F.newKind, F.newSplit, F.newRow]
  repeat (first | refine wpAny_loadPart_at hC ?_ | (refine wpAny_isSubtype_exc hC ?_; rw [cB]) | refine wpAny_staticBase_exc hC ?_ | refine wpAny_madeBy_exc hC ?_ | simp only [bne_self_eq_false, Bool.false_eq_true, if_false] | wp_step)
  exact hq
theorem new_kw (F : ExcBaseFacts B newId initId bmB) (hT : ∀ X : String, bm.contains (.type X) = bmB.contains (.type X)) {rest : List Value} {kw : List (Str × Value)}
    (hC : hp.get? C = some (excClassObj nm q C N bs bm hdct sn sub ab col dd k0 k1 k2 k3 k5 newId))
    (hq : R (.ok (.ret (.ref (hp.objs.size + 1)))) ⟨(hp.push (W.kdv_tup rest)).push (excO C hp.objs.size), gn, dw, tk, fs⟩) (hrest : rest.length ≤ sizeLine) :
    codeAny (model prog w) A (.builtin newId ⟨.ref C :: rest, kw⟩) R ⟨hp, gn, dw, tk, fs⟩ := by
  have fe := F.ends
  have cB : (Value.ref C :: bm).contains (.type B) = true := by rw [List.contains_cons, hT, F.hasB, Bool.or_true]
  have cA : (Value.ref C :: bm).contains (.type "AttributeError") = false := by rw [List.contains_cons, hT, F.noAttr]; rfl
  have cN : (Value.ref C :: bm).contains (.type "NameError") = false := by rw [List.contains_cons, hT, F.noName]; rfl
  refine codeAny_builtinAt F.entry ?_
  unfold Builtin.«BaseException.__new__»
  refine wpAt_bind ?_
  show wpAt _ _ _ (stack >>= _) _ _ _
  refine wpAt_bind (wpAt_stack fun p below => wpAt_of_wpAny ?_)
  wp_walk
  refine wpAt_of_wpAny ?_
  rw [F.owner]
  repeat (first | with_reducible refine wpAny_madeHere_exc F.canon hC ?_ | with_reducible refine wpAny_loadPart_at hC ?_ | (with_reducible refine wpAny_isSubtype_exc hC ?_; first | rw [cB] | rw [cA] | rw [cN]) | wp_step)
  show R _ _
  rw [Heap.size_push]
  exact hq
theorem type_kw (F : ExcBaseFacts B newId initId bmB) (hT : ∀ X : String, bm.contains (.type X) = bmB.contains (.type X)) {rest : List Value} {kw : List (Str × Value)} {fI : Addr} {Q : Fin → Shared → Prop}
    (hC : hp.get? C = some (excClassObj nm q C N bs bm hdct sn sub ab col dd k0 k1 k2 k3 k5 newId))
    (hi : W.Looks (model prog w) hp (typeLookup (.ref C) "__init__") (some (.ref fI))) (hb : ∀ self, W.Looks (model prog w) hp (bindSpecial (.ref fI) self) (.ref fI, [self])) (hrest : rest.length ≤ sizeLine)
    (hq : codeAny (model prog w) A (.call (.ref fI) ⟨.ref (hp.objs.size + 1) :: rest, kw⟩)
      (fun r s' => match r with | .ok (.ret v) => v = .none ∧ Q (.done (.ret (.ref (hp.objs.size + 1)))) s' | .ok _ => False | .error e => E e s')
      ⟨(hp.push (W.kdv_tup rest)).push (excO C hp.objs.size), gn, dw, tk, fs⟩) :
    wpAny (model prog w) A (Builtin.«type.__call__» ⟨.ref C :: rest, kw⟩) Q E ⟨hp, gn, dw, tk, fs⟩ := by
  repeat (first | with_reducible refine wpAny_loadPart_at hC ?_ | with_reducible refine wpAny_madeBy_exc hC ?_ | wp_step)
  refine codeAny_call_builtin_code (Code.quiet_builtin _ F.quiet) (chk_new F hT hC (new_kw F hT hC ?_ hrest))
  show wpAny _ _ _ _ _ _
  have kk : ∀ b o, hp.get? b = some o → ((hp.push (W.kdv_tup rest)).push (excO C hp.objs.size)).get? b = some o := fun b o e => Heap.get?_push_of_some _ (Heap.get?_push_of_some _ e)
  have hC1 := kk _ _ hC
  have he : ((hp.push (W.kdv_tup rest)).push (excO C hp.objs.size)).get? (hp.objs.size + 1) = some (excO C hp.objs.size) := by heap_get
  have selfC : (Value.ref C :: bm).contains (.ref C) = true := by simp
  have i1 := hi.keeps kk
  have b1 := (hb (.ref (hp.objs.size + 1))).keeps kk
  unfold isInstance
  repeat (first | with_reducible refine wpAny_loadPart_at he ?_ | (with_reducible refine wpAny_isSubtype_exc hC1 ?_; rw [selfC]) | wp_step)
  show wpAny _ _ (typeLookup (.ref C) _) _ _ _
  refine i1.at (wpAny_holding (wpAny_bind (b1.at (wpAny_bind (wpAny_call (codeAny_mono hq fun r s' z => ?_))))))
  rcases r with e | (v | _ | _ | _) <;> first | exact z | exact z.elim | skip
  obtain ⟨rfl, z⟩ := z
  first
    | exact wpAny_pure (wpAny_pure z)
    | (wp_walk; exact z)
theorem call_kw (F : ExcBaseFacts B newId initId bmB) (hT : ∀ X : String, bm.contains (.type X) = bmB.contains (.type X)) {rest : List Value} {kw : List (Str × Value)} {fI : Addr}
    (hC : hp.get? C = some (excClassObj nm q C N bs bm hdct sn sub ab col dd k0 k1 k2 k3 k5 newId))
    (hi : W.Looks (model prog w) hp (typeLookup (.ref C) "__init__") (some (.ref fI))) (hb : ∀ self, W.Looks (model prog w) hp (bindSpecial (.ref fI) self) (.ref fI, [self])) (hrest : rest.length ≤ sizeLine)
    (hq : codeAny (model prog w) (A.under (.builtin "type.__call__" ⟨.ref C :: rest, kw⟩)) (.call (.ref fI) ⟨.ref (hp.objs.size + 1) :: rest, kw⟩) (W.InitBack (hp.objs.size + 1) R)
      ⟨(hp.push (W.kdv_tup rest)).push (excO C hp.objs.size), gn, dw, tk, fs⟩) :
    codeAny (model prog w) A (.call (.ref C) ⟨rest, kw⟩) R ⟨hp, gn, dw, tk, fs⟩ := by
  have f1 := tc_lookup
  have f2 := tc_bind (.ref C)
  have ty : (⟨hp, gn, dw, tk, fs⟩ : Shared).TypeIs (.ref C) "type" := ⟨_, hC, rfl⟩
  refine codeAny_of_tree ?_
  show wpAny _ _ (callAny (.ref C) _) _ _ _
  repeat (any_goals (first | assumption | with_reducible refine wpAny_loadPart_at hC ?_ | wp_step))
  refine ⟨rfl, codeAny_call_builtin_at (Code.quiet_builtin _ (by decide +kernel)) entry_typeCall (wpAny_check_type_call_sub hC (type_kw F hT hC hi hb hrest (codeAny_mono hq fun r s' z => ?_)))⟩
  rcases r with e | (v | _ | _ | _) <;> exact z
end
end UpX
end PySem
namespace Up
open PySem PySem.Spec PyProof.Rows L2
/-- what the written part says of such a class -/
structure XCls (K : PySem.W.Frag) (C : Addr) : Prop where
  oex : OexC K C
  ga : PySem.W.findIn K (.ref C) "__getattribute__" = some (some (.builtin "BaseException.__getattribute__"))
  gg : PySem.W.findIn K (.ref C) "__getattr__" = some none
  hd : PySem.W.hasDictIn K C = true
  cl : (PySem.W.clsIn K C).isSome = true
  ca : PySem.W.findIn K (.ref C) "__class__" = some (some (.builtin "object.__class__"))
  cn : PySem.W.specialIn K (.builtin "object.__class__") "__get__" = some (some (.builtin "getset_descriptor.__get__"))
  ct : PySem.W.takesIn K (.builtin "object.__class__") = some true
  cm : PySem.W.mroIn K C (.type "object") = some true
/-- a made exception at a: its class, its one field -/
structure XAt (H : Hp) (a C : Addr) (f : Str) (v : V) : Prop where
  ex : ∃ d, H a = some (exo a C (some d)) ∧ H d = some (exd d [(f, v)])
theorem XAt.same {H H' : Hp} {a C : Addr} {f : Str} {v : V} (x : XAt H a C f v) (s : Same H H') : XAt H' a C f v := by
  obtain ⟨d, h1, h2⟩ := x.ex
  exact ⟨d, s _ _ h1, s _ _ h2⟩
/-- __init__(self, field): self.field = field -/
def spXInit (C : Addr) (f : Str) : Sp := fun vs H Q _ => ∃ (a : Addr) (v : V), vs = [.ref a, v] ∧ H a = some (exo a C none) ∧ ∀ d, H d = none → d ≠ a → Q .non (upd (upd H d (exd d [(f, v)])) a (exo a C (some d)))
section
variable {X : Cx} {e : Expr} {es : List Expr} {ta te : TE} {t tk : TA} {p pos : Pos} {kws : List Keyword}
/-- C(e) as a value -/
def tXV (C : Addr) (sp : Sp) (t : TA) : TE := fun σ H Q => t σ H fun vs H1 => vs.length ≤ 1000 ∧ ∀ a, H1 a = none → sp (.ref a :: vs) (upd H1 a (exo a C none)) (fun v H2 => v = .non ∧ Q (.ref a) H2) fun _ _ _ => False
theorem made {pins : List (Addr × Obj)} {σ : L2.St} {H1 : Hp} {s1 : Shared} {Q : VK} {CX : CXT} {C fI : Addr} {k : Nat} {fd : FuncData} {ps : List Str} {sp : Sp} {us : List Value} {kw : List (Str × Value)} {bs : List Value} {vs : List V} (T : OexC X.K C)
    (iC : PySem.W.findIn X.K (.ref C) "__init__" = some (some (.ref fI))) (tI : PySem.W.typeIn X.K (.ref fI) = some (.type "function")) (F1 : FnOk X.prog X.w X.K X.mg X.base CX k fI fd ps sp) (hr : Room (k + 1) X.A) (hx : Passes CX X (fun _ _ _ => False))
    (I1 : Inv X pins σ H1 s1) (hus : us.length ≤ sizeLine) (hb : ∀ (a : Addr) (st : Shared), X.K.In st.heap → BindsTo st fd ⟨.ref a :: us, kw⟩ (ps.zip (.ref a :: bs))) (rv : Vals vs bs)
    (h : ∀ a, H1 a = none → sp (.ref a :: vs) (upd H1 a (exo a C none)) (fun v H2 => v = .non ∧ Q (.ref a) H2) fun _ _ _ => False) :
    wpAny (model X.prog X.w) X.A (call (.ref C) us kw) (EP X pins σ Q) X.xe s1 := by
  obtain ⟨nm, q, N, bs', bm, sn, sub, ab, col, dd, k0, k1, k2, k3, k5, hC, hbm⟩ := T.cls
  obtain ⟨hp, gn, dw, tk, fs⟩ := s1
  have le : hp.objs.size ≤ hp.objs.size + 1 := Nat.le_succ _
  have hn : H1 (hp.objs.size + 1) = none := I1.hok.fresh le
  have hq := h (hp.objs.size + 1) hn
  have kk : ∀ b o, hp.get? b = some o → ((hp.push (PySem.W.kdv_tup us)).push (PySem.HandSPX.excO C hp.objs.size)).get? b = some o := fun b o t => Heap.get?_push_of_some _ (Heap.get?_push_of_some _ t)
  have he : ((hp.push (PySem.W.kdv_tup us)).push (PySem.HandSPX.excO C hp.objs.size)).get? (hp.objs.size + 1) = some (PySem.HandSPX.excO C hp.objs.size) := by heap_get
  have I2 : Inv X pins σ (upd H1 (hp.objs.size + 1) (exo (hp.objs.size + 1) C none)) ⟨(hp.push (PySem.W.kdv_tup us)).push (PySem.HandSPX.excO C hp.objs.size), gn, dw, tk, fs⟩ :=
    I1.laid (t' := tk) (a := hp.objs.size + 1) (o := exo (hp.objs.size + 1) C none) (h' := (hp.push (PySem.W.kdv_tup us)).push (PySem.HandSPX.excO C hp.objs.size)) kk le (exo_ok he)
  refine wpAny_call (PySem.UpX.call_kw PySem.F.excBase_ValueError (fun Y => PySem.HandSPX.refsVE_contains Y bm hbm) (I1.kIn _ _ hC) (PySem.W.looks_findIn I1.kIn iC) (fun self => PySem.W.bind_fn I1.kIn self tI) hus
    (codeAny_mono (F1.run _ X.stack _ _ ⟨Value.ref (hp.objs.size + 1) :: us, kw⟩ (Value.ref (hp.objs.size + 1) :: bs) _ _ (fun _ _ _ => False) (hr.make C us kw) (I2.env0.make C us kw) (hb _ _ I2.kIn) (show Vals (V.ref (hp.objs.size + 1) :: vs) (Value.ref (hp.objs.size + 1) :: bs) from .cons rfl rv) hq) fun r s' hq' => ?_))
  match r, hq' with
  | .error er, hq' => exact hx pins σ _ _ er s' I2 hq'
  | .ok (.ret u), hq' =>
    obtain ⟨v, H2, J, rr, ev, q2⟩ := I2.after hq'
    subst ev
    exact ⟨rr, .ref (hp.objs.size + 1), H2, J, rfl, q2⟩
theorem pe_xv {CX : CXT} {x : Str} {C fI : Addr} {k : Nat} {fd : FuncData} {ps : List Str} {sp : Sp} (T : OexC X.K C) (iC : PySem.W.findIn X.K (.ref C) "__init__" = some (some (.ref fI))) (tI : PySem.W.typeIn X.K (.ref fI) = some (.type "function"))
    (F1 : FnOk X.prog X.w X.K X.mg X.base CX k fI fd ps sp) (hr : Room (k + 1) X.A) (hb : Binds X.K fd ps []) (hx : Passes CX X (fun _ _ _ => False)) (hg : Gl X x) (hm : X.mg x = some (.ref C)) (ha : PA X (e :: es) t)
    (hdb : (x == ("__debug__" : Str)) = false := by decide) (he : starEach (e :: es) X.env = (false, eval e X.env) :: starEach es X.env := by rfl) (hpl : (backTo pos (starEach es X.env)).any (·.1) = false := by rfl) :
    PE X (.Call (.Name x p) (e :: es) [] pos) (tXV C sp t) := by
  refine ⟨fun pins s σ H Q I h => ?_⟩
  refine wpAny_Call_Name_kw (ld_glob I hg hm ?_ hdb)
  refine PySem.W.callWith_K (h₀ := X.base) I.ok.mod.kin T.kC (thn (ha.run pos pins s σ H _ I h) fun us s1 ⟨vs, H1, I1, r1, hz, q1⟩ => ⟨I1.kIn, ?_⟩) he hpl
  have hus : us.length ≤ sizeLine := by
    rw [← Paired.length r1, sizeLine_eq]
    omega
  refine made (bs := us) (kw := []) T iC tI F1 hr hx I1 hus (fun a st hK => ?_) r1 q1
  have ln : (Value.ref a :: us ++ []).length = ps.length := by
    have hq := q1 (s1.heap.objs.size + 1) (I1.hok.fresh (Nat.le_succ _))
    have e1 := F1.len _ _ _ _ hq
    rw [List.append_nil, ← e1, List.length_cons, List.length_cons, Paired.length r1]
  have hb2 := hb st (.ref a :: us) hK ln
  rw [List.append_nil] at hb2
  exact hb2
/-- C(field=e) as a value -/
def tXK (C : Addr) (sp : Sp) (te : TE) : TE := fun σ H Q => te σ H fun v H1 => ∀ a, H1 a = none → sp [.ref a, v] (upd H1 a (exo a C none)) (fun z H2 => z = .non ∧ Q (.ref a) H2) fun _ _ _ => False
theorem pe_xk {CX : CXT} {x f : Str} {C fI : Addr} {k : Nat} {fd : FuncData} {ps : List Str} {sp : Sp} (T : OexC X.K C) (iC : PySem.W.findIn X.K (.ref C) "__init__" = some (some (.ref fI))) (tI : PySem.W.typeIn X.K (.ref fI) = some (.type "function"))
    (F1 : FnOk X.prog X.w X.K X.mg X.base CX k fI fd ps sp) (hr : Room (k + 1) X.A) (hb : ∀ (a : Addr) (u : Value) (st : Shared), X.K.In st.heap → BindsTo st fd ⟨[.ref a], [(f, u)]⟩ (ps.zip [.ref a, u])) (hx : Passes CX X (fun _ _ _ => False)) (hg : Gl X x) (hm : X.mg x = some (.ref C)) (hk : PK X kws (tCons te tNil))
    (hall : (backToKw pos (keywordEach kws X.env)).all (·.1.isSome) = true := by rfl) (hks : (backToKw pos (keywordEach kws X.env)).filterMap (·.1) = [f] := by rfl) (hdb : (x == ("__debug__" : Str)) = false := by decide)
    (hpl : ((backTo pos (starEach [] X.env)).any (·.1) || (backToKw pos (keywordEach kws X.env)).any (·.1.isNone)) = false := by rfl) :
    PE X (.Call (.Name x p) [] kws pos) (tXK C sp te) := by
  refine ⟨fun pins s σ H Q I h => ?_⟩
  refine wpAny_Call_Name_kw (ld_glob I hg hm ?_ hdb)
  have h2 : (tCons te tNil) σ H fun vs H1 => ∃ v, vs = [v] ∧ ∀ a, H1 a = none → sp [.ref a, v] (upd H1 a (exo a C none)) (fun z H2 => z = .non ∧ Q (.ref a) H2) fun _ _ _ => False := by
    have e : (fun (v : V) (H1 : Hp) => ∃ v', [v] = [v'] ∧ ∀ a, H1 a = none → sp [.ref a, v'] (upd H1 a (exo a C none)) (fun z H2 => z = .non ∧ Q (.ref a) H2) fun _ _ _ => False) = fun v H1 => ∀ a, H1 a = none → sp [.ref a, v] (upd H1 a (exo a C none)) (fun z H2 => z = .non ∧ Q (.ref a) H2) fun _ _ _ => False := by
      funext v H1
      refine propext ⟨fun ⟨v', e, q⟩ => ?_, fun q => ⟨v, rfl, q⟩⟩
      cases e
      exact q
    show te σ H (fun (v : V) (H1 : Hp) => ∃ v', [v] = [v'] ∧ ∀ a, H1 a = none → sp [.ref a, v'] (upd H1 a (exo a C none)) (fun z H2 => z = .non ∧ Q (.ref a) H2) fun _ _ _ => False)
    rw [e]
    exact h
  refine PySem.W.callWith_KW0 (h₀ := X.base) I.ok.mod.kin T.kC hall (thn (hk.run pos pins s σ H _ I h2) fun ws s1 ⟨zs, H1, I1, rz, v, ez, q⟩ => ⟨I1.kIn, ?_⟩) hpl
  subst ez
  cases rz with
  | @cons _ u _ _ ru rn =>
    cases rn
    rw [hks]
    exact made (us := []) (bs := [u]) (kw := [(f, u)]) T iC tI F1 hr hx I1 (Nat.zero_le _) (fun a st hK => hb a u st hK) (.cons ru .nil) q
/-- the field of such a value -/
def tXF (K : PySem.W.Frag) (f : Str) (te : TE) : TE := fun σ H Q => te σ H fun x H1 => ∃ (a C : Addr) (v : V), x = .ref a ∧ XCls K C ∧ PySem.W.findIn K (.ref C) f = some none ∧ XAt H1 a C f v ∧ Q v H1
theorem pe_xf {f : Str} (he : PE X e te) (hb : attributeBase e f X.env (eval e X.env) = eval e X.env := by rfl) : PE X (.Attribute e f pos) (tXF X.K f te) := by
  refine ⟨fun pins s σ H Q I h => ?_⟩
  refine attr_of hb (thn (he.run pins s σ H _ I h) fun u s1 hh => ?_)
  obtain ⟨x, H1, I1, rx, a, C, v, ex, T, noF, ⟨d, ha, hd⟩, q⟩ := hh
  subst ex
  obtain rfl : u = Value.ref a := rx
  obtain ⟨t1, ho⟩ := exo_at I1.hok ha
  obtain ⟨mA, hns, hr⟩ := exd_at I1.hok hd
  obtain ⟨od, hod, hl⟩ := lookIn_ns hns
  have lk : List.lookup f [(f, v)] = some v := by simp [List.lookup]
  obtain ⟨u, hu, ru⟩ := RelO.some_of (v := v) (o := mA f) (by rw [← lk]; exact hr f)
  have J : PySem.W.InstAt s1.heap a { cls := .ref C, dict := some d, data := .fields #[.ref t1, .none, .none, .none, .bool false, .none] } C (some od) := ⟨ho, rfl, by unfold PySem.W.notCls; rfl, hod⟩
  exact PySem.HandSPX.exc_get I1.kIn J T.ga T.gg T.oex.exC (PySem.W.findObj_own T.hd noF rfl (by rw [hl, hu])) (handed_of ru) ⟨v, H1, I1.tok _, ru, q⟩
/-- isinstance of such a value -/
def rIsX (K : PySem.W.Frag) : List V → Hp → VK → Prop := fun xs H Q => ∃ (a C : Addr) (d : Option Addr) (fs : List (Str × V)) (c : V) (u : Value) (b : Bool), xs = [.ref a, c] ∧ ClsV c u ∧ XCls K C ∧ H a = some (exo a C d) ∧ (∀ d', d = some d' → H d' = some (exd d' fs)) ∧ PySem.W.kitOne K (.ref C) u = some b ∧ Q (.bl b) H
theorem call_isX : CallR X (.builtin "isinstance") (rIsX X.K) := by
  intro pins s σ H xs us Q I r h
  obtain ⟨a, C, d, fs, c, u, b, rfl, k, T, ha, hd, e, q⟩ := h
  obtain ⟨u1, u2, rfl, r1, r2⟩ := vals2 r
  have e2 := k.eq r2
  subst e2
  obtain rfl : u1 = Value.ref a := r1
  obtain ⟨t1, ho⟩ := exo_at I.hok ha
  have fin : ∀ tk, EP X pins σ Q (.bool b) { s with toks := tk } := fun tk => ⟨.bl b, H, I.tok tk, rfl, q⟩
  cases d with
  | none => exact PySem.W.kia_one (PySem.W.kitx_exc (od := none) T.cl T.ga T.gg T.oex.exC T.ca T.cn T.ct T.cm) I.kIn ⟨ho, rfl, by unfold PySem.W.notCls; rfl, True.intro⟩ e (fun z => nomatch z) fin
  | some d' =>
    obtain ⟨mA, ⟨od, es, ep, hod, hr⟩, _⟩ := exd_at I.hok (hd d' rfl)
    exact PySem.W.kia_one (PySem.W.kitx_exc (od := some od) T.cl T.ga T.gg T.oex.exC T.ca T.cn T.ct T.cm) I.kIn ⟨ho, rfl, by unfold PySem.W.notCls; rfl, hod⟩ e (fun z => nomatch z) fin
end
section
variable {P : Program} {w : World} {K : PySem.W.Frag} {mg : Str → Option Value} {base : Heap}
end
end Up

/-! rows are copied -/
namespace Up
open PySem PySem.Spec PyProof.Rows L2
abbrev s_copied_rows : Stmt := (topS 16)
theorem sc_copied_rows : FnScope ["rows", "row"] ["rows"] (defScope s_copied_rows) := ⟨rfl, rfl, rfl, by decide +kernel, rfl, by decide +kernel, by decide +kernel⟩
def Kd.up {H H' : Hp} {v : V} (s : Same H H') : Kd H v → Kd H' v
  | .non => .non
  | .bl b => .bl b
  | .int i => .int i
  | .str x => .str x
  | .lst a xs h => .lst a xs (s _ _ h)
  | .tup a xs h => .tup a xs (s _ _ h)
  | .dct a kvs h => .dct a kvs (s _ _ h)
theorem Kd.up_ty {H H' : Hp} {v : V} (s : Same H H') (k : Kd H v) : (k.up s).ty = k.ty := by cases k <;> rfl
def Kd.list? {H : Hp} {v : V} : Kd H v → Option (List V)
  | .lst _ xs _ => some xs
  | .tup _ xs _ => some xs
  | _ => none
theorem Kd.kitLT {K : PySem.W.Frag} {H : Hp} {v : V} (k : Kd H v) : PySem.W.kitAny K (.type k.ty) [.type "list", .type "tuple"] = some k.list?.isSome := by
  have h1 := k.kit (K := K) (t := "list") (by decide)
  have h2 := k.kit (K := K) (t := "tuple") (by decide)
  unfold PySem.W.kitAny
  rw [h1]
  cases k <;> first
    | rfl
    | (unfold PySem.W.kitAny; exact (by rw [h2] <;> rfl))
/-- a list or a tuple, made by the program -/
def LT (H : Hp) (a : Addr) (xs : List V) : Prop := H a = some (.lst xs) ∨ H a = some (.tup xs)
theorem LT.ta {K : PySem.W.Frag} {H : Hp} {a : Addr} {xs : List V} (h : LT H a xs) : LTa K H a xs := h.imp (fun h => .inl (.inl h)) fun h => .inl (.inl h)
theorem LT.same {H H' : Hp} {a : Addr} {xs : List V} (s : Same H H') (h : LT H a xs) : LT H' a xs := h.imp (s _ _) (s _ _)
theorem LT.kd {H : Hp} {a : Addr} {xs : List V} (h : LT H a xs) : ∃ k : Kd H (.ref a), k.list? = some xs := by
  rcases h with h | h
  · exact ⟨.lst a xs h, rfl⟩
  · exact ⟨.tup a xs h, rfl⟩
section
variable {P : Program} {w : World} {K : PySem.W.Frag} {mg : Str → Option Value} {base : Heap}
def listingV {H : Hp} {v : V} (k : Kd H v) (most : Int) : Bool := match k.list? with
  | some xs => decide ((xs.length : Int) ≤ most)
  | none => false
def spListing : Sp := fun vs H Q _ => ∃ (v : V) (k : Kd H v) (most : Int), vs = [v, .int most] ∧ ∀ H', Same H H' → Q (.bl (listingV k most)) H'
theorem ok_listing {f : Addr} {fd : FuncData} (F : Fun K "is_listing" "is_listing" s_is_listing f fd) (T : TxtC mg) : FnOk P w K mg base CX0 1 f fd ["value", "most"] spListing := by
  refine F.ok sc_is_listing (fun vs H Q E h => ?_) (fun cdv A outer s H vs Q E hr h => ?_)
  · obtain ⟨v, k, most, rfl, _⟩ := h
    rfl
  · obtain ⟨v, k, most, rfl, q⟩ := h
    refine ⟨_, (pss_one (ps_ret (pe_and (pe_callB call_isiT (by rfl) T.isinstance bb_isinstance (pa_cons (pv 0) (pa_cons (pe_tup (pa_cons (pe_bltn (v := .ty "list") (by rfl) T.list bt_list rfl) (pa_cons (pe_bltn (v := .ty "tuple") (by rfl) T.tuple bt_tuple rfl) pa_nil))) pa_nil))) (pe_one (pe_cmpR op_le (pe_callB call_len_seq (by rfl) T.len PySem.boot_len (pa_cons (pv 0) pa_nil)) (pv 1) (nomark _)))))), ?_⟩
    refine ⟨_, rfl, (by show 2 ≤ sizeLine; decide), fun p np => ?_⟩
    have s1 : Same H (upd H p (.tup [.ty "list", .ty "tuple"])) := same_new np
    refine ⟨v, p, [.ty "list", .ty "tuple"], _, [.type "list", .type "tuple"], _, rfl, upd_same, .cons (.ty _) (.cons (.ty _) .nil), (k.up s1).tyx, (k.up s1).kitLT, _, rfl, ?_⟩
    have q1 := q _ s1
    unfold listingV at q1
    cases k with
    | lst a xs h => exact ⟨_, rfl, a, xs, rfl, .inl (.inl (.inl (s1 _ _ h))), _, rfl, _, _, rfl, rfl, q1⟩
    | tup a xs h => exact ⟨_, rfl, a, xs, rfl, .inr (.inl (.inl (s1 _ _ h))), _, rfl, _, _, rfl, rfl, q1⟩
    | _ => exact q1
/-- rows, as lists or tuples: the items of each -/
structure RowsIn (H : Hp) (a : Addr) (xss : List (List V)) : Prop where
  ex : ∃ rs : List Addr, LT H a (rs.map V.ref) ∧ rs.length = xss.length ∧ ∀ (i : Nat) (r : Addr) (xs : List V), rs[i]? = some r → xss[i]? = some xs → LT H r xs
/-- rows, as a tuple of tuples -/
structure RowsT (H : Hp) (p : Addr) (xss : List (List V)) : Prop where
  ex : ∃ ts : List Addr, H p = some (.tup (ts.map V.ref)) ∧ ts.length = xss.length ∧ ∀ (i : Nat) (t : Addr) (xs : List V), ts[i]? = some t → xss[i]? = some xs → H t = some (.tup xs)
theorem RowsT.same {H H' : Hp} {p : Addr} {xss : List (List V)} (s : Same H H') (h : RowsT H p xss) : RowsT H' p xss := by
  obtain ⟨ts, h1, h2, h3⟩ := h.ex
  exact ⟨ts, s _ _ h1, h2, fun i t xs e1 e2 => s _ _ (h3 i t xs e1 e2)⟩
theorem RowsIn.same {H H' : Hp} {p : Addr} {xss : List (List V)} (s : Same H H') (h : RowsIn H p xss) : RowsIn H' p xss := by
  obtain ⟨ts, h1, h2, h3⟩ := h.ex
  exact ⟨ts, h1.same s, h2, fun i t xs e1 e2 => (h3 i t xs e1 e2).same s⟩
def spCopy : Sp := fun vs H Q _ => ∃ (a : Addr) (xss : List (List V)), vs = [.ref a] ∧ RowsIn H a xss ∧ 1 ≤ xss.length ∧ xss.length ≤ 6 ∧ ∀ H' p, Same H H' → RowsT H' p xss → Q (.ref p) H'
structure TxtR (K : PySem.W.Frag) (mg : Str → Option Value) (fL : Addr) : Prop extends TxtC mg where
  g_is_listing : mg "is_listing" = some (.ref fL)
  g_MOST_HANDS : ∃ t, mg "MOST_HANDS" = some (.int 6 t)
theorem map_get {l : List Addr} {i : Nat} {x : V} (h : (l.map V.ref)[i]? = some x) : ∃ r, l[i]? = some r ∧ x = .ref r := by
  rw [List.getElem?_map] at h
  cases e : l[i]? with
  | none =>
    rw [e] at h
    cases h
  | some r =>
    rw [e] at h
    exact ⟨r, rfl, (Option.some.inj h).symm⟩
theorem get_of {α β : Type} {l : List α} {m : List β} (h : l.length = m.length) {i : Nat} {x : α} (e : l[i]? = some x) : ∃ y, m[i]? = some y := by
  have h1 := (List.getElem?_eq_some_iff.mp e).1
  exact ⟨m[i]'(by omega), List.getElem?_eq_getElem (by omega)⟩
theorem snoc_get {α : Type} {l : List α} {x y : α} {i : Nat} (h : (l ++ [x])[i]? = some y) : l[i]? = some y ∨ (i = l.length ∧ y = x) := by
  by_cases c : i < l.length
  · rw [List.getElem?_append_left c] at h
    exact .inl h
  · rw [List.getElem?_append_right (by omega)] at h
    have h1 := (List.getElem?_eq_some_iff.mp h).1
    have e : i - l.length = 0 := by
      simp at h1
      omega
    rw [e] at h
    exact .inr ⟨by omega, (Option.some.inj h).symm⟩
theorem ok_copy {f fL : Addr} {fd fdL : FuncData} (F : Fun K "copied_rows" "copied_rows" s_copied_rows f fd) (T : TxtR K mg fL) (F_is_listing : Fun K "is_listing" "is_listing" s_is_listing fL fdL) (b_is_listing : Binds K fdL ["value", "most"] []) : FnOk P w K mg base CX0 2 f fd ["rows"] spCopy := by
  have G_is_listing : FnOk P w K mg base CX0 1 fL fdL ["value", "most"] spListing := ok_listing F_is_listing T.toTxtC
  refine F.ok sc_copied_rows (fun vs H Q E h => ?_) (fun cdv A outer s H vs Q E hr h => ?_)
  · obtain ⟨a, xss, rfl, _⟩ := h
    rfl
  · obtain ⟨a, xss, rfl, hR, l1, l6, q⟩ := h
    obtain ⟨tk, gMH⟩ := T.g_MOST_HANDS
    have hr_is_listing : Room 1 _ := hr.mono (by decide)
    obtain ⟨rs, ha, hl, hrs⟩ := hR.ex
    obtain ⟨k, ek⟩ := ha.kd
    refine ⟨_, (pss_cons (ps_if (PW.pt (pw_or (pt_not (pt_val (pe_call G_is_listing hr_is_listing (by rfl) T.g_is_listing F_is_listing.kp b_is_listing .nil pass0 (pa_cons (pv 0) (pa_cons (pe_glob (v := .int 6) rfl gMH ⟨_, rfl⟩) pa_nil))))) (pw_or1 (pt_cmpR op_eq (pe_callB call_len_seq (by rfl) T.len PySem.boot_len (pa_cons (pv 0) pa_nil)) pe_int (nomark _))))) (pss_one ps_never) pss_nil) (pss_cons (ps_for PassesOwn.never rfl (pi_seq (pv 0)) (pg_name (i := 1) sc_copied_rows.nd rfl (Or.inl rfl)) (pss_one (ps_if (pt_not (pt_val (pe_callB call_isiT (by rfl) T.isinstance bb_isinstance (pa_cons (pv 1) (pa_cons (pe_tup (pa_cons (pe_bltn (v := .ty "list") (by rfl) T.list bt_list rfl) (pa_cons (pe_bltn (v := .ty "tuple") (by rfl) T.tuple bt_tuple rfl) pa_nil))) pa_nil))))) (pss_one ps_never) pss_nil))) (pss_one (ps_ret (pe_callTy call_tuple_of (by rfl) T.tuple bt_tuple (pa_cons (pe_lc (own := [("row", 1)]) (tt := tYes) rfl sc_copied_rows.nd (pi_seq (pv 0)) (blkOk_by (own := [("row", 1)]) (N := ["rows", "row"]) (sc := defScope s_copied_rows) (by decide +kernel)) (fun _ _ _ _ _ => (pg_name (i := 1) sc_copied_rows.nd rfl (Or.inl rfl))) (fun _ _ _ _ _ => pts_nil) (fun _ _ _ _ _ => (pe_callTy (call_tupK (K := K) rfl) (by rfl) T.tuple bt_tuple (pa_cons (pv 1) pa_nil)))) pa_nil)))))), ?_⟩
    -- if not is_listing(rows, MOST_HANDS) or len(rows) == 0: raise
    have e1 : listingV k 6 = true := by
      unfold listingV
      rw [ek]
      refine decide_eq_true ?_
      rw [List.length_map]
      omega
    refine ⟨_, rfl, .ref a, k, 6, rfl, fun H1 s1 => ?_⟩
    rw [e1]
    have ha1 := ha.same s1
    refine ⟨true, rfl, ?_⟩
    have hnz : decide (V.int ((rs.map V.ref).length : Int) = V.int 0) = false := by
      refine decide_eq_false fun c => ?_
      have c2 := V.int.inj c
      rw [List.length_map] at c2
      omega
    refine ⟨_, rfl, a, rs.map V.ref, rfl, ha1.imp (fun h => .inl (.inl h)) (fun h => .inl (.inl h)), rfl, _, rfl, ?_⟩
    rw [hnz]
    -- for row in rows
    refine ⟨_, rfl, a, rfl, seq_of (K := K) ha1.ta fun J G wk hG => for_it wk (fun i σ H2 => ∃ v : Option V, σ = [some (.ref a), v] ∧ Same H1 H2) ⟨_, rfl, Same.refl _⟩ (fun i σ H2 _ ⟨_, _, sm⟩ => hG _ sm) ?_ ?_⟩
    · rintro i x σ H2 H3 hi ⟨v, rfl, sm⟩ ⟨rfl, ex⟩
      obtain ⟨r, er, rfl⟩ := map_get ex
      obtain ⟨xs, exs⟩ := get_of hl er
      obtain ⟨kr, ekr⟩ := ((hrs i r xs er exs).same (s1.trans sm)).kd
      refine ⟨_, rfl, (by show 2 ≤ sizeLine; decide), fun p np => ?_⟩
      have s2 : Same H3 (upd H3 p (.tup [.ty "list", .ty "tuple"])) := same_new np
      have e2 : (kr.up s2).list?.isSome = true := by
        cases kr <;> first | rfl | cases ekr
      refine ⟨.ref r, p, [.ty "list", .ty "tuple"], _, [.type "list", .type "tuple"], _, rfl, upd_same, .cons (.ty _) (.cons (.ty _) .nil), (kr.up s2).tyx, (kr.up s2).kitLT, _, rfl, ?_⟩
      rw [e2]
      exact ⟨_, rfl, sm.trans s2⟩
    · rintro σ H2 ⟨v, rfl, sm⟩
      -- return tuple([tuple(row) for row in rows])
      have ha2 := ha1.same sm
      refine ⟨_, rfl, a, rfl, seq_of (K := K) ha2.ta fun J G wk hG => fun D nD => lc_it wk (fun i H3 => ∃ ts : List Addr, H3 D = some (.lst (ts.map V.ref)) ∧ ts.length = i ∧ Same H2 H3 ∧ ∀ (j : Nat) (t : Addr) (xs : List V), ts[j]? = some t → xss[j]? = some xs → H3 t = some (.tup xs)) ⟨[], upd_same, rfl, same_new nD, fun j t xs e => by cases e⟩ (fun i H3 _ ⟨_, _, _, sm2, _⟩ => hG _ sm2) ?_ ?_⟩
      · rintro i x H3 H4 hi ⟨ts, hD, hlen, sm2, hts⟩ ⟨rfl, ex⟩
        rw [List.length_map] at hi
        obtain ⟨r, er, rfl⟩ := map_get ex
        obtain ⟨xs, exs⟩ := get_of hl er
        have hr2 := (hrs i r xs er exs).same ((s1.trans sm).trans sm2)
        have step : ∀ (t : Addr) (H5 : Hp), Same H4 H5 → H5 t = some (.tup xs) → ∃ acc : List V, H5 D = some (.lst acc) ∧ acc.length < sizeLine ∧ ∃ ts2 : List Addr, (upd H5 D (.lst (acc ++ [.ref t]))) D = some (.lst (ts2.map V.ref)) ∧ ts2.length = i + 1 ∧ Same H2 (upd H5 D (.lst (acc ++ [.ref t]))) ∧ ∀ (j : Nat) (t2 : Addr) (ys : List V), ts2[j]? = some t2 → xss[j]? = some ys → (upd H5 D (.lst (acc ++ [.ref t]))) t2 = some (.tup ys) := by
          intro t H5 s5 ht
          have hD5 := s5 _ _ hD
          refine ⟨_, hD5, by rw [List.length_map]; exact small1000 (by omega), ts ++ [t], by rw [upd_same, List.map_append]; rfl, by rw [List.length_append, hlen]; rfl, fun b o e => ?_, fun j t2 ys e1 e2 => ?_⟩
          · rw [upd_ne (ne_of_none e nD)]
            exact s5 _ _ (sm2 _ _ e)
          · have k2 : H5 t2 = some (.tup ys) := by
              rcases snoc_get e1 with e1 | ⟨rfl, rfl⟩
              · exact s5 _ _ (hts j t2 ys e1 e2)
              · rw [hlen] at e2
                rw [Option.some.inj (e2.symm.trans exs)]
                exact ht
            have nt : t2 ≠ D := fun z => by
              rw [z, hD5] at k2
              cases k2
            rw [upd_ne nt]
            exact k2
        refine ⟨rfl, ?_⟩
        refine ⟨_, rfl, r, xs, rfl, ?_⟩
        rcases hr2 with h | h
        · exact .inl ⟨.inl (.inl h), fun t nt => step t _ (same_new nt) upd_same⟩
        · exact .inr ⟨.inl (.inl h), step r _ (Same.refl _) h⟩
      · rintro H3 ⟨ts, hD, hlen, sm2, hts⟩
        refine ⟨D, ts.map V.ref, rfl, .inl ⟨.inl (.inl hD), fun p np => ?_⟩⟩
        have s4 : Same H3 (upd H3 p (.tup (ts.map V.ref))) := same_new np
        refine q _ p (((s1.trans sm).trans sm2).trans s4) ⟨ts, upd_same, by rw [hlen, List.length_map]; exact hl, fun i t xs e1 e2 => s4 _ _ (hts i t xs e1 e2)⟩
end
end Up

/-! doings, rows of doings, and where each stands (no Python here) -/
namespace Up
open PySem PySem.Spec PyProof.Rows L2
structure Dg where
  s : Bool
  l : Nat
  deriving DecidableEq
def Dg.word (g : Dg) : Str := if g.s then "send" else "get"
def Dg.key (g : Dg) : List Key := [.inr g.word, .inl (g.l : Int)]
def Dg.vs (g : Dg) : List V := [.str g.word, .int (g.l : Int)]
theorem Dg.key_vs (g : Dg) : g.key.map kV = g.vs := rfl
theorem word_ne : ("send" : Str) ≠ "get" := by decide +kernel
theorem Dg.key_inj {g g' : Dg} (h : g.key = g'.key) : g = g' := by
  obtain ⟨s, l⟩ := g
  obtain ⟨s', l'⟩ := g'
  have h1 := List.cons.inj h
  have h2 := List.cons.inj h1.2
  have e1 : (if s then ("send" : Str) else "get") = (if s' then ("send" : Str) else "get") := Sum.inr.inj h1.1
  have e2 : (l : Int) = (l' : Int) := Sum.inl.inj h2.1
  have e3 : l = l' := by omega
  subst e3
  cases s <;> cases s' <;> first | rfl | exact absurd e1 word_ne | exact absurd e1.symm word_ne
abbrev Pl := Dg × Nat × Nat
/-- a row of the hand h, from the number n on -/
def plRow (h n : Nat) : List Dg → List Pl
  | [] => []
  | g :: r => (g, h, n) :: plRow h (n + 1) r
/-- the rows from the hand h on -/
def plAll (h : Nat) : List (List Dg) → List Pl
  | [] => []
  | r :: rs => plRow h 0 r ++ plAll (h + 1) rs
theorem plRow_app (h : Nat) : ∀ (a b : List Dg) (n : Nat), plRow h n (a ++ b) = plRow h n a ++ plRow h (n + a.length) b
  | [], b, n => rfl
  | g :: a, b, n => by
    show (g, h, n) :: plRow h (n + 1) (a ++ b) = _
    rw [plRow_app h a b (n + 1), List.length_cons, show n + (a.length + 1) = n + 1 + a.length by omega]
    rfl
theorem plAll_app : ∀ (a b : List (List Dg)) (h : Nat), plAll h (a ++ b) = plAll h a ++ plAll (h + a.length) b
  | [], b, h => rfl
  | r :: a, b, h => by
    show plRow h 0 r ++ plAll (h + 1) (a ++ b) = _
    rw [plAll_app a b (h + 1), List.length_cons, show h + (a.length + 1) = h + 1 + a.length by omega, ← List.append_assoc]
    rfl
theorem take_snoc {α : Type} {l : List α} {i : Nat} {x : α} (h : l[i]? = some x) : l.take (i + 1) = l.take i ++ [x] := by
  rw [List.take_add_one, h]
  rfl
theorem plRow_snoc {h : Nat} {gs : List Dg} {j : Nat} {g : Dg} (e : gs[j]? = some g) : plRow h 0 (gs.take (j + 1)) = plRow h 0 (gs.take j) ++ [(g, h, j)] := by
  have h1 := (List.getElem?_eq_some_iff.mp e).1
  rw [take_snoc e, plRow_app, List.length_take, Nat.min_eq_left (by omega), Nat.zero_add]
  rfl
theorem plAll_snoc {gss : List (List Dg)} {i : Nat} {gs : List Dg} (e : gss[i]? = some gs) : plAll 0 (gss.take (i + 1)) = plAll 0 (gss.take i) ++ plRow i 0 gs := by
  have h1 := (List.getElem?_eq_some_iff.mp e).1
  rw [take_snoc e, plAll_app, List.length_take, Nat.min_eq_left (by omega), Nat.zero_add]
  show _ ++ (plRow i 0 gs ++ []) = _
  rw [List.append_nil]
/-- what is gone through, behind i rows and j doings more -/
def plTo (gss : List (List Dg)) (i : Nat) (gs : List Dg) (j : Nat) : List Pl := plAll 0 (gss.take i) ++ plRow i 0 (gs.take j)
theorem plTo_pre {gss : List (List Dg)} {i j : Nat} {gs : List Dg} (e : gss[i]? = some gs) : ∃ r, plAll 0 gss = plTo gss i gs j ++ r := by
  have h1 : plAll 0 gss = plAll 0 (gss.take (i + 1)) ++ plAll (0 + (gss.take (i + 1)).length) (gss.drop (i + 1)) := by
    rw [← plAll_app, List.take_append_drop]
  have h2 : plRow i 0 gs = plRow i 0 (gs.take j) ++ plRow i (0 + (gs.take j).length) (gs.drop j) := by
    rw [← plRow_app, List.take_append_drop]
  rw [plAll_snoc e, h2] at h1
  refine ⟨plRow i (0 + (gs.take j).length) (gs.drop j) ++ plAll (0 + (gss.take (i + 1)).length) (gss.drop (i + 1)), ?_⟩
  rw [h1]
  simp only [plTo, List.append_assoc]
theorem plTo_snoc {gss : List (List Dg)} {i j : Nat} {gs : List Dg} {g : Dg} (e : gs[j]? = some g) : plTo gss i gs (j + 1) = plTo gss i gs j ++ [(g, i, j)] := by
  unfold plTo
  rw [plRow_snoc e, List.append_assoc]
theorem plTo_end {gss : List (List Dg)} {i : Nat} {gs : List Dg} (e : gss[i]? = some gs) : plTo gss i gs gs.length = plAll 0 (gss.take (i + 1)) := by
  unfold plTo
  rw [List.take_length, plAll_snoc e]
theorem plTo_zero {gss : List (List Dg)} {i : Nat} {gs : List Dg} : plTo gss i gs 0 = plAll 0 (gss.take i) := by
  unfold plTo
  rw [List.take_zero]
  show _ ++ [] = _
  rw [List.append_nil]
/-- each doing stands once -/
def Once (gss : List (List Dg)) : Prop := ((plAll 0 gss).map (·.1)).Nodup
theorem Once.fresh {gss : List (List Dg)} (o : Once gss) {i j : Nat} {gs : List Dg} {g : Dg} (e : gss[i]? = some gs) (eg : gs[j]? = some g) : g ∉ (plTo gss i gs j).map (·.1) := by
  obtain ⟨r, h⟩ := plTo_pre (j := j + 1) e
  unfold Once at o
  rw [h, plTo_snoc eg, List.map_append, List.map_append] at o
  have o2 := (List.nodup_append.mp o).1
  have o3 := (List.nodup_append.mp o2).2.2
  intro hm
  exact o3 g hm g (List.mem_cons_self ..) rfl
theorem nd_len {α : Type} [DecidableEq α] : ∀ {a b : List α}, a.Nodup → (∀ x ∈ a, x ∈ b) → a.length ≤ b.length
  | [], _, _, _ => Nat.zero_le _
  | x :: a, b, nd, h => by
    have hx : x ∈ b := h x (List.mem_cons_self ..)
    have ih := nd_len (a := a) (b := b.erase x) (List.nodup_cons.mp nd).2 fun y hy => (List.mem_erase_of_ne (fun (c : y = x) => (List.nodup_cons.mp nd).1 (by rw [← c]; exact hy))).mpr (h y (List.mem_cons_of_mem _ hy))
    have hl := List.length_erase_of_mem hx
    have hp : 0 < b.length := List.length_pos_of_mem hx
    rw [List.length_cons]
    omega
end Up

namespace Up
open PySem PySem.Spec PyProof.Rows L2
abbrev s_found_places : Stmt := (topS 17)
theorem sc_found_places : FnScope ["rows", "places", "hand", "row", "number", "item"] ["rows"] (defScope s_found_places) := ⟨rfl, rfl, rfl, by decide +kernel, rfl, by decide +kernel, by decide +kernel⟩
/-- rows of doings, as a tuple of tuples of tuples -/
structure RowsD (H : Hp) (p : Addr) (gss : List (List Dg)) : Prop where
  ex : ∃ ts : List Addr, H p = some (.tup (ts.map V.ref)) ∧ ts.length = gss.length ∧ ∀ (i : Nat) (t : Addr) (gs : List Dg), ts[i]? = some t → gss[i]? = some gs →
    ∃ qs : List Addr, H t = some (.tup (qs.map V.ref)) ∧ qs.length = gs.length ∧ ∀ (j : Nat) (q : Addr) (g : Dg), qs[j]? = some q → gs[j]? = some g → H q = some (.tup g.vs)
theorem RowsD.same {H H' : Hp} {p : Addr} {gss : List (List Dg)} (s : Same H H') (h : RowsD H p gss) : RowsD H' p gss := by
  obtain ⟨ts, h1, h2, h3⟩ := h.ex
  refine ⟨ts, s _ _ h1, h2, fun i t gs e1 e2 => ?_⟩
  obtain ⟨qs, k1, k2, k3⟩ := h3 i t gs e1 e2
  exact ⟨qs, s _ _ k1, k2, fun j q g e3 e4 => s _ _ (k3 j q g e3 e4)⟩
/-- a dict: where each doing stands -/
structure DictP (H : Hp) (kvs : List (List Key × V)) (pl : List Pl) : Prop where
  ks : kvs.map (·.1) = pl.map fun t => t.1.key
  vs : ∀ (i : Nat) (g : Dg) (h n : Nat), pl[i]? = some (g, h, n) → ∃ q, kvs[i]? = some (g.key, .ref q) ∧ H q = some (.tup [.int (h : Int), .int (n : Int)])
theorem DictP.same {H H' : Hp} {kvs : List (List Key × V)} {pl : List Pl} (s : Same H H') (d : DictP H kvs pl) : DictP H' kvs pl :=
  ⟨d.ks, fun i g h n e => let ⟨q, h1, h2⟩ := d.vs i g h n e; ⟨q, h1, s _ _ h2⟩⟩
theorem DictP.len {H : Hp} {kvs : List (List Key × V)} {pl : List Pl} (d : DictP H kvs pl) : kvs.length = pl.length := by
  have e := congrArg List.length d.ks
  simpa using e
theorem val_none {κ : Type} [DecidableEq κ] {kvs : List (κ × V)} {k : κ} (h : k ∉ kvs.map (·.1)) : valV kvs k = none := by
  unfold valV
  rw [List.find?_eq_none.mpr]
  · rfl
  · intro p hp c
    exact h (of_decide_eq_true c ▸ List.mem_map_of_mem hp)
theorem DictP.none {H : Hp} {kvs : List (List Key × V)} {pl : List Pl} (d : DictP H kvs pl) {g : Dg} (h : g ∉ pl.map (·.1)) : valV kvs g.key = Option.none := by
  refine val_none fun c => ?_
  rw [d.ks] at c
  obtain ⟨t, ht, e⟩ := List.mem_map.mp c
  exact h (Dg.key_inj e ▸ List.mem_map_of_mem ht)
theorem DictP.snoc {H H' : Hp} {kvs : List (List Key × V)} {pl : List Pl} (d : DictP H kvs pl) (s : ∀ b o, H b = some o → (∃ xs, o = .tup xs) → H' b = some o) {g : Dg} {h n : Nat} {q : Addr} (hq : H' q = some (.tup [.int (h : Int), .int (n : Int)])) : DictP H' (kvs ++ [(g.key, .ref q)]) (pl ++ [(g, h, n)]) := by
  refine ⟨by rw [List.map_append, List.map_append, d.ks]; rfl, fun i g' h' n' e => ?_⟩
  rcases snoc_get e with e | ⟨e1, e2⟩
  · obtain ⟨q', k1, k2⟩ := d.vs i g' h' n' e
    have lt := (List.getElem?_eq_some_iff.mp k1).1
    exact ⟨q', by rw [List.getElem?_append_left lt]; exact k1, s _ _ k2 ⟨_, rfl⟩⟩
  · cases e2
    refine ⟨q, ?_, hq⟩
    rw [e1, ← d.len, List.getElem?_append_right (Nat.le_refl _), Nat.sub_self]
    rfl
section
variable {P : Program} {w : World} {K : PySem.W.Frag} {mg : Str → Option Value} {base : Heap}
def spPlaces : Sp := fun vs H Q _ => ∃ (p : Addr) (gss : List (List Dg)), vs = [.ref p] ∧ RowsD H p gss ∧ (∀ t ∈ plAll 0 gss, t.1.l < 12) ∧ Once gss ∧ (plAll 0 gss).length ≤ 1000 ∧
  ∀ H' d kvs, Same H H' → H d = none → H' d = some (.dT kvs) → DictP H' kvs (plAll 0 gss) → Q (.ref d) H'
structure TxtP (K : PySem.W.Frag) (mg : Str → Option Value) (fD : Addr) : Prop extends TxtC mg where
  g_is_doing : mg "is_doing" = some (.ref fD)
  g_MOST_LETTERS : ∃ t, mg "MOST_LETTERS" = some (.int 12 t)
theorem doing_kd {H : Hp} {q : Addr} {g : Dg} (h : H q = some (.tup g.vs)) (hl : g.l < 12) : ∃ k : Kd H (.ref q), k.doing 12 = true ∧ ∀ x y, k.couple = some (x, y) → Nonempty (Kd H x) ∧ Nonempty (Kd H y) := by
  refine ⟨.tup q g.vs h, ?_, fun x y e => ?_⟩
  · show (wordV (.str g.word) && indexV (.int (g.l : Int)) 12) = true
    have e1 : wordV (.str g.word) = true := by
      unfold Dg.word
      cases g.s <;> decide +kernel
    rw [e1]
    show (true && (decide (0 ≤ (g.l : Int)) && decide ((g.l : Int) < 12))) = true
    rw [decide_eq_true (by omega), decide_eq_true (by omega)]
    rfl
  · cases e
    exact ⟨⟨.str _⟩, ⟨.int _⟩⟩
theorem ok_places {f fD : Addr} {fd fdD : FuncData} (F : Fun K "found_places" "found_places" s_found_places f fd) (T : TxtP K mg fD) (F_is_doing : Fun K "is_doing" "is_doing" s_is_doing fD fdD) (b_is_doing : Binds K fdD ["value", "many"] []) (G_is_doing : FnOk P w K mg base CX0 3 fD fdD ["value", "many"] spDoing) :
    FnOk P w K mg base CX0 4 f fd ["rows"] spPlaces := by
  refine F.ok sc_found_places (fun vs H Q E h => ?_) (fun cdv A outer s H vs Q E hr h => ?_)
  · obtain ⟨p, gss, rfl, _⟩ := h
    rfl
  · obtain ⟨p, gss, rfl, hR, hl12, ho, hsz, q⟩ := h
    obtain ⟨tk, gML⟩ := T.g_MOST_LETTERS
    have hu := hu_of hr
    have hr_is_doing : Room 3 _ := hr.mono (by decide)
    obtain ⟨ts, hp, hts, hrow⟩ := hR.ex
    refine ⟨_, (pss_cons (ps_set (i := 1) sc_found_places.nd rfl (Or.inl rfl) pe_dnewT) (pss_cons (ps_for PassesOwn.never rfl (pi_enT (by rfl) T.enumerate (pa_cons (pv 0) pa_nil)) (pg_tup (by rfl) (pgs_cons (pg_name (i := 2) sc_found_places.nd rfl (Or.inl rfl)) (pgs_cons (pg_name (i := 3) sc_found_places.nd rfl (Or.inl rfl)) pgs_nil))) (pss_one (ps_for PassesOwn.never rfl (pi_enT (by rfl) T.enumerate (pa_cons (pv 3) pa_nil)) (pg_tup (by rfl) (pgs_cons (pg_name (i := 4) sc_found_places.nd rfl (Or.inl rfl)) (pgs_cons (pg_name (i := 5) sc_found_places.nd rfl (Or.inl rfl)) pgs_nil))) (pss_cons (ps_if (PW.pt (pw_or (pt_not (pt_val (pe_call G_is_doing hr_is_doing (by rfl) T.g_is_doing F_is_doing.kp b_is_doing .nil pass0 (pa_cons (pv 5) (pa_cons (pe_glob (v := .int 12) rfl gML ⟨_, rfl⟩) pa_nil))))) (pw_or1 (pt_cmp (pc_din hu (pv 5) (pv 1)))))) (pss_one ps_never) pss_nil) (pss_one (ps_dput hu (pv 1) (pv 5) (pe_tup (pa_cons (pv 2) (pa_cons (pv 4) pa_nil))) rfl)))))) (pss_one (ps_ret (pv 1))))), ?_⟩
    intro d nd
    have s0 : Same H (upd H d (.dT [])) := same_new nd
    refine ⟨_, rfl, p, _, rfl, .inl (.inl (s0 _ _ hp)), for_it walk_enT (fun i σ H2 => ∃ (v2 v3 v4 v5 : Option V) (kvs : List (List Key × V)), σ = [some (.ref p), some (.ref d), v2, v3, v4, v5] ∧ Same H H2 ∧ H2 d = some (.dT kvs) ∧ DictP H2 kvs (plAll 0 (gss.take i))) ⟨_, _, _, _, [], rfl, s0, upd_same, rfl, fun i g h n e => by cases e⟩ (fun i σ H2 _ ⟨_, _, _, _, _, _, sm, _⟩ => .inl (.inl (sm _ _ hp))) ?_ ?_⟩
    · rintro i x σ H2 H3 hi ⟨v2, v3, v4, v5, kvs, rfl, sm, hd, dp⟩ ⟨U, x1, x2, rfl, nU, rfl, e1, e2⟩
      obtain rfl : x1 = .int (i : Int) := (Option.some.inj e1).symm
      obtain ⟨t, et, rfl⟩ := map_get e2
      obtain ⟨gs, egs⟩ := get_of hts et
      obtain ⟨qs, ht, hql, hqs⟩ := hrow i t gs et egs
      have sU : Same H2 (upd H2 U (.tup [.int (i : Int), .ref t])) := same_new nU
      refine ⟨U, _, rfl, .inl (.inl upd_same), rfl, _, _, rfl, _, _, rfl, rfl, ?_⟩
      refine ⟨_, rfl, t, _, rfl, .inl (.inl (sU _ _ (sm _ _ ht))), for_it walk_enT (fun j σ H4 => ∃ (v4 v5 : Option V) (kvs : List (List Key × V)), σ = [some (.ref p), some (.ref d), some (.int (i : Int)), some (.ref t), v4, v5] ∧ Same H H4 ∧ H4 d = some (.dT kvs) ∧ DictP H4 kvs (plTo gss i gs j)) ⟨_, _, kvs, rfl, sm.trans sU, sU _ _ hd, by rw [plTo_zero]; exact dp.same sU⟩ (fun j σ H4 _ ⟨_, _, _, _, sm4, _⟩ => .inl (.inl (sm4 _ _ ht))) ?_ ?_⟩
      · rintro j x σ H4 H5 hj ⟨v4, v5, kvs, rfl, sm4, hd4, dp4⟩ ⟨W, x1, x2, rfl, nW, rfl, e3, e4⟩
        obtain rfl : x1 = .int (j : Int) := (Option.some.inj e3).symm
        obtain ⟨qd, eq, rfl⟩ := map_get e4
        obtain ⟨g, eg⟩ := get_of hql eq
        have hg := hqs j qd g eq eg
        have sW : Same H4 (upd H4 W (.tup [.int (j : Int), .ref qd])) := same_new nW
        refine ⟨W, _, rfl, .inl (.inl upd_same), rfl, _, _, rfl, _, _, rfl, rfl, ?_⟩
        -- if not is_doing(item, MOST_LETTERS) or item in places: raise
        have hgl : g.l < 12 := by
          obtain ⟨r, er⟩ := plTo_pre (j := j + 1) egs
          refine hl12 (g, i, j) ?_
          rw [er, plTo_snoc eg]
          simp
        obtain ⟨k, ek, kp⟩ := doing_kd (sW _ _ (sm4 _ _ hg)) hgl
        refine ⟨_, rfl, .ref qd, k, 12, rfl, kp, fun H6 s6 => ?_⟩
        rw [ek]
        have hd6 := s6 _ _ (sW _ _ hd4)
        have hg6 := s6 _ _ (sW _ _ (sm4 _ _ hg))
        have dp6 := (dp4.same sW).same s6
        have fr : valV kvs g.key = none := dp6.none (ho.fresh egs eg)
        refine ⟨true, rfl, ?_⟩
        refine ⟨_, rfl, _, rfl, d, _, rfl, DGet.t (k := g.key) hd6 hg6, ?_⟩
        rw [fr]
        refine ⟨_, rfl, ?_⟩
        -- places[item] = (hand, number)
        refine ⟨_, rfl, _, rfl, (by show 2 ≤ sizeLine; decide), fun z nz => ?_⟩
        have sz : Same H6 (upd H6 z (.tup [.int (i : Int), .int (j : Int)])) := same_new nz
        have lk : kvs.length < sizeLine := by
          refine small1000 ?_
          obtain ⟨r, er⟩ := plTo_pre (j := j) egs
          have e := congrArg List.length er
          rw [List.length_append, ← dp6.len] at e
          omega
        refine ⟨_, rfl, _, rfl, d, _, rfl, DPut.t (k := g.key) (sz _ _ hd6) (sz _ _ hg6) lk, ?_⟩
        rw [putK_new _ fr]
        have nzd : z ≠ d := fun c => by
          rw [c, hd6] at nz
          cases nz
        refine ⟨_, _, _, rfl, fun b o e => ?_, upd_same, ?_⟩
        · rw [upd_ne (ne_of_none e nd)]
          exact sz _ _ (s6 _ _ (sW _ _ (sm4 _ _ e)))
        · rw [plTo_snoc eg]
          refine dp6.snoc (fun b o e ⟨xs, ex⟩ => ?_) ?_
          · have nb : b ≠ d := fun c => by
              rw [c, hd6] at e
              rw [ex] at e
              cases e
            rw [upd_ne nb]
            exact sz _ _ e
          · rw [upd_ne nzd]
            exact upd_same
      · rintro σ H4 ⟨v4, v5, kvs, rfl, sm4, hd4, dp4⟩
        rw [List.length_map, hql, plTo_end egs] at dp4
        exact ⟨_, _, _, _, kvs, rfl, sm4, hd4, dp4⟩
    · rintro σ H2 ⟨v2, v3, v4, v5, kvs, rfl, sm, hd, dp⟩
      rw [List.length_map, hts, List.take_length] at dp
      exact ⟨_, rfl, q H2 d kvs sm nd hd dp⟩
end
end Up

namespace Up
open PySem PySem.Spec PyProof.Rows L2
abbrev s_count_letters : Stmt := (topS 18)
abbrev s_check_letters : Stmt := (topS 19)
abbrev s_found_hands : Stmt := (topS 20)
theorem sc_count_letters : FnScope ["places", "word", "letter"] ["places"] (defScope s_count_letters) := ⟨rfl, rfl, rfl, by decide +kernel, rfl, by decide +kernel, by decide +kernel⟩
theorem sc_check_letters : FnScope ["places", "many", "letter", "sending", "getting"] ["places", "many"] (defScope s_check_letters) := ⟨rfl, rfl, rfl, by decide +kernel, rfl, by decide +kernel, by decide +kernel⟩
theorem sc_found_hands : FnScope ["places", "word", "many", "letter"] ["places", "word", "many"] (defScope s_found_hands) := ⟨rfl, rfl, rfl, by decide +kernel, rfl, by decide +kernel, by decide +kernel⟩
structure TxtM (mg : Str → Option Value) : Prop extends TxtC mg where
  max : mg "max" = none
theorem val_some {κ : Type} [DecidableEq κ] : ∀ {kvs : List (κ × V)} {i : Nat} {k : κ} {v : V}, (kvs.map (·.1)).Nodup → kvs[i]? = some (k, v) → valV kvs k = some v
  | [], i, k, v, _, h => by simp at h
  | p :: r, 0, k, v, nd, h => by
    have e : p = (k, v) := Option.some.inj h
    subst e
    exact valV_pos rfl
  | p :: r, i + 1, k, v, nd, h => by
    rw [List.map_cons] at nd
    have hm : k ∈ r.map (·.1) := List.mem_map_of_mem (f := (·.1)) (List.mem_of_getElem? (show r[i]? = some (k, v) from h))
    have ne : ¬ p.1 = k := fun c => (List.nodup_cons.mp nd).1 (c ▸ hm)
    rw [valV_neg ne]
    exact val_some (List.nodup_cons.mp nd).2 (show r[i]? = some (k, v) from h)
theorem DictP.get {H : Hp} {kvs : List (List Key × V)} {pl : List Pl} (d : DictP H kvs pl) (nd : (pl.map (·.1)).Nodup) {g : Dg} {h n : Nat} (hm : (g, h, n) ∈ pl) : ∃ q, valV kvs g.key = some (.ref q) ∧ H q = some (.tup [.int (h : Int), .int (n : Int)]) := by
  obtain ⟨i, lt, e⟩ := List.getElem_of_mem hm
  obtain ⟨q, h1, h2⟩ := d.vs i g h n (List.getElem?_eq_some_iff.mpr ⟨lt, e⟩)
  refine ⟨q, val_some ?_ h1, h2⟩
  rw [d.ks]
  have e2 : (pl.map fun t => t.1.key) = (pl.map (·.1)).map Dg.key := by
    rw [List.map_map]
    rfl
  rw [e2]
  exact List.Pairwise.map _ (fun a b c e => c (Dg.key_inj e)) nd
section
variable {P : Program} {w : World} {K : PySem.W.Frag} {mg : Str → Option Value} {base : Heap}
def spCount : Sp := fun vs H Q _ => ∃ (d : Addr) (kvs : List (List Key × V)) (pl : List Pl) (many : Nat), vs = [.ref d] ∧ H d = some (.dT kvs) ∧ DictP H kvs pl ∧ pl.length ≤ 1000 ∧ (∀ t ∈ pl, t.1.l < many) ∧ (0 < many → ∃ t ∈ pl, t.1.l + 1 = many) ∧
  ∀ H', Same H H' → Q (.int (many : Int)) H'
theorem ok_count {f : Addr} {fd : FuncData} (F : Fun K "count_letters" "count_letters" s_count_letters f fd) (T : TxtM mg) : FnOk P w K mg base CX0 1 f fd ["places"] spCount := by
  refine F.ok sc_count_letters (fun vs H Q E h => ?_) (fun cdv A outer s H vs Q E hr h => ?_)
  · obtain ⟨d, kvs, pl, many, rfl, _⟩ := h
    rfl
  · obtain ⟨d, kvs, pl, many, rfl, hd, dp, hsz, hlt, hex, q⟩ := h
    refine ⟨_, (pss_one (ps_ret (pe_callBK (call_maxD rfl hr.units) (by rfl) T.max bb_max (pa_cons (pe_lock (pe_lc (own := [("word", 1), ("letter", 2)]) (tt := tYes) rfl sc_count_letters.nd (pi_keys (pv 0)) (blkOk_by (own := [("word", 1), ("letter", 2)]) (N := ["places", "word", "letter"]) (sc := defScope s_count_letters) (by decide +kernel)) (fun _ _ _ _ _ => (pg_tupK (K := K) (n := 2) rfl (by rfl) (pgs_cons (pg_name (i := 1) sc_count_letters.nd rfl (Or.inl rfl)) (pgs_cons (pg_name (i := 2) sc_count_letters.nd rfl (Or.inl rfl)) pgs_nil)))) (fun _ _ _ _ _ => pts_nil) (fun _ _ _ _ _ => (pe_op op_add (pv 2) pe_int)))) pa_nil) (pk_cons pe_int pk_nil)))), ?_⟩
    refine ⟨d, .dT kvs, hd, True.intro, fun od => ?_⟩
    have k0 : ∀ b o, H b = some o → b ≠ d → (upd H d (.frz od (.dT kvs))) b = some o := fun b o e n => by
      rw [upd_ne n]
      exact e
    refine ⟨_, rfl, d, od, rfl, .inr ⟨kvs, upd_same, fun D nD => lc_it walk_keysT (fun i H2 => H2 D = some (.lst (iL ((pl.take i).map fun t => ((t.1.l : Int) + 1)))) ∧ H2 d = some (.frz od (.dT kvs)) ∧ ∀ b o, H b = some o → b ≠ d → H2 b = some o) ⟨upd_same, ?_, fun b o e n => ?_⟩ (fun i H2 _ ⟨_, h2, _⟩ => h2) ?_ ?_⟩⟩
    · rw [upd_ne (fun c => by rw [← c, upd_same] at nD; cases nD)]
      exact upd_same
    · have z := k0 b o e n
      rw [upd_ne (ne_of_none z nD)]
      exact z
    · rintro i x H2 H3 hi ⟨hD, hd2, kf⟩ ⟨rfl, k, v, qd, ek, rfl, hq⟩
      have hil : i < pl.length := by
        rw [← dp.len]
        exact hi
      obtain ⟨⟨g, h, n⟩, eg⟩ : ∃ t, pl[i]? = some t := ⟨_, List.getElem?_eq_getElem hil⟩
      obtain ⟨q1, e1, _⟩ := dp.vs i g h n eg
      cases (Option.some.inj (e1.symm.trans ek))
      refine ⟨qd, g.vs, rfl, .inl (.inl hq), rfl, _, _, rfl, _, _, rfl, rfl, rfl, ?_⟩
      refine ⟨_, rfl, _, _, rfl, rfl, _, hD, ?_, ?_, ?_, fun b o e nb => ?_⟩
      · rw [List.length_map, List.length_map, List.length_take]
        exact Nat.lt_of_le_of_lt (Nat.min_le_right _ _) (small1000 hsz)
      · rw [upd_same, iL_app, take_snoc eg, List.map_append]
        rfl
      · rw [upd_ne (fun c => by rw [← c, hd2] at hD; cases hD)]
        exact hd2
      · have z := kf b o e nb
        have z2 : b ≠ D := fun c => by
          have z3 := k0 b o e nb
          rw [c, nD] at z3
          cases z3
        rw [upd_ne z2]
        exact z
    · rintro H2 ⟨hD, hd2, kf⟩
      have eD : pl.take kvs.length = pl := List.take_of_length_le (Nat.le_of_eq dp.len.symm)
      rw [eD] at hD
      have nDd : D ≠ d := fun c => by
        rw [c, hd2] at hD
        cases hD
      have hD' : (upd H2 d (.dT kvs)) D = some (.lst (iL (pl.map fun t => ((t.1.l : Int) + 1)))) := by
        rw [upd_ne nDd]
        exact hD
      have sm : Same H (upd H2 d (.dT kvs)) := fun b o e => by
        by_cases c : b = d
        · subst c
          rw [upd_same, ← e, hd]
        · rw [upd_ne c]
          exact kf b o e c
      refine ⟨hd2, D, _, 0, rfl, rfl, .inl (.inl hD'), fun e0 => ?_, fun m hm hmax => ?_⟩
      · have e1 : pl = [] := List.map_eq_nil_iff.mp e0
        have e2 : many = 0 := by
          rcases Nat.eq_zero_or_pos many with c | c
          · exact c
          · obtain ⟨t, ht, _⟩ := hex c
            rw [e1] at ht
            cases ht
        subst e2
        exact q _ sm
      · obtain ⟨t, ht, rfl⟩ := List.mem_map.mp hm
        have h1 := hlt t ht
        obtain ⟨t2, ht2, e2⟩ := hex (by omega)
        have h2 := hmax _ (List.mem_map_of_mem (f := fun t : Pl => ((t.1.l : Int) + 1)) ht2)
        have e3 : ((t.1.l : Int) + 1) = (many : Int) := by
          have h3 : ((t2.1.l : Int) + 1) ≤ ((t.1.l : Int) + 1) := h2
          omega
        show Q (.int ((t.1.l : Int) + 1)) _
        rw [e3]
        exact q _ sm
/-- each letter below many is sent by the hand S, got by the hand G -/
structure Hands (pl : List Pl) (many : Nat) (S G : Nat → Nat) : Prop where
  snd : ∀ l, l < many → ∃ n, (⟨true, l⟩, S l, n) ∈ pl
  got : ∀ l, l < many → ∃ n, (⟨false, l⟩, G l, n) ∈ pl
  ne : ∀ l, l < many → S l ≠ G l
def spCheck : Sp := fun vs H Q _ => ∃ (d : Addr) (kvs : List (List Key × V)) (pl : List Pl) (many : Nat) (S G : Nat → Nat), vs = [.ref d, .int (many : Int)] ∧ H d = some (.dT kvs) ∧ DictP H kvs pl ∧ (pl.map (·.1)).Nodup ∧ many ≤ 12 ∧ Hands pl many S G ∧
  ∀ H', Same H H' → Q .non H'
theorem ok_check {f : Addr} {fd : FuncData} (F : Fun K "check_letters" "check_letters" s_check_letters f fd) (T : TxtM mg) : FnOk P w K mg base CX0 1 f fd ["places", "many"] spCheck := by
  refine F.ok sc_check_letters (fun vs H Q E h => ?_) (fun cdv A outer s H vs Q E hr h => ?_)
  · obtain ⟨d, kvs, pl, many, S, G, rfl, _⟩ := h
    rfl
  · obtain ⟨d, kvs, pl, many, S, G, rfl, hd, dp, nd, h12, hH, q⟩ := h
    have hu := hu_of hr
    refine ⟨_, (pss_one (ps_for PassesOwn.never rfl (pi_range1 (by rfl) T.range (pa_cons (pv 1) pa_nil)) (pg_name (i := 2) sc_check_letters.nd rfl (Or.inl rfl)) (pss_cons (ps_set (i := 3) sc_check_letters.nd rfl (Or.inl rfl) (pe_dget1 hu (pv 0) (pe_tup (pa_cons pe_str (pa_cons (pv 2) pa_nil))) ⟨by rfl, by rfl, by rfl, by rfl⟩)) (pss_cons (ps_set (i := 4) sc_check_letters.nd rfl (Or.inl rfl) (pe_dget1 hu (pv 0) (pe_tup (pa_cons pe_str (pa_cons (pv 2) pa_nil))) ⟨by rfl, by rfl, by rfl, by rfl⟩)) (pss_one (ps_if (PW.pt (pw_or (pt_cmpR op_isN (pv 3) pe_non (nomark _)) (pw_or (pt_cmpR op_isN (pv 4) pe_non (nomark _)) (pw_or1 (pt_cmpR op_eq (pe_ix ix_tup (pv 3) pe_int (fun _ _ => rfl)) (pe_ix ix_tup (pv 4) pe_int (fun _ _ => rfl)) (nomark _)))))) (pss_one ps_never) pss_nil)))))), ?_⟩
    refine ⟨_, rfl, (many : Int), rfl, by omega, by omega, for_range (lo := 0) (n := many) (fun i σ H2 => ∃ (v2 v3 v4 : Option V), σ = [some (.ref d), some (.int (many : Int)), v2, v3, v4] ∧ Same H H2) ⟨_, _, _, rfl, Same.refl H⟩ ?_ ?_⟩
    · rintro i σ H2 hi ⟨v2, v3, v4, rfl, sm⟩
      obtain ⟨n1, m1⟩ := hH.snd i hi
      obtain ⟨n2, m2⟩ := hH.got i hi
      have ei : (0 + (i : Int)) = (i : Int) := by omega
      -- sending = places.get(("send", letter))
      refine ⟨_, rfl, d, rfl, .inr ⟨kvs, .inl (sm _ _ hd)⟩, _, rfl, (by show 2 ≤ sizeLine; decide), fun a na => ?_⟩
      have sa : Same H2 (upd H2 a (.tup [.str "send", .int (0 + (i : Int))])) := same_new na
      obtain ⟨q1, k1, t1⟩ := ((dp.same sm).same sa).get nd m1
      have ha : (upd H2 a (.tup [.str "send", .int (0 + (i : Int))])) a = some (.tup ((Dg.key ⟨true, i⟩).map kV)) := by
        rw [upd_same, ei]
        rfl
      refine ⟨_, DGet.t (k := Dg.key ⟨true, i⟩) (sa _ _ (sm _ _ hd)) ha, ?_⟩
      rw [k1]
      -- getting = places.get(("get", letter))
      revert sa t1 ha
      generalize upd H2 a (.tup [.str "send", .int (0 + (i : Int))]) = H3
      intro sa t1 ha
      refine ⟨_, rfl, d, rfl, .inr ⟨kvs, .inl (sa _ _ (sm _ _ hd))⟩, _, rfl, (by show 2 ≤ sizeLine; decide), fun b nb => ?_⟩
      have sb : Same H3 (upd H3 b (.tup [.str "get", .int (0 + (i : Int))])) := same_new nb
      obtain ⟨q2, k2, t2⟩ := (((dp.same sm).same sa).same sb).get nd m2
      have hb : (upd H3 b (.tup [.str "get", .int (0 + (i : Int))])) b = some (.tup ((Dg.key ⟨false, i⟩).map kV)) := by
        rw [upd_same, ei]
        rfl
      refine ⟨_, DGet.t (k := Dg.key ⟨false, i⟩) (sb _ _ (sa _ _ (sm _ _ hd))) hb, ?_⟩
      rw [k2]
      have t1b := sb _ _ t1
      have sm4 : Same H (upd H3 b (.tup [.str "get", .int (0 + (i : Int))])) := (sm.trans sa).trans sb
      revert t2 t1b sm4
      generalize upd H3 b (.tup [.str "get", .int (0 + (i : Int))]) = H4
      intro t2 t1b sm4
      refine ⟨_, rfl, rfl, _, rfl, ?_⟩
      refine ⟨_, rfl, rfl, _, rfl, ?_⟩
      refine ⟨_, rfl, q1, _, _, _, rfl, rfl, .inl (.inl t1b), atI_nat (j := 0) rfl, ?_⟩
      refine ⟨_, rfl, q2, _, _, _, rfl, rfl, .inl (.inl t2), atI_nat (j := 0) rfl, rfl, _, rfl, ?_⟩
      have e0 : decide (V.int ((S i : Nat) : Int) = V.int ((G i : Nat) : Int)) = false := decide_eq_false fun c => hH.ne i hi (by have := V.int.inj c; omega)
      rw [e0]
      exact ⟨_, _, _, rfl, sm4⟩
    · rintro σ H2 ⟨v2, v3, v4, rfl, sm⟩
      exact q H2 sm
/-- the hands that send the letters, or that get them -/
def spHands (b : Bool) : Sp := fun vs H Q _ => ∃ (d : Addr) (kvs : List (List Key × V)) (pl : List Pl) (many : Nat) (S : Nat → Nat), vs = [.ref d, .str (Dg.word ⟨b, 0⟩), .int (many : Int)] ∧ H d = some (.dT kvs) ∧ DictP H kvs pl ∧ (pl.map (·.1)).Nodup ∧ many ≤ 12 ∧
  (∀ l, l < many → ∃ n, (⟨b, l⟩, S l, n) ∈ pl) ∧ ∀ H' p, Same H H' → H' p = some (.tup (iL ((List.range many).map fun l => ((S l : Nat) : Int)))) → Q (.ref p) H'
theorem ok_hands {f : Addr} {fd : FuncData} {b : Bool} (F : Fun K "found_hands" "found_hands" s_found_hands f fd) (T : TxtM mg) : FnOk P w K mg base CX0 1 f fd ["places", "word", "many"] (spHands b) := by
  refine F.ok sc_found_hands (fun vs H Q E h => ?_) (fun cdv A outer s H vs Q E hr h => ?_)
  · obtain ⟨d, kvs, pl, many, S, rfl, _⟩ := h
    rfl
  · obtain ⟨d, kvs, pl, many, S, rfl, hd, dp, nd, h12, hS, q⟩ := h
    have hu := hu_of hr
    refine ⟨_, (pss_one (ps_ret (pe_callTy call_tuple_of (by rfl) T.tuple bt_tuple (pa_cons (pe_lc (own := [("letter", 3)]) (tt := tYes) rfl sc_found_hands.nd (pi_range1 (by rfl) T.range (pa_cons (pv 2) pa_nil)) (blkOk_by (own := [("letter", 3)]) (N := ["places", "word", "many", "letter"]) (sc := defScope s_found_hands) (by decide +kernel)) (fun _ _ _ _ _ => (pg_name (i := 3) sc_found_hands.nd rfl (Or.inl rfl))) (fun _ _ _ _ _ => pts_nil) (fun _ _ _ _ _ => (pe_ix (ix_tupK (K := K) rfl) (pe_dget hu (pv 0) (pe_tup (pa_cons (pv 1) (pa_cons (pv 3) pa_nil))) (fun _ _ => rfl)) pe_int (fun _ _ => rfl)))) pa_nil)))), ?_⟩
    refine ⟨_, rfl, (many : Int), rfl, by omega, by omega, fun D nD => lc_range (lo := 0) (n := many) (fun i H2 => H2 D = some (.lst (iL ((List.range i).map fun l => ((S l : Nat) : Int)))) ∧ Same H H2) ⟨upd_same, same_new nD⟩ ?_ ?_⟩
    · rintro i H2 hi ⟨hD, sm⟩
      have ei : (0 + (i : Int)) = (i : Int) := by omega
      obtain ⟨n, m⟩ := hS i hi
      refine ⟨rfl, ?_⟩
      refine ⟨_, rfl, _, rfl, _, rfl, (by show 2 ≤ sizeLine; decide), fun a na => ?_⟩
      have sa : Same H2 (upd H2 a (.tup [.str (Dg.word ⟨b, 0⟩), .int (0 + (i : Int))])) := same_new na
      obtain ⟨q1, k1, t1⟩ := ((dp.same sm).same sa).get nd m
      have ha : (upd H2 a (.tup [.str (Dg.word ⟨b, 0⟩), .int (0 + (i : Int))])) a = some (.tup ((Dg.key ⟨b, i⟩).map kV)) := by
        rw [upd_same, ei]
        rfl
      have g1 := DGet.t (k := Dg.key ⟨b, i⟩) (sa _ _ (sm _ _ hd)) ha
      rw [k1] at g1
      refine ⟨d, .ref q1, rfl, g1, q1, _, _, _, rfl, rfl, .inl (.inl t1), atI_nat (j := 0) rfl, ?_⟩
      have nDa : D ≠ a := ne_of_none hD na
      refine ⟨_, sa _ _ hD, ?_, ?_, fun z o e => ?_⟩
      · rw [List.length_map, List.length_map, List.length_range]
        exact small1000 (by omega)
      · rw [upd_same, iL_app, List.range_succ, List.map_append]
        rfl
      · rw [upd_ne (ne_of_none e nD)]
        exact sa _ _ (sm _ _ e)
    · rintro H2 ⟨hD, sm⟩
      refine ⟨D, _, rfl, .inl ⟨.inl (.inl hD), fun p np => ?_⟩⟩
      exact q _ p (sm.trans (same_new np)) upd_same
end
end Up

namespace Up
open PySem PySem.Spec PyProof.Rows L2
abbrev s_row_clocks : Stmt := (topS 22)
theorem sc_row_clocks : FnScope ["hand", "row", "hands", "clocks", "found", "counts", "number", "word", "letter", "sent", "one", "other"] ["hand", "row", "hands", "clocks"] (defScope s_row_clocks) := ⟨rfl, rfl, rfl, by decide +kernel, rfl, by decide +kernel, by decide +kernel⟩
structure TxtZ (mg : Str → Option Value) : Prop extends TxtM mg where
  zip : mg "zip" = none
/-- what is a tuple stays -/
def Tups (H H' : Hp) : Prop := ∀ b xs, H b = some (.tup xs) → H' b = some (.tup xs)
theorem Same.tups {H H' : Hp} (s : Same H H') : Tups H H' := fun b xs e => s _ _ e
theorem Tups.trans {H H1 H2 : Hp} (a : Tups H H1) (b : Tups H1 H2) : Tups H H2 := fun c xs e => b c xs (a c xs e)
theorem Tups.upd {H : Hp} {a : Addr} {o o' : HO} (h : H a = some o) (n : ∀ xs, o ≠ .tup xs) : Tups H (upd H a o') := fun b xs e => by
  rw [upd_ne]
  · exact e
  · intro c
    rw [c, h] at e
    exact n xs (Option.some.inj e)
def mx (i j : Int) : Int := if j > i then j else i
/-- the counts ahead of the n-th doing of a row -/
def prevC (hands : Nat) (Ck : Dg → List Int) (gs : List Dg) : Nat → List Int
  | 0 => List.replicate hands 0
  | n + 1 => match gs[n]? with
    | some g => Ck g
    | none => []
/-- the clocks of a row's doings, each by the one ahead of it, and by its sending -/
def RowCk (hands : Nat) (Ck : Dg → List Int) (h : Nat) (gs : List Dg) : Prop :=
  ∀ n g, gs[n]? = some g → Ck g = (if g.s then prevC hands Ck gs n else List.zipWith mx (prevC hands Ck gs n) (Ck ⟨true, g.l⟩)).set h ((n : Int) + 1)
/-- a dict of clocks -/
structure DictC (Ck : Dg → List Int) (H : Hp) (kvs : List (List Key × V)) (dn : List Dg) : Prop where
  ks : kvs.map (·.1) = dn.map Dg.key
  vs : ∀ (i : Nat) (g : Dg), dn[i]? = some g → ∃ q, kvs[i]? = some (g.key, .ref q) ∧ H q = some (.tup (iL (Ck g)))
theorem DictC.tups {Ck : Dg → List Int} {H H' : Hp} {kvs : List (List Key × V)} {dn : List Dg} (s : Tups H H') (d : DictC Ck H kvs dn) : DictC Ck H' kvs dn :=
  ⟨d.ks, fun i g e => let ⟨q, h1, h2⟩ := d.vs i g e; ⟨q, h1, s _ _ h2⟩⟩
theorem DictC.len {Ck : Dg → List Int} {H : Hp} {kvs : List (List Key × V)} {dn : List Dg} (d : DictC Ck H kvs dn) : kvs.length = dn.length := by
  have e := congrArg List.length d.ks
  simpa using e
theorem DictC.none {Ck : Dg → List Int} {H : Hp} {kvs : List (List Key × V)} {dn : List Dg} (d : DictC Ck H kvs dn) {g : Dg} (h : g ∉ dn) : valV kvs g.key = Option.none := by
  refine val_none fun c => ?_
  rw [d.ks] at c
  obtain ⟨t, ht, e⟩ := List.mem_map.mp c
  exact h (Dg.key_inj e ▸ ht)
theorem DictC.get {Ck : Dg → List Int} {H : Hp} {kvs : List (List Key × V)} {dn : List Dg} (d : DictC Ck H kvs dn) (nd : dn.Nodup) {g : Dg} (hm : g ∈ dn) : ∃ q, valV kvs g.key = some (.ref q) ∧ H q = some (.tup (iL (Ck g))) := by
  obtain ⟨i, lt, e⟩ := List.getElem_of_mem hm
  obtain ⟨q, h1, h2⟩ := d.vs i g (List.getElem?_eq_some_iff.mpr ⟨lt, e⟩)
  refine ⟨q, val_some ?_ h1, h2⟩
  rw [d.ks]
  exact List.Pairwise.map _ (fun a b c e => c (Dg.key_inj e)) nd
theorem DictC.snoc {Ck : Dg → List Int} {H H' : Hp} {kvs : List (List Key × V)} {dn : List Dg} (d : DictC Ck H kvs dn) (s : Tups H H') {g : Dg} {q : Addr} (hq : H' q = some (.tup (iL (Ck g)))) : DictC Ck H' (kvs ++ [(g.key, .ref q)]) (dn ++ [g]) := by
  refine ⟨by rw [List.map_append, List.map_append, d.ks]; rfl, fun i g' e => ?_⟩
  rcases snoc_get e with e | ⟨e1, rfl⟩
  · obtain ⟨q', k1, k2⟩ := d.vs i g' e
    have lt := (List.getElem?_eq_some_iff.mp k1).1
    exact ⟨q', by rw [List.getElem?_append_left lt]; exact k1, s _ _ k2⟩
  · refine ⟨q, ?_, hq⟩
    rw [e1, ← d.len, List.getElem?_append_right (Nat.le_refl _), Nat.sub_self]
    rfl
def readyG (dn : List Dg) (g : Dg) : Bool := g.s || decide ((⟨true, g.l⟩ : Dg) ∈ dn)
/-- a row as far as its gettings find their sendings -/
def reach (dn : List Dg) (gs : List Dg) : List Dg := gs.takeWhile (readyG dn)
theorem reach_all {dn : List Dg} : ∀ {gs : List Dg} {j : Nat}, (∀ i g, i < j → gs[i]? = some g → readyG dn g = true) → j ≤ gs.length → (∀ g, gs[j]? = some g → readyG dn g = false) → reach dn gs = gs.take j
  | [], j, _, _, _ => by simp [reach]
  | g :: r, 0, _, _, h => by
    have e := h g rfl
    simp [reach, List.takeWhile_cons, e]
  | g :: r, j + 1, h, hl, hn => by
    have e := h 0 g (by omega) rfl
    have ih := reach_all (dn := dn) (gs := r) (j := j) (fun i g' hi eg => h (i + 1) g' (by omega) eg) (by simpa using hl) (fun g' eg => hn g' eg)
    unfold reach at ih ⊢
    rw [List.takeWhile_cons, e, ih]
    rfl
theorem rep_ints : ∀ n : Nat, (List.replicate n [V.int 0]).flatten = iL (List.replicate n 0)
  | 0 => rfl
  | n + 1 => by
    rw [List.replicate_succ, List.flatten_cons, rep_ints n, List.replicate_succ]
    rfl
section
variable {P : Program} {w : World} {K : PySem.W.Frag} {mg : Str → Option Value} {base : Heap}
/-- a row of doings at t -/
def RowD (H : Hp) (t : Addr) (gs : List Dg) : Prop := ∃ qs : List Addr, H t = some (.tup (qs.map V.ref)) ∧ qs.length = gs.length ∧ ∀ (j : Nat) (q : Addr) (g : Dg), qs[j]? = some q → gs[j]? = some g → H q = some (.tup g.vs)
def spRowC (Ck : Dg → List Int) : Sp := fun vs H Q _ => ∃ (h : Nat) (t : Addr) (gs : List Dg) (hands : Nat) (c : Addr) (ckv : List (List Key × V)) (dn : List Dg), vs = [.int (h : Int), .ref t, .int (hands : Int), .ref c] ∧ RowD H t gs ∧ H c = some (.dT ckv) ∧ DictC Ck H ckv dn ∧ dn.Nodup ∧ h < hands ∧ hands ≤ 6 ∧
  gs.Nodup ∧ gs.length ≤ 100 ∧ RowCk hands Ck h gs ∧ (∀ g, (Ck g).length = hands) ∧ ∀ H' d kvs, Same H H' → H d = none → H' d = some (.dT kvs) → DictC Ck H' kvs (reach dn gs) → Q (.ref d) H'
theorem ok_rowc {f : Addr} {fd : FuncData} {Ck : Dg → List Int} (F : Fun K "row_clocks" "row_clocks" s_row_clocks f fd) (T : TxtZ mg) : FnOk P w K mg base CX0 1 f fd ["hand", "row", "hands", "clocks"] (spRowC Ck) := by
  refine F.ok sc_row_clocks (fun vs H Q E h => ?_) (fun cdv A outer s H vs Q E hr h => ?_)
  · obtain ⟨h, t, gs, hands, c, ckv, dn, rfl, _⟩ := h
    rfl
  · obtain ⟨h, t, gs, hands, c, ckv, dn, rfl, ⟨qs, ht, hql, hqs⟩, hc, dc, nd, hh, h6, gnd, g100, rck, ckl, q⟩ := h
    have hu := hu_of hr
    refine ⟨_, (pss_cons (ps_set (i := 4) sc_row_clocks.nd rfl (Or.inl rfl) pe_dnewT) (pss_cons (ps_set (i := 5) sc_row_clocks.nd rfl (Or.inl rfl) (pe_op op_rep (pe_lst (pa_cons pe_int pa_nil)) (pv 2))) (pss_cons (ps_for PassesOwn.never rfl (pi_enT (by rfl) T.enumerate (pa_cons (pv 1) pa_nil)) (pg_tup (by rfl) (pgs_cons (pg_name (i := 6) sc_row_clocks.nd rfl (Or.inl rfl)) (pgs_cons (pg_tup (by rfl) (pgs_cons (pg_name (i := 7) sc_row_clocks.nd rfl (Or.inl rfl)) (pgs_cons (pg_name (i := 8) sc_row_clocks.nd rfl (Or.inl rfl)) pgs_nil))) pgs_nil))) (C8.pss_cut (ps_if (pt_cmpR op_eq (pv 7) pe_str (nomark _)) (pss_cons (ps_set (i := 9) sc_row_clocks.nd rfl (Or.inl rfl) (pe_dget1 hu (pv 3) (pe_tup (pa_cons pe_str (pa_cons (pv 8) pa_nil))) ⟨by rfl, by rfl, by rfl, by rfl⟩)) (pss_cons (ps_if (pt_cmpR op_isN (pv 9) pe_non (nomark _)) (pss_one (ps_ret (pv 4))) pss_nil) (pss_one (ps_setLc (i := 5) (own := [("one", 10), ("other", 11)]) (tt := tYes) rfl sc_row_clocks.nd rfl rfl (sw_true rfl rfl rfl (by decide +kernel)) (pi_zpM (by rfl) T.zip (pa_cons (pv 5) (pa_cons (pv 9) pa_nil))) (blkOk_by (own := [("one", 10), ("other", 11)]) (N := ["hand", "row", "hands", "clocks", "found", "counts", "number", "word", "letter", "sent", "one", "other"]) (sc := defScope s_row_clocks) (by decide +kernel)) (fun _ _ _ _ _ => (pg_tupK (K := K) (n := 2) rfl (by rfl) (pgs_cons (pg_name (i := 10) sc_row_clocks.nd rfl (Or.inl rfl)) (pgs_cons (pg_name (i := 11) sc_row_clocks.nd rfl (Or.inl rfl)) pgs_nil)))) (fun _ _ _ _ _ => pts_nil) (fun _ _ _ _ _ => (pe_callB (call_max2 rfl) (by rfl) T.max bb_max (pa_cons (pv 10) (pa_cons (pv 11) pa_nil)))))))) pss_nil) (pss_cons (ps_asg (pe_op op_add (pv 6) pe_int) (pg_sub (pv 5) (pv 0) set_list)) (pss_one (ps_dput hu (pv 4) (pe_tup (pa_cons (pv 7) (pa_cons (pv 8) pa_nil))) (pe_callTy call_tuple_of (by rfl) T.tuple bt_tuple (pa_cons (pv 5) pa_nil)) rfl))))) (pss_one (ps_ret (pv 4)))))), ?_⟩
    intro d nD
    have s0 : Same H (upd H d (.dT [])) := same_new nD
    -- counts = [0] * hands
    refine ⟨(by show 1 ≤ sizeLine; decide), fun l0 nl0 => ?_⟩
    have sl0 : Same (upd H d (.dT [])) (upd (upd H d (.dT [])) l0 (.lst [.int 0])) := same_new nl0
    refine ⟨_, rfl, l0, (hands : Int), _, rfl, rfl, upd_same, by omega, by omega, ?_, fun ca nca => ?_⟩
    · have e : (hands : Int).toNat = hands := by omega
      rw [e]
      show 1 * hands ≤ sizeLine
      rw [Nat.one_mul]
      exact Nat.le_of_lt (small1000 (by omega))
    · rw [show ((hands : Int)).toNat = hands by omega, rep_ints]
      have sca := same_new (o := .lst (iL (List.replicate hands 0))) nca
      have s1 : Same H (upd (upd (upd H d (.dT [])) l0 (.lst [.int 0])) ca (.lst (iL (List.replicate hands 0)))) := (s0.trans sl0).trans sca
      have d1 : (upd (upd (upd H d (.dT [])) l0 (.lst [.int 0])) ca (.lst (iL (List.replicate hands 0)))) d = some (.dT []) := sca _ _ (sl0 _ _ upd_same)
      have c1 : (upd (upd (upd H d (.dT [])) l0 (.lst [.int 0])) ca (.lst (iL (List.replicate hands 0)))) ca = some (.lst (iL (List.replicate hands 0))) := upd_same
      have nHca : H ca = none := (s0.trans sl0).free nca
      revert s1 d1 c1
      generalize upd (upd (upd H d (.dT [])) l0 (.lst [.int 0])) ca (.lst (iL (List.replicate hands 0))) = H1
      intro s1 d1 c1
      have prl : ∀ j, j ≤ gs.length → (prevC hands Ck gs j).length = hands := by
        intro j hj
        cases j with
        | zero => exact List.length_replicate ..
        | succ j =>
          show (match gs[j]? with | some g => Ck g | none => []).length = hands
          rw [List.getElem?_eq_getElem (by omega)]
          exact ckl _
      refine ⟨_, rfl, t, _, rfl, .inl (.inl (s1 _ _ ht)), for_it walk_enT (fun j σ H3 => ∃ (v6 v7 v8 v9 v10 v11 : Option V) (ca : Addr) (kvs : List (List Key × V)), σ = [some (.int (h : Int)), some (.ref t), some (.int (hands : Int)), some (.ref c), some (.ref d), some (.ref ca), v6, v7, v8, v9, v10, v11] ∧ Same H H3 ∧ H ca = none ∧ H3 d = some (.dT kvs) ∧ DictC Ck H3 kvs (gs.take j) ∧
          H3 ca = some (.lst (iL (prevC hands Ck gs j))) ∧ ∀ i g, i < j → gs[i]? = some g → readyG dn g = true) ⟨_, _, _, _, _, _, ca, [], rfl, s1, nHca, d1, ⟨rfl, fun i g e => by cases e⟩, c1, fun i g e => by omega⟩ (fun j σ H3 _ ⟨_, _, _, _, _, _, _, _, _, sm, _⟩ => .inl (.inl (sm _ _ ht))) ?_ ?_⟩
      · rintro j x σ H3 H4 hj ⟨v6, v7, v8, v9, v10, v11, ca, kvs, rfl, sm, nca, hd, dc3, hca, rdy⟩ ⟨U, x1, x2, rfl, nU, rfl, e1, e2⟩
        obtain rfl : x1 = .int (j : Int) := (Option.some.inj e1).symm
        obtain ⟨qd, eq, rfl⟩ := map_get e2
        obtain ⟨g, eg⟩ := get_of hql eq
        have hjl : j < gs.length := (List.getElem?_eq_some_iff.mp eg).1
        have hg := hqs j qd g eq eg
        have sU : Same H3 (upd H3 U (.tup [.int (j : Int), .ref qd])) := same_new nU
        have sm4 := sm.trans sU
        have hd4 := sU _ _ hd
        have hca4 := sU _ _ hca
        have dc4 := dc3.tups (Same.tups sU)
        have hU4 : (upd H3 U (.tup [.int (j : Int), .ref qd])) U = some (.tup [.int (j : Int), .ref qd]) := upd_same
        revert sm4 hd4 hca4 dc4 hU4
        generalize upd H3 U (.tup [.int (j : Int), .ref qd]) = H4
        intro sm4 hd4 hca4 dc4 hU4
        refine ⟨U, _, rfl, .inl (.inl hU4), rfl, _, _, rfl, _, _, rfl, qd, g.vs, rfl, .inl (.inl (sm4 _ _ hg)), rfl, _, _, rfl, _, _, rfl, rfl, rfl, ?_⟩
        -- behind the if: the counts ahead, the sending's taken in
        refine ⟨fun σ' H5 => readyG dn g = true ∧ ∃ (v9 v10 v11 : Option V) (ca : Addr), σ' = [some (.int (h : Int)), some (.ref t), some (.int (hands : Int)), some (.ref c), some (.ref d), some (.ref ca), some (.int (j : Int)), some (.str g.word), some (.int (g.l : Int)), v9, v10, v11] ∧ Same H H5 ∧ H ca = none ∧ H5 d = some (.dT kvs) ∧ DictC Ck H5 kvs (gs.take j) ∧
          H5 ca = some (.lst (iL (if g.s then prevC hands Ck gs j else List.zipWith mx (prevC hands Ck gs j) (Ck ⟨true, g.l⟩)))), ?_, ?_⟩
        · refine ⟨_, rfl, rfl, _, rfl, ?_⟩
          obtain ⟨b, l⟩ := g
          cases b with
          | true =>
            have e0 : decide (V.str (Dg.word ⟨true, l⟩) = V.str "get") = false := decide_eq_false fun z => word_ne (V.str.inj z)
            refine Eq.mpr (if_neg (by rw [e0]; exact Bool.false_ne_true)) ?_
            exact ⟨rfl, _, _, _, ca, rfl, sm4, nca, hd4, dc4, hca4⟩
          | false =>
            have e0 : decide (V.str (Dg.word ⟨false, l⟩) = V.str "get") = true := decide_eq_true rfl
            refine Eq.mpr (if_pos e0) ?_
            -- sent = clocks.get(("send", letter))
            refine ⟨_, rfl, c, rfl, .inr ⟨ckv, .inl (sm4 _ _ hc)⟩, _, rfl, (by show 2 ≤ sizeLine; decide), fun a na => ?_⟩
            have sa : Same H4 (upd H4 a (.tup [.str "send", .int (l : Int)])) := same_new na
            have ha : (upd H4 a (.tup [.str "send", .int (l : Int)])) a = some (.tup ((Dg.key ⟨true, l⟩).map kV)) := upd_same
            have g1 := DGet.t (k := Dg.key ⟨true, l⟩) (sa _ _ (sm4 _ _ hc)) ha
            have sm5 := sm4.trans sa
            have hd5 := sa _ _ hd4
            have hca5 := sa _ _ hca4
            have dc5 := dc4.tups (Same.tups sa)
            revert g1 sm5 hd5 hca5 dc5
            generalize upd H4 a (.tup [.str "send", .int (l : Int)]) = H5
            intro g1 sm5 hd5 hca5 dc5
            refine ⟨_, g1, ?_⟩
            by_cases hm : (⟨true, l⟩ : Dg) ∈ dn
            · obtain ⟨q1, k1, t1⟩ := (dc.tups (Same.tups sm5)).get nd hm
              rw [k1]
              refine ⟨_, rfl, rfl, _, rfl, ?_⟩
              -- counts = [max(one, other) for one, other in zip(counts, sent)]
              have lp := prl j (by omega)
              have lc := ckl ⟨true, l⟩
              refine ⟨_, rfl, _, rfl, ca, q1, _, _, rfl, .inl (.inl hca5), .inl (.inl t1), fun D nDD => lc_it (walk_zM rfl) (fun i H6 => H6 D = some (.lst (iL ((List.zipWith mx (prevC hands Ck gs j) (Ck ⟨true, l⟩)).take i))) ∧ Same H5 H6) ⟨upd_same, same_new nDD⟩ (fun i H6 _ ⟨_, s6⟩ => ⟨.inl (.inl (s6 _ _ hca5)), .inl (.inl (s6 _ _ t1))⟩) ?_ ?_⟩
              · rintro i x H6 H7 hi ⟨hD, s6⟩ ⟨W, x1, x2, rfl, nW, rfl, f1, f2⟩
                rw [List.length_map, List.length_map, lp, lc, Nat.min_self] at hi
                have i1 : i < (prevC hands Ck gs j).length := by omega
                have i2 : i < (Ck ⟨true, l⟩).length := by omega
                obtain rfl : x1 = .int (prevC hands Ck gs j)[i] := Option.some.inj (f1.symm.trans (iL_get i1))
                obtain rfl : x2 = .int (Ck ⟨true, l⟩)[i] := Option.some.inj (f2.symm.trans (iL_get i2))
                have sW : Same H6 (upd H6 W (.tup [.int (prevC hands Ck gs j)[i], .int (Ck ⟨true, l⟩)[i]])) := same_new nW
                refine ⟨W, _, rfl, .inl (.inl upd_same), rfl, _, _, rfl, _, _, rfl, rfl, rfl, ?_⟩
                refine ⟨_, rfl, _, rfl, _, _, rfl, _, sW _ _ hD, ?_, ?_, fun b o e => ?_⟩
                · rw [List.length_map, List.length_take]
                  exact Nat.lt_of_le_of_lt (Nat.min_le_left _ _) (small1000 (by omega))
                · have ez : (List.zipWith mx (prevC hands Ck gs j) (Ck ⟨true, l⟩))[i]? = some (mx (prevC hands Ck gs j)[i] (Ck ⟨true, l⟩)[i]) := by
                    rw [List.getElem?_zipWith, List.getElem?_eq_getElem i1, List.getElem?_eq_getElem i2]
                  rw [upd_same, take_snoc ez]
                  exact congrArg (fun z => some (HO.lst z)) (iL_app _ _)
                · rw [upd_ne (ne_of_none e nDD)]
                  exact sW _ _ (s6 _ _ e)
              · rintro H6 ⟨hD, s6⟩
                rw [List.length_map, List.length_map, lp, lc, Nat.min_self, List.take_of_length_le (by rw [List.length_zipWith, lp, lc, Nat.min_self]; exact Nat.le_refl _)] at hD
                refine ⟨?_, _, _, _, D, rfl, sm5.trans s6, sm5.free nDD, s6 _ _ hd5, dc5.tups (Same.tups s6), hD⟩
                exact decide_eq_true hm
            · rw [(dc.tups (Same.tups sm5)).none hm]
              refine ⟨_, rfl, rfl, _, rfl, ?_⟩
              refine ⟨_, rfl, q H5 d kvs sm5 nD hd5 ?_⟩
              rw [reach_all (j := j) rdy (by omega) (fun g' e => by
                rw [eg] at e
                cases e
                exact decide_eq_false hm)]
              exact dc5
        · rintro σ' H5 ⟨rg, v9, v10, v11, ca, rfl, sm5, nca, hd5, dc5, hca5⟩
          have lp := prl j (by omega)
          have lc := ckl ⟨true, g.l⟩
          have eck := rck j g eg
          revert hca5 eck
          generalize ez : (if g.s then prevC hands Ck gs j else List.zipWith mx (prevC hands Ck gs j) (Ck ⟨true, g.l⟩)) = L
          intro hca5 eck
          have lL : L.length = hands := by
            rw [← ez]
            split
            · exact lp
            · rw [List.length_zipWith, lp, lc, Nat.min_self]
          have ncd : ca ≠ d := ne_of hca5 hd5 (by intro z; cases z)
          -- counts[hand] = number + 1
          refine ⟨_, rfl, _, _, rfl, rfl, _, rfl, _, rfl, ca, _, _, h, rfl, rfl, hca5, ix_at rfl (by rw [List.length_map]; omega), ?_⟩
          have hca6 : (upd H5 ca (.lst ((iL L).set h (.int ((j : Int) + 1))))) ca = some (.lst (iL (Ck g))) := by
            rw [iL_put, eck]
          have tp6 : Tups H5 (upd H5 ca (.lst ((iL L).set h (.int ((j : Int) + 1))))) := Tups.upd hca5 fun xs z => by cases z
          have k6 : ∀ b o, H b = some o → (upd H5 ca (.lst ((iL L).set h (.int ((j : Int) + 1))))) b = some o := fun b o e => by
            rw [upd_ne (ne_of_none e nca)]
            exact sm5 _ _ e
          have hd6 : (upd H5 ca (.lst ((iL L).set h (.int ((j : Int) + 1))))) d = some (.dT kvs) := by
            rw [upd_ne ncd.symm]
            exact hd5
          revert hca6 tp6 k6 hd6
          generalize upd H5 ca (.lst ((iL L).set h (.int ((j : Int) + 1)))) = H6
          intro hca6 tp6 k6 hd6
          have dc6 := dc5.tups tp6
          -- found[(word, letter)] = tuple(counts)
          refine ⟨_, rfl, ca, _, rfl, .inl ⟨.inl (.inl hca6), fun p np => ?_⟩⟩
          have sp : Same H6 (upd H6 p (.tup (iL (Ck g)))) := same_new np
          refine ⟨_, rfl, _, rfl, _, rfl, (by show 2 ≤ sizeLine; decide), fun z nz => ?_⟩
          have sz : Same (upd H6 p (.tup (iL (Ck g)))) (upd (upd H6 p (.tup (iL (Ck g)))) z (.tup [.str g.word, .int (g.l : Int)])) := same_new nz
          have hp7 : (upd (upd H6 p (.tup (iL (Ck g)))) z (.tup [.str g.word, .int (g.l : Int)])) p = some (.tup (iL (Ck g))) := sz _ _ upd_same
          have hz7 : (upd (upd H6 p (.tup (iL (Ck g)))) z (.tup [.str g.word, .int (g.l : Int)])) z = some (.tup (g.key.map kV)) := upd_same
          have s7 := Same.trans sp sz
          have hd7 := s7 _ _ hd6
          have hca7 := s7 _ _ hca6
          have dc7 := dc6.tups (Same.tups s7)
          have k7 : ∀ b o, H b = some o → (upd (upd H6 p (.tup (iL (Ck g)))) z (.tup [.str g.word, .int (g.l : Int)])) b = some o := fun b o e => s7 _ _ (k6 b o e)
          revert hp7 hz7 hd7 hca7 dc7 k7
          clear sp nz sz s7
          generalize upd (upd H6 p (.tup (iL (Ck g)))) z (.tup [.str g.word, .int (g.l : Int)]) = H7
          intro hp7 hz7 hd7 hca7 dc7 k7
          have gnew : g ∉ gs.take j := fun hm => by
            obtain ⟨i, hi, ei⟩ := List.getElem_of_mem hm
            rw [List.length_take] at hi
            have e1 : gs[i]? = some g := by
              rw [List.getElem_take] at ei
              exact List.getElem?_eq_some_iff.mpr ⟨by omega, ei⟩
            have e2 := nd_ix gnd e1 eg
            omega
          have fr := dc7.none gnew
          have lk : kvs.length < sizeLine := by
            rw [dc7.len, List.length_take]
            exact Nat.lt_of_le_of_lt (Nat.min_le_left _ _) (small1000 (by omega))
          refine ⟨d, _, rfl, DPut.t (k := g.key) hd7 hz7 lk, ?_⟩
          rw [putK_new _ fr]
          have ncd7 : ca ≠ d := ne_of hca7 hd7 (by intro z; cases z)
          refine ⟨_, _, _, _, _, _, ca, _, rfl, fun b o e => ?_, nca, upd_same, ?_, ?_, fun i g' hi e => ?_⟩
          · rw [upd_ne (ne_of_none e nD)]
            exact k7 b o e
          · rw [take_snoc eg]
            exact dc7.snoc (Tups.upd hd7 fun xs z => by cases z) (by rw [upd_ne (ne_of hp7 hd7 (by intro z; cases z))]; exact hp7)
          · rw [upd_ne ncd7]
            show H7 ca = some (.lst (iL (match gs[j]? with | some g => Ck g | none => [])))
            rw [eg]
            exact hca7
          · by_cases c : i < j
            · exact rdy i g' c e
            · have e3 : i = j := by omega
              rw [e3, eg] at e
              cases e
              exact rg
      · rintro σ H3 ⟨v6, v7, v8, v9, v10, v11, ca, kvs, rfl, sm, nca, hd, dc3, hca, rdy⟩
        rw [List.length_map, hql] at dc3 rdy
        refine ⟨_, rfl, q H3 d kvs sm nD hd ?_⟩
        rw [reach_all (j := gs.length) (fun i g hi eg => rdy i g hi eg) (Nat.le_refl _) (fun g eg => by rw [List.getElem?_eq_none (Nat.le_refl _)] at eg; cases eg)]
        exact dc3
end
end Up

namespace Up
open PySem PySem.Spec PyProof.Rows L2
abbrev s_tinit : Stmt := (inClass (topS 15) 0)
abbrev s_teq : Stmt := (inClass (topS 15) 2)
abbrev s_tlen : Stmt := (inClass (topS 15) 1)
theorem sc_tinit : FnScope ["self", "rows"] ["self", "rows"] (defScope s_tinit) := ⟨rfl, rfl, rfl, by decide +kernel, rfl, by decide +kernel, by decide +kernel⟩
theorem sc_teq : FnScope ["self", "other"] ["self", "other"] (defScope s_teq) := ⟨rfl, rfl, rfl, by decide +kernel, rfl, by decide +kernel, by decide +kernel⟩
theorem sc_tlen : FnScope ["self"] ["self"] (defScope s_tlen) := ⟨rfl, rfl, rfl, by decide +kernel, rfl, by decide +kernel, by decide +kernel⟩
/-- rows that make a talk: many letters, each sent by S, got by G; Ck the clocks -/
structure Valid (gss : List (List Dg)) (many : Nat) (S G : Nat → Nat) (Ck : Dg → List Int) : Prop where
  h1 : 1 ≤ gss.length
  h6 : gss.length ≤ 6
  lt : ∀ t ∈ plAll 0 gss, t.1.l < many
  m12 : many ≤ 12
  len : (plAll 0 gss).length ≤ 24
  once : Once gss
  hd : Hands (plAll 0 gss) many S G
  ck : ∀ (h : Nat) (gs : List Dg), gss[h]? = some gs → RowCk gss.length Ck h gs
  ckl : ∀ g, (Ck g).length = gss.length
  rk : ∃ rk : Dg → Nat, (∀ (h : Nat) (gs : List Dg), gss[h]? = some gs → ∀ (n : Nat) (g g' : Dg), gs[n]? = some g → gs[n + 1]? = some g' → rk g < rk g') ∧ ∀ l, l < many → rk ⟨true, l⟩ < rk ⟨false, l⟩
/-- rows of doings, as lists or tuples of tuples -/
structure RowsG (H : Hp) (a : Addr) (gss : List (List Dg)) : Prop where
  ex : ∃ rs : List Addr, LT H a (rs.map V.ref) ∧ rs.length = gss.length ∧ ∀ (i : Nat) (t : Addr) (gs : List Dg), rs[i]? = some t → gss[i]? = some gs →
    ∃ qs : List Addr, LT H t (qs.map V.ref) ∧ qs.length = gs.length ∧ ∀ (j : Nat) (q : Addr) (g : Dg), qs[j]? = some q → gs[j]? = some g → H q = some (.tup g.vs)
theorem RowsG.same {H H' : Hp} {p : Addr} {gss : List (List Dg)} (s : Same H H') (h : RowsG H p gss) : RowsG H' p gss := by
  obtain ⟨ts, h1, h2, h3⟩ := h.ex
  refine ⟨ts, h1.same s, h2, fun i t gs e1 e2 => ?_⟩
  obtain ⟨qs, k1, k2, k3⟩ := h3 i t gs e1 e2
  exact ⟨qs, k1.same s, k2, fun j q g e3 e4 => s _ _ (k3 j q g e3 e4)⟩
/-- the rows' items, as they are copied -/
theorem RowsG.items {H : Hp} {a : Addr} {gss : List (List Dg)} (h : RowsG H a gss) : ∃ xss : List (List V), xss.length = gss.length ∧ RowsIn H a xss ∧ ∀ H' p, Same H H' → RowsT H' p xss → RowsD H' p gss := by
  obtain ⟨rs, h1, h2, h3⟩ := h.ex
  have key : ∀ i : Nat, ∃ xs : List V, ∀ (t : Addr) (gs : List Dg), rs[i]? = some t → gss[i]? = some gs →
      LT H t xs ∧ ∃ qs : List Addr, xs = qs.map V.ref ∧ qs.length = gs.length ∧ ∀ (j : Nat) (q : Addr) (g : Dg), qs[j]? = some q → gs[j]? = some g → H q = some (.tup g.vs) := by
    intro i
    cases et : rs[i]? with
    | none => exact ⟨[], fun t gs e => by cases e⟩
    | some t =>
      obtain ⟨gs, eg⟩ := get_of h2 et
      obtain ⟨qs, k1, k2, k3⟩ := h3 i t gs et eg
      refine ⟨qs.map V.ref, fun t' gs' e1 e2 => ?_⟩
      cases e1
      rw [eg] at e2
      cases e2
      exact ⟨k1, qs, rfl, k2, k3⟩
  refine ⟨(List.range gss.length).map fun i => (key i).choose, by rw [List.length_map, List.length_range], ⟨rs, h1, by rw [List.length_map, List.length_range]; exact h2, fun i r xs e1 e2 => ?_⟩, fun H' p s hT => ?_⟩
  · have hi := (List.getElem?_eq_some_iff.mp e1).1
    rw [List.getElem?_map, List.getElem?_range (by omega)] at e2
    obtain rfl : (key i).choose = xs := Option.some.inj e2
    obtain ⟨gs, eg⟩ := get_of h2 e1
    exact ((key i).choose_spec r gs e1 eg).1
  · obtain ⟨ts, t1, t2, t3⟩ := hT.ex
    rw [List.length_map, List.length_range] at t2
    refine ⟨ts, t1, t2, fun i t gs e1 e2 => ?_⟩
    have hi := (List.getElem?_eq_some_iff.mp e2).1
    have hr : rs[i]? = some rs[i] := List.getElem?_eq_getElem (by omega)
    obtain ⟨_, qs, eq, ql, qk⟩ := (key i).choose_spec _ gs hr e2
    have ht := t3 i t _ e1 (by rw [List.getElem?_map, List.getElem?_range hi]; rfl)
    refine ⟨qs, ?_, ql, fun j q g e3 e4 => s _ _ (qk j q g e3 e4)⟩
    rw [ht]
    exact congrArg (fun z => some (HO.tup z)) eq
/-- a talk's fields -/
def tf (r p : Addr) (many : Nat) (s g c : Addr) : List (Str × V) := [("rows", .ref r), ("places", .ref p), ("many", .int (many : Int)), ("senders", .ref s), ("getters", .ref g), ("clocks", .ref c)]
def tf1 (r : Addr) : List (Str × V) := [("rows", .ref r)]
def tf2 (r p : Addr) : List (Str × V) := [("rows", .ref r), ("places", .ref p)]
def tf3 (r p : Addr) (many : Nat) : List (Str × V) := [("rows", .ref r), ("places", .ref p), ("many", .int (many : Int))]
def tf4 (r p : Addr) (many : Nat) (s : Addr) : List (Str × V) := [("rows", .ref r), ("places", .ref p), ("many", .int (many : Int)), ("senders", .ref s)]
def tf5 (r p : Addr) (many : Nat) (s g : Addr) : List (Str × V) := [("rows", .ref r), ("places", .ref p), ("many", .int (many : Int)), ("senders", .ref s), ("getters", .ref g)]
theorem put1 (r : Addr) : putF "rows" (.ref r) [] = tf1 r := rfl
theorem put2 (r p : Addr) : putF "places" (.ref p) (tf1 r) = tf2 r p := rfl
theorem put3 (r p : Addr) (many : Nat) : putF "many" (.int (many : Int)) (tf2 r p) = tf3 r p many := rfl
theorem put4 (r p : Addr) (many : Nat) (s : Addr) : putF "senders" (.ref s) (tf3 r p many) = tf4 r p many s := rfl
theorem put5 (r p : Addr) (many : Nat) (s g : Addr) : putF "getters" (.ref g) (tf4 r p many s) = tf5 r p many s g := rfl
theorem put6 (r p : Addr) (many : Nat) (s g c : Addr) : putF "clocks" (.ref c) (tf5 r p many s g) = tf r p many s g c := rfl
structure TalkAt (H : Hp) (x C : Addr) (gss : List (List Dg)) (many : Nat) (S G : Nat → Nat) (Ck : Dg → List Int) : Prop where
  ex : ∃ (dx r p s g c : Addr) (kvs ckv : List (List Key × V)) (dn : List Dg), H x = some (.ins C dx (tf r p many s g c)) ∧ RowsD H r gss ∧ H p = some (.dT kvs) ∧ DictP H kvs (plAll 0 gss) ∧
    H s = some (.tup (iL ((List.range many).map fun l => ((S l : Nat) : Int)))) ∧ H g = some (.tup (iL ((List.range many).map fun l => ((G l : Nat) : Int)))) ∧ H c = some (.dT ckv) ∧ DictC Ck H ckv dn ∧ dn.Nodup ∧ ∀ g, g ∈ dn ↔ g ∈ (plAll 0 gss).map (·.1)
theorem TalkAt.same {H H' : Hp} {x C : Addr} {gss : List (List Dg)} {many : Nat} {S G : Nat → Nat} {Ck : Dg → List Int} (e : Same H H') (t : TalkAt H x C gss many S G Ck) : TalkAt H' x C gss many S G Ck := by
  obtain ⟨dx, r, p, s, g, c, kvs, ckv, dn, h1, h2, h3, h4, h5, h6, h7, h8, h9, h10⟩ := t.ex
  exact ⟨dx, r, p, s, g, c, kvs, ckv, dn, e _ _ h1, h2.same e, e _ _ h3, h4.same e, e _ _ h5, e _ _ h6, e _ _ h7, h8.tups (Same.tups e), h9, h10⟩
section
variable {P : Program} {w : World} {K : PySem.W.Frag} {mg : Str → Option Value} {base : Heap}
def spClocks (Sl : List (List Dg) → Prop) (Ck : Dg → List Int) : Sp := fun vs H Q _ => ∃ (p : Addr) (gss : List (List Dg)) (many : Nat) (S G : Nat → Nat), vs = [.ref p] ∧ Sl gss ∧ RowsD H p gss ∧ Valid gss many S G Ck ∧
  ∀ H' d kvs dn, Same H H' → H d = none → H' d = some (.dT kvs) → DictC Ck H' kvs dn → dn.Nodup → (∀ g, g ∈ dn ↔ g ∈ (plAll 0 gss).map (·.1)) → Q (.ref d) H'
def spTInit (C : Addr) (Sl : List (List Dg) → Prop) (Ck : Dg → List Int) : Sp := fun vs H Q _ => ∃ (x dx a : Addr) (gss : List (List Dg)) (many : Nat) (S G : Nat → Nat), vs = [.ref x, .ref a] ∧ H x = some (.ins C dx []) ∧ Sl gss ∧ RowsG H a gss ∧ Valid gss many S G Ck ∧
  ∀ H', (∀ b o, H b = some o → b ≠ x → H' b = some o) → TalkAt H' x C gss many S G Ck → Q .non H'
structure TxtT (K : PySem.W.Frag) (mg : Str → Option Value) (C fCo fPl fCn fCh fHa fCl : Addr) : Prop extends TxtZ mg where
  cl : Cls K C
  nRows : NoAttr K C "rows"
  nPlaces : NoAttr K C "places"
  nMany : NoAttr K C "many"
  nSenders : NoAttr K C "senders"
  nGetters : NoAttr K C "getters"
  nClocks : NoAttr K C "clocks"
  g_Talk : mg "Talk" = some (.ref C)
  g_copied_rows : mg "copied_rows" = some (.ref fCo)
  g_found_places : mg "found_places" = some (.ref fPl)
  g_count_letters : mg "count_letters" = some (.ref fCn)
  g_check_letters : mg "check_letters" = some (.ref fCh)
  g_found_hands : mg "found_hands" = some (.ref fHa)
  g_found_clocks : mg "found_clocks" = some (.ref fCl)
theorem ok_tinit {f C fCo fPl fCn fCh fHa fCl : Addr} {fd fdCo fdPl fdCn fdCh fdHa fdCl : FuncData} {Sl : List (List Dg) → Prop} {Ck : Dg → List Int} (F : Fun K "__init__" "Talk.__init__" s_tinit f fd) (T : TxtT K mg C fCo fPl fCn fCh fHa fCl)
    (F_copied_rows : Fun K "copied_rows" "copied_rows" s_copied_rows fCo fdCo) (b_copied_rows : Binds K fdCo ["rows"] []) (G_copied_rows : FnOk P w K mg base CX0 2 fCo fdCo ["rows"] spCopy)
    (F_found_places : Fun K "found_places" "found_places" s_found_places fPl fdPl) (b_found_places : Binds K fdPl ["rows"] []) (G_found_places : FnOk P w K mg base CX0 4 fPl fdPl ["rows"] spPlaces)
    (F_count_letters : Fun K "count_letters" "count_letters" s_count_letters fCn fdCn) (b_count_letters : Binds K fdCn ["places"] []) (F_check_letters : Fun K "check_letters" "check_letters" s_check_letters fCh fdCh) (b_check_letters : Binds K fdCh ["places", "many"] [])
    (F_found_hands : Fun K "found_hands" "found_hands" s_found_hands fHa fdHa) (b_found_hands : Binds K fdHa ["places", "word", "many"] [])
    (kp_clocks : PySem.W.keepIn K (.ref fCl) = true) (b_found_clocks : Binds K fdCl ["rows"] []) (G_found_clocks : FnOk P w K mg base CX0 4 fCl fdCl ["rows"] (spClocks Sl Ck)) :
    FnOk P w K mg base CX0 5 f fd ["self", "rows"] (spTInit C Sl Ck) := by
  have G_count_letters : FnOk P w K mg base CX0 1 fCn fdCn ["places"] spCount := ok_count F_count_letters T.toTxtM
  have G_check_letters : FnOk P w K mg base CX0 1 fCh fdCh ["places", "many"] spCheck := ok_check F_check_letters T.toTxtM
  have G_hS : FnOk P w K mg base CX0 1 fHa fdHa ["places", "word", "many"] (spHands true) := ok_hands F_found_hands T.toTxtM
  have G_hG : FnOk P w K mg base CX0 1 fHa fdHa ["places", "word", "many"] (spHands false) := ok_hands F_found_hands T.toTxtM
  refine F.ok sc_tinit (fun vs H Q E h => ?_) (fun cdv A outer s H vs Q E hr h => ?_)
  · obtain ⟨x, dx, a, gss, many, S, G, rfl, _⟩ := h
    rfl
  · obtain ⟨x, dx, a, gss, many, S, G, rfl, hx, hSl, hR, hV, q⟩ := h
    have hr_copied_rows : Room 2 _ := hr.mono (by decide)
    have hr_found_places : Room 4 _ := hr
    have hr1 : Room 1 _ := hr.mono (by decide)
    have hr_found_clocks : Room 4 _ := hr
    refine ⟨_, (pss_cons (ps_fld (pv 0) (pe_call G_copied_rows hr_copied_rows (by rfl) T.g_copied_rows F_copied_rows.kp b_copied_rows .nil pass0 (pa_cons (pv 1) pa_nil)) rfl) (pss_cons (ps_fld (pv 0) (pe_call G_found_places hr_found_places (by rfl) T.g_found_places F_found_places.kp b_found_places .nil pass0 (pa_cons (pe_fld (pv 0) rfl) pa_nil)) rfl) (pss_cons (ps_fld (pv 0) (pe_call G_count_letters hr1 (by rfl) T.g_count_letters F_count_letters.kp b_count_letters .nil pass0 (pa_cons (pe_fld (pv 0) rfl) pa_nil)) rfl) (pss_cons (ps_expr (pe_call G_check_letters hr1 (by rfl) T.g_check_letters F_check_letters.kp b_check_letters .nil pass0 (pa_cons (pe_fld (pv 0) rfl) (pa_cons (pe_fld (pv 0) rfl) pa_nil)))) (pss_cons (ps_fld (pv 0) (pe_call G_hS hr1 (by rfl) T.g_found_hands F_found_hands.kp b_found_hands .nil pass0 (pa_cons (pe_fld (pv 0) rfl) (pa_cons pe_str (pa_cons (pe_fld (pv 0) rfl) pa_nil)))) rfl) (pss_cons (ps_fld (pv 0) (pe_call G_hG hr1 (by rfl) T.g_found_hands F_found_hands.kp b_found_hands .nil pass0 (pa_cons (pe_fld (pv 0) rfl) (pa_cons pe_str (pa_cons (pe_fld (pv 0) rfl) pa_nil)))) rfl) (pss_cons (ps_fld (pv 0) (pe_call G_found_clocks hr_found_clocks (by rfl) T.g_found_clocks kp_clocks b_found_clocks .nil pass0 (pa_cons (pe_fld (pv 0) rfl) pa_nil)) rfl) (pss_one (ps_if (pt_cmpR op_lt (pe_callB call_len_dT (by rfl) T.len PySem.boot_len (pa_cons (pe_fld (pv 0) rfl) pa_nil)) (pe_callB call_len_dT (by rfl) T.len PySem.boot_len (pa_cons (pe_fld (pv 0) rfl) pa_nil)) (nomark _)) (pss_one ps_never) pss_nil))))))))), ?_⟩
    obtain ⟨xss, xl, hIn, hOut⟩ := hR.items
    have v1 := hV.h1
    have v6 := hV.h6
    have v24 := hV.len
    have v12 := hV.m12
    -- self.rows = copied_rows(rows)
    refine ⟨_, rfl, a, xss, rfl, hIn, by omega, by omega, fun H1 r s1 hT => ?_⟩
    have hD1 : RowsD H1 r gss := hOut H1 r s1 hT
    refine ⟨_, rfl, x, C, dx, [], rfl, s1 _ _ hx, T.cl, T.nRows, (by show 0 < 1000; decide), ?_⟩
    have up : ∀ (H' : Hp) (o : HO), (∀ b o, H b = some o → b ≠ x → H' b = some o) → ∀ b o', H b = some o' → b ≠ x → (upd H' x o) b = some o' := fun H' o k b o' e n => by
      rw [upd_ne n]
      exact k b o' e n
    have tupx : ∀ (H' : Hp) (fs : List (Str × V)) (o : HO), H' x = some (.ins C dx fs) → Tups H' (upd H' x o) := fun H' fs o e => Tups.upd e fun xs z => by cases z
    have rd : ∀ (H' H'' : Hp) (p : Addr), Tups H' H'' → RowsD H' p gss → RowsD H'' p gss := fun H' H'' p t h => by
      obtain ⟨ts, k1, k2, k3⟩ := h.ex
      refine ⟨ts, t _ _ k1, k2, fun i t' gs e1 e2 => ?_⟩
      obtain ⟨qs, j1, j2, j3⟩ := k3 i t' gs e1 e2
      exact ⟨qs, t _ _ j1, j2, fun j q g e3 e4 => t _ _ (j3 j q g e3 e4)⟩
    have dpt : ∀ (H' H'' : Hp) (kvs : List (List Key × V)), Tups H' H'' → DictP H' kvs (plAll 0 gss) → DictP H'' kvs (plAll 0 gss) := fun H' H'' kvs t d => ⟨d.ks, fun i g h n e => let ⟨q, h1, h2⟩ := d.vs i g h n e; ⟨q, h1, t _ _ h2⟩⟩
    rw [put1]
    have k1 := up H1 (.ins C dx (tf1 r)) fun b o e _ => s1 b o e
    have x1 : (upd H1 x (.ins C dx (tf1 r))) x = some (.ins C dx (tf1 r)) := upd_same
    have r1 : RowsD (upd H1 x (.ins C dx (tf1 r))) r gss := rd _ _ r (tupx H1 [] _ (s1 _ _ hx)) hD1
    revert k1 x1 r1
    generalize upd H1 x (.ins C dx (tf1 r)) = J1
    intro k1 x1 r1
    -- self.places = found_places(self.rows)
    refine ⟨_, rfl, x, C, dx, _, _, rfl, x1, T.cl, T.nRows, rfl, r, gss, rfl, r1, fun t ht => Nat.lt_of_lt_of_le (hV.lt t ht) v12, hV.once, by omega, fun H2 p kvs s2 np hp dp => ?_⟩
    refine ⟨_, rfl, x, C, dx, _, rfl, s2 _ _ x1, T.cl, T.nPlaces, (by show 1 < 1000; decide), ?_⟩
    rw [put2]
    have px : p ≠ x := fun c => by
      rw [c, x1] at np
      cases np
    have k2 := up H2 (.ins C dx (tf2 r p)) fun b o e n => s2 _ _ (k1 b o e n)
    have x2 : (upd H2 x (.ins C dx (tf2 r p))) x = some (.ins C dx (tf2 r p)) := upd_same
    have t2 := tupx H2 _ (.ins C dx (tf2 r p)) (s2 _ _ x1)
    have r2 := rd _ _ r t2 (r1.same s2)
    have p2 : (upd H2 x (.ins C dx (tf2 r p))) p = some (.dT kvs) := by
      rw [upd_ne px]
      exact hp
    have d2 := dpt _ _ kvs t2 dp
    revert k2 x2 r2 p2 d2
    clear t2
    generalize upd H2 x (.ins C dx (tf2 r p)) = J2
    intro k2 x2 r2 p2 d2
    -- self.many = count_letters(self.places)
    refine ⟨_, rfl, x, C, dx, _, _, rfl, x2, T.cl, T.nPlaces, rfl, p, kvs, plAll 0 gss, many, rfl, p2, d2, by omega, hV.lt, fun hm => ?_, fun H3 s3 => ?_⟩
    · obtain ⟨n, hn⟩ := hV.hd.snd (many - 1) (by omega)
      exact ⟨_, hn, by show many - 1 + 1 = many; omega⟩
    refine ⟨_, rfl, x, C, dx, _, rfl, s3 _ _ x2, T.cl, T.nMany, (by show 2 < 1000; decide), ?_⟩
    rw [put3]
    have k3 := up H3 (.ins C dx (tf3 r p many)) fun b o e n => s3 _ _ (k2 b o e n)
    have x3 : (upd H3 x (.ins C dx (tf3 r p many))) x = some (.ins C dx (tf3 r p many)) := upd_same
    have t3 := tupx H3 _ (.ins C dx (tf3 r p many)) (s3 _ _ x2)
    have r3 := rd _ _ r t3 (r2.same s3)
    have p3 : (upd H3 x (.ins C dx (tf3 r p many))) p = some (.dT kvs) := by
      rw [upd_ne px]
      exact s3 _ _ p2
    have d3 := dpt _ _ kvs t3 (d2.same s3)
    revert k3 x3 r3 p3 d3
    clear t3
    generalize upd H3 x (.ins C dx (tf3 r p many)) = J3
    intro k3 x3 r3 p3 d3
    -- check_letters(self.places, self.many)
    refine ⟨_, rfl, x, C, dx, _, _, rfl, x3, T.cl, T.nPlaces, rfl, _, rfl, x, C, dx, _, _, rfl, x3, T.cl, T.nMany, rfl, p, kvs, plAll 0 gss, many, S, G, rfl, p3, d3, hV.once, v12, hV.hd, fun H4 s4 => ?_⟩
    -- self.senders, self.getters
    refine ⟨_, rfl, x, C, dx, _, _, rfl, s4 _ _ x3, T.cl, T.nPlaces, rfl, _, rfl, x, C, dx, _, _, rfl, s4 _ _ x3, T.cl, T.nMany, rfl, p, kvs, plAll 0 gss, many, S, rfl, s4 _ _ p3, d3.same s4, hV.once, v12, hV.hd.snd, fun H5 sp s5 hs5 => ?_⟩
    have s45 := Same.trans s4 s5
    refine ⟨_, rfl, x, C, dx, _, rfl, s45 _ _ x3, T.cl, T.nSenders, (by show 3 < 1000; decide), ?_⟩
    rw [put4]
    have k5 := up H5 (.ins C dx (tf4 r p many sp)) fun b o e n => s45 _ _ (k3 b o e n)
    have x5 : (upd H5 x (.ins C dx (tf4 r p many sp))) x = some (.ins C dx (tf4 r p many sp)) := upd_same
    have t5 := tupx H5 _ (.ins C dx (tf4 r p many sp)) (s45 _ _ x3)
    have r5 := rd _ _ r t5 (r3.same s45)
    have p5 : (upd H5 x (.ins C dx (tf4 r p many sp))) p = some (.dT kvs) := by
      rw [upd_ne px]
      exact s45 _ _ p3
    have d5 := dpt _ _ kvs t5 (d3.same s45)
    have sp5 := t5 _ _ hs5
    revert k5 x5 r5 p5 d5 sp5
    clear t5
    generalize upd H5 x (.ins C dx (tf4 r p many sp)) = J5
    intro k5 x5 r5 p5 d5 sp5
    refine ⟨_, rfl, x, C, dx, _, _, rfl, x5, T.cl, T.nPlaces, rfl, _, rfl, x, C, dx, _, _, rfl, x5, T.cl, T.nMany, rfl, p, kvs, plAll 0 gss, many, G, rfl, p5, d5, hV.once, v12, hV.hd.got, fun H6 gp s6 hg6 => ?_⟩
    refine ⟨_, rfl, x, C, dx, _, rfl, s6 _ _ x5, T.cl, T.nGetters, (by show 4 < 1000; decide), ?_⟩
    rw [put5]
    have k6 := up H6 (.ins C dx (tf5 r p many sp gp)) fun b o e n => s6 _ _ (k5 b o e n)
    have x6 : (upd H6 x (.ins C dx (tf5 r p many sp gp))) x = some (.ins C dx (tf5 r p many sp gp)) := upd_same
    have t6 := tupx H6 _ (.ins C dx (tf5 r p many sp gp)) (s6 _ _ x5)
    have r6 := rd _ _ r t6 (r5.same s6)
    have p6 : (upd H6 x (.ins C dx (tf5 r p many sp gp))) p = some (.dT kvs) := by
      rw [upd_ne px]
      exact s6 _ _ p5
    have d6 := dpt _ _ kvs t6 (d5.same s6)
    have sp6 := t6 _ _ (s6 _ _ sp5)
    have gp6 := t6 _ _ hg6
    revert k6 x6 r6 p6 d6 sp6 gp6
    clear t6
    generalize upd H6 x (.ins C dx (tf5 r p many sp gp)) = J6
    intro k6 x6 r6 p6 d6 sp6 gp6
    -- self.clocks = found_clocks(self.rows)
    refine ⟨_, rfl, x, C, dx, _, _, rfl, x6, T.cl, T.nRows, rfl, r, gss, many, S, G, rfl, hSl, r6, hV, fun H7 c ckv dn s7 nc hc dc nd hdn => ?_⟩
    refine ⟨_, rfl, x, C, dx, _, rfl, s7 _ _ x6, T.cl, T.nClocks, (by show 5 < 1000; decide), ?_⟩
    rw [put6]
    have cx : c ≠ x := fun z => by
      rw [z, x6] at nc
      cases nc
    have k7 := up H7 (.ins C dx (tf r p many sp gp c)) fun b o e n => s7 _ _ (k6 b o e n)
    have x7 : (upd H7 x (.ins C dx (tf r p many sp gp c))) x = some (.ins C dx (tf r p many sp gp c)) := upd_same
    have t7 := tupx H7 _ (.ins C dx (tf r p many sp gp c)) (s7 _ _ x6)
    have r7 := rd _ _ r t7 (r6.same s7)
    have p7 : (upd H7 x (.ins C dx (tf r p many sp gp c))) p = some (.dT kvs) := by
      rw [upd_ne px]
      exact s7 _ _ p6
    have c7 : (upd H7 x (.ins C dx (tf r p many sp gp c))) c = some (.dT ckv) := by
      rw [upd_ne cx]
      exact hc
    have d7 := dpt _ _ kvs t7 (d6.same s7)
    have dc7 := dc.tups t7
    have sp7 := t7 _ _ (s7 _ _ sp6)
    have gp7 := t7 _ _ (s7 _ _ gp6)
    revert k7 x7 r7 p7 d7 sp7 gp7 c7 dc7
    clear t7
    generalize upd H7 x (.ins C dx (tf r p many sp gp c)) = J7
    intro k7 x7 r7 p7 c7 d7 dc7 sp7 gp7
    -- if len(self.clocks) < len(self.places): raise
    have el : ckv.length = kvs.length := by
      rw [dc7.len, d7.len]
      have e1 : ((plAll 0 gss).map (·.1)).length = (plAll 0 gss).length := List.length_map ..
      rw [← e1]
      exact Nat.le_antisymm (nd_len nd fun g hg => (hdn g).mp hg) (nd_len hV.once fun g hg => (hdn g).mpr hg)
    refine ⟨_, rfl, x, C, dx, _, _, rfl, x7, T.cl, T.nClocks, rfl, c, ckv, rfl, c7, _, rfl, x, C, dx, _, _, rfl, x7, T.cl, T.nPlaces, rfl, p, kvs, rfl, p7, _, _, rfl, rfl, _, rfl, ?_⟩
    rw [decide_eq_false (by rw [el]; omega)]
    exact q J7 k7 ⟨dx, r, p, sp, gp, c, kvs, ckv, dn, x7, r7, p7, d7, sp7, gp7, c7, dc7, nd, hdn⟩
end
end Up

namespace Up
open PySem PySem.Spec PyProof.Rows L2
theorem DictC.put {Ck : Dg → List Int} {H : Hp} {kvs : List (List Key × V)} {dn : List Dg} (d : DictC Ck H kvs dn) (nd : dn.Nodup) {g : Dg} {q : Addr} (hq : H q = some (.tup (iL (Ck g)))) :
    ∃ dn', DictC Ck H (putK kvs g.key (.ref q)) dn' ∧ dn'.Nodup ∧ ∀ x, x ∈ dn' ↔ x ∈ dn ∨ x = g := by
  by_cases hm : g ∈ dn
  · refine ⟨dn, ⟨?_, fun i x e => ?_⟩, nd, fun x => ⟨.inl, fun c => c.elim id fun c => c ▸ hm⟩⟩
    · obtain ⟨q', k1, _⟩ := d.get nd hm
      unfold putK
      rw [valV_any, k1]
      show (kvs.map fun kv => if kv.1 = g.key then (kv.1, V.ref q) else kv).map (·.1) = _
      rw [List.map_map, ← d.ks]
      refine List.map_congr_left fun p _ => ?_
      show (if p.1 = g.key then (p.1, V.ref q) else p).1 = p.1
      split <;> rfl
    · obtain ⟨q', k1, _⟩ := d.get nd hm
      obtain ⟨q2, e1, e2⟩ := d.vs i x e
      unfold putK
      rw [valV_any, k1]
      show ∃ q0, (kvs.map fun kv => if kv.1 = g.key then (kv.1, V.ref q) else kv)[i]? = _ ∧ _
      rw [List.getElem?_map, e1]
      by_cases c : x.key = g.key
      · refine ⟨q, ?_, ?_⟩
        · show some (if x.key = g.key then (x.key, V.ref q) else (x.key, V.ref q2)) = _
          rw [if_pos c]
        · rw [Dg.key_inj c]
          exact hq
      · refine ⟨q2, ?_, e2⟩
        show some (if x.key = g.key then (x.key, V.ref q) else (x.key, V.ref q2)) = _
        rw [if_neg c]
  · refine ⟨dn ++ [g], ?_, ?_, fun x => by simp⟩
    · rw [putK_new _ (d.none hm)]
      exact d.snoc (fun _ _ e => e) hq
    · refine List.nodup_append.mpr ⟨nd, List.nodup_cons.mpr ⟨List.not_mem_nil, List.nodup_nil⟩, fun a ha b hb => ?_⟩
      rcases List.mem_cons.mp hb with e | e
      · subst e
        exact fun c => hm (c ▸ ha)
      · cases e
/-! ### the passes come to rest only when all doings have their clocks -/
theorem plRow_mem {h : Nat} {g : Dg} {n : Nat} : ∀ {gs : List Dg} {k : Nat}, gs[n]? = some g → (g, h, k + n) ∈ plRow h k gs
  | [], k, e => by simp at e
  | x :: r, k, e => by
    cases n with
    | zero =>
      have e2 : x = g := Option.some.inj e
      subst e2
      exact List.mem_cons_self ..
    | succ n =>
      have h2 := plRow_mem (h := h) (k := k + 1) (gs := r) (n := n) e
      rw [show k + 1 + n = k + (n + 1) by omega] at h2
      exact List.mem_cons_of_mem _ h2
theorem plAll_mem {gs : List Dg} {i : Nat} : ∀ {gss : List (List Dg)} {h : Nat}, gss[i]? = some gs → ∀ t ∈ plRow (h + i) 0 gs, t ∈ plAll h gss
  | [], h, e, t, ht => by simp at e
  | r :: rs, h, e, t, ht => by
    cases i with
    | zero =>
      have e2 : r = gs := Option.some.inj e
      subst e2
      exact List.mem_append_left _ ht
    | succ i =>
      refine List.mem_append_right _ (plAll_mem (h := h + 1) (gss := rs) e t ?_)
      rw [show h + 1 + i = h + (i + 1) by omega]
      exact ht
theorem plRow_of {h : Nat} {t : Pl} : ∀ {gs : List Dg} {k : Nat}, t ∈ plRow h k gs → ∃ n : Nat, gs[n]? = some t.1
  | [], k, e => by cases e
  | x :: r, k, e => by
    rcases List.mem_cons.mp e with c | c
    · subst c
      exact ⟨0, rfl⟩
    · obtain ⟨n, hn⟩ := plRow_of c
      exact ⟨n + 1, hn⟩
theorem plAll_of {t : Pl} : ∀ {gss : List (List Dg)} {h : Nat}, t ∈ plAll h gss → ∃ (i n : Nat) (gs : List Dg), gss[i]? = some gs ∧ gs[n]? = some t.1
  | [], h, e => by cases e
  | r :: rs, h, e => by
    rcases List.mem_append.mp e with c | c
    · obtain ⟨n, hn⟩ := plRow_of c
      exact ⟨0, n, r, rfl, hn⟩
    · obtain ⟨i, n, gs, h1, h2⟩ := plAll_of c
      exact ⟨i + 1, n, gs, h1, h2⟩
theorem in_all {gss : List (List Dg)} {i n : Nat} {gs : List Dg} {g : Dg} (e : gss[i]? = some gs) (eg : gs[n]? = some g) : g ∈ (plAll 0 gss).map (·.1) := by
  have h1 := plRow_mem (h := 0 + i) (k := 0) eg
  exact List.mem_map_of_mem (f := (·.1)) (plAll_mem e _ h1)
theorem reach_mem {dn : List Dg} {g : Dg} : ∀ {gs : List Dg} {n : Nat}, gs[n]? = some g → (∀ i x, i ≤ n → gs[i]? = some x → readyG dn x = true) → g ∈ reach dn gs
  | [], n, e, _ => by simp at e
  | x :: r, 0, e, h => by
    have e2 : x = g := Option.some.inj e
    subst e2
    unfold reach
    rw [List.takeWhile_cons, h 0 x (Nat.le_refl _) rfl]
    exact List.mem_cons_self ..
  | x :: r, n + 1, e, h => by
    unfold reach
    rw [List.takeWhile_cons, h 0 x (Nat.zero_le _) rfl]
    exact List.mem_cons_of_mem _ (reach_mem (dn := dn) (gs := r) (n := n) e fun i y hi ey => h (i + 1) y (by omega) ey)
theorem reach_sub {dn dn' : List Dg} (h : ∀ x ∈ dn, x ∈ dn') : ∀ {gs : List Dg}, ∀ x ∈ reach dn gs, x ∈ reach dn' gs
  | [], x, hx => by cases hx
  | g :: r, x, hx => by
    unfold reach at hx ⊢
    rw [List.takeWhile_cons] at hx ⊢
    cases c : readyG dn g with
    | false =>
      rw [c] at hx
      cases hx
    | true =>
      rw [c] at hx
      have c2 : readyG dn' g = true := by
        unfold readyG at c ⊢
        rcases Bool.or_eq_true_iff.mp c with z | z
        · rw [z]
          rfl
        · rw [Bool.or_eq_true_iff]
          exact .inr (decide_eq_true (h _ (of_decide_eq_true z)))
      rw [c2]
      rcases List.mem_cons.mp hx with z | z
      · exact List.mem_cons.mpr (.inl z)
      · exact List.mem_cons_of_mem _ (reach_sub h (gs := r) x z)
theorem reach_in {dn : List Dg} {gs : List Dg} : ∀ x ∈ reach dn gs, x ∈ gs := fun x hx => (List.takeWhile_sublist (readyG dn)).subset hx
theorem Valid.rest {gss : List (List Dg)} {many : Nat} {S G : Nat → Nat} {Ck : Dg → List Int} (v : Valid gss many S G Ck) {dn : List Dg} (fx : ∀ (i : Nat) (gs : List Dg), gss[i]? = some gs → ∀ x ∈ reach dn gs, x ∈ dn) : ∀ g ∈ (plAll 0 gss).map (·.1), g ∈ dn := by
  obtain ⟨rk, r1, r2⟩ := v.rk
  have up : ∀ (h : Nat) (gs : List Dg), gss[h]? = some gs → ∀ (d n : Nat) (g g' : Dg), gs[n]? = some g → gs[n + d + 1]? = some g' → rk g < rk g' := by
    intro h gs eg d
    induction d with
    | zero => exact fun n g g' e1 e2 => r1 h gs eg n g g' e1 e2
    | succ d ih =>
      intro n g g' e1 e2
      have hl := (List.getElem?_eq_some_iff.mp e2).1
      have e3 : gs[n + d + 1]? = some gs[n + d + 1] := List.getElem?_eq_getElem (by omega)
      exact Nat.lt_trans (ih n g _ e1 e3) (r1 h gs eg (n + d + 1) _ g' e3 e2)
  have all : ∀ (k : Nat) (g : Dg), rk g ≤ k → g ∈ (plAll 0 gss).map (·.1) → g ∈ dn := by
    intro k
    induction k with
    | zero =>
      intro g hk hg
      obtain ⟨t, ht, rfl⟩ := List.mem_map.mp hg
      obtain ⟨i, n, gs, e1, e2⟩ := plAll_of ht
      refine fx i gs e1 _ (reach_mem e2 fun j x hj ex => ?_)
      have ej : j = n := by
        rcases Nat.lt_or_ge j n with c | c
        · have := up i gs e1 (n - j - 1) j x t.1 ex (by rw [show j + (n - j - 1) + 1 = n by omega]; exact e2)
          omega
        · omega
      subst ej
      rw [e2] at ex
      have ex2 : t.1 = x := Option.some.inj ex
      rw [← ex2]
      unfold readyG
      cases hs : t.1.s with
      | true => rfl
      | false =>
        have hl := v.lt t ht
        have := r2 t.1.l hl
        have e3 : t.1 = ⟨false, t.1.l⟩ := by rw [← hs]
        rw [← e3] at this
        omega
    | succ k ih =>
      intro g hk hg
      obtain ⟨t, ht, rfl⟩ := List.mem_map.mp hg
      obtain ⟨i, n, gs, e1, e2⟩ := plAll_of ht
      refine fx i gs e1 _ (reach_mem e2 fun j x hj ex => ?_)
      have hx : rk x ≤ k + 1 := by
        rcases Nat.lt_or_ge j n with c | c
        · have := up i gs e1 (n - j - 1) j x t.1 ex (by rw [show j + (n - j - 1) + 1 = n by omega]; exact e2)
          omega
        · have ej : j = n := by omega
          subst ej
          rw [e2] at ex
          rw [← (Option.some.inj ex : t.1 = x)]
          exact hk
      unfold readyG
      cases hs : x.s with
      | true => rfl
      | false =>
        have hx2 := in_all e1 ex
        obtain ⟨t2, ht2, et2⟩ := List.mem_map.mp hx2
        have hl := v.lt t2 ht2
        rw [et2] at hl
        have h3 := r2 x.l hl
        have e3 : x = ⟨false, x.l⟩ := by rw [← hs]
        rw [← e3] at h3
        obtain ⟨n2, m2⟩ := v.hd.snd x.l hl
        have h4 := ih ⟨true, x.l⟩ (by omega) (List.mem_map_of_mem (f := (·.1)) m2)
        rw [decide_eq_true h4]
        rfl
  exact fun g hg => all (rk g) g (Nat.le_refl _) hg
abbrev s_found_clocks : Stmt := (topS 21)
theorem sc_found_clocks : FnScope ["rows", "clocks", "before", "hand", "row", "found", "doing"] ["rows"] (defScope s_found_clocks) := ⟨rfl, rfl, rfl, by decide +kernel, rfl, by decide +kernel, by decide +kernel⟩
structure TxtF (K : PySem.W.Frag) (mg : Str → Option Value) (fR : Addr) : Prop extends TxtZ mg where
  g_row_clocks : mg "row_clocks" = some (.ref fR)
theorem nd_more {α : Type} [DecidableEq α] {a b : List α} (ha : a.Nodup) (hb : b.Nodup) (h : ∀ x ∈ a, x ∈ b) (l : b.length ≤ a.length) : ∀ x ∈ b, x ∈ a := fun x hx => by
  by_cases c : x ∈ a
  · exact c
  · have n := nd_len (a := x :: a) (b := b) (List.nodup_cons.mpr ⟨c, ha⟩) fun y hy => by
      rcases List.mem_cons.mp hy with e | e
      · exact e ▸ hx
      · exact h y e
    rw [List.length_cons] at n
    omega
theorem plRow_map (h : Nat) : ∀ (gs : List Dg) (n : Nat), (plRow h n gs).map (·.1) = gs
  | [], _ => rfl
  | g :: r, n => by
    show g :: (plRow h (n + 1) r).map (·.1) = _
    rw [plRow_map h r (n + 1)]
theorem Once.row {gss : List (List Dg)} (o : Once gss) {i : Nat} {gs : List Dg} (e : gss[i]? = some gs) : gs.Nodup := by
  obtain ⟨r, h⟩ := plTo_pre (j := gs.length) e
  unfold Once at o
  rw [h, List.map_append] at o
  have o2 := (List.nodup_append.mp o).1
  unfold plTo at o2
  rw [List.map_append, List.take_length, plRow_map] at o2
  exact (List.nodup_append.mp o2).2.1
/-- all rows -/
def Sl0 (_ : List (List Dg)) : Prop := True
section
variable {P : Program} {w : World} {K : PySem.W.Frag} {mg : Str → Option Value} {base : Heap}
theorem ok_clocks {f fR : Addr} {fd fdR : FuncData} {Ck : Dg → List Int} (F : Fun K "found_clocks" "found_clocks" s_found_clocks f fd) (T : TxtF K mg fR) (F_row_clocks : Fun K "row_clocks" "row_clocks" s_row_clocks fR fdR) (b_row_clocks : Binds K fdR ["hand", "row", "hands", "clocks"] []) :
    FnOk P w K mg base CX0 2 f fd ["rows"] (spClocks Sl0 Ck) := by
  have G_row_clocks : FnOk P w K mg base CX0 1 fR fdR ["hand", "row", "hands", "clocks"] (spRowC Ck) := ok_rowc F_row_clocks T.toTxtZ
  refine F.ok sc_found_clocks (fun vs H Q E h => ?_) (fun cdv A outer s H vs Q E hr h => ?_)
  · obtain ⟨p, gss, _, _, _, rfl, _⟩ := h
    rfl
  · obtain ⟨p, gss, many, S, G, rfl, _, hR, hV, q⟩ := h
    have hu := hu_of hr
    have hr_row_clocks : Room 1 _ := hr
    obtain ⟨ts, hp, hts, hrow⟩ := hR.ex
    have v6' := hV.h6
    have v24 := hV.len
    refine ⟨_, (pss_cons (ps_set (i := 1) sc_found_clocks.nd rfl (Or.inl rfl) pe_dnewT) (pss_cons (ps_set (i := 2) sc_found_clocks.nd rfl (Or.inl rfl) (pe_un un_neg pe_int)) (pss_cons (ps_while PassesOwn.never (pt_cmpR op_lt (pv 2) (pe_callB call_len_dT (by rfl) T.len PySem.boot_len (pa_cons (pv 1) pa_nil)) (nomark _)) (pss_cons (ps_set (i := 2) sc_found_clocks.nd rfl (Or.inl rfl) (pe_callB call_len_dT (by rfl) T.len PySem.boot_len (pa_cons (pv 1) pa_nil))) (pss_one (ps_for PassesOwn.never rfl (pi_enT (by rfl) T.enumerate (pa_cons (pv 0) pa_nil)) (pg_tup (by rfl) (pgs_cons (pg_name (i := 3) sc_found_clocks.nd rfl (Or.inl rfl)) (pgs_cons (pg_name (i := 4) sc_found_clocks.nd rfl (Or.inl rfl)) pgs_nil))) (pss_cons (ps_set (i := 5) sc_found_clocks.nd rfl (Or.inl rfl) (pe_call G_row_clocks hr_row_clocks (by rfl) T.g_row_clocks F_row_clocks.kp b_row_clocks .nil pass0 (pa_cons (pv 3) (pa_cons (pv 4) (pa_cons (pe_callB call_len_seq (by rfl) T.len PySem.boot_len (pa_cons (pv 0) pa_nil)) (pa_cons (pv 1) pa_nil)))))) (pss_one (ps_lock (ps_for PassesOwn.never rfl (pi_keys (pv 5)) (pg_name (i := 6) sc_found_clocks.nd rfl (Or.inl rfl)) (pss_one (ps_dput hu (pv 1) (pv 6) (pe_dget hu (pv 5) (pv 6) (fun _ _ => rfl)) rfl)))))))))) (pss_one (ps_ret (pv 1)))))), ?_⟩
    intro d nD
    have s0 : Same H (upd H d (.dT [])) := same_new nD
    let Inv0 : Int → Option V → Option V → Option V → Option V → List (List Key × V) → List Dg → L2.St → Hp → Prop := fun b v3 v4 v5 v6 kvs dn σ H2 => σ = [some (.ref p), some (.ref d), some (.int b), v3, v4, v5, v6] ∧ Same H H2 ∧ H2 d = some (.dT kvs) ∧ DictC Ck H2 kvs dn ∧ dn.Nodup ∧ (∀ x ∈ dn, x ∈ ((plAll 0 gss).map (·.1) : List Dg))
    refine ⟨_, rfl, fun m σ H2 => ∃ (b : Int) (v3 v4 v5 v6 : Option V) (kvs : List (List Key × V)) (dn : List Dg), Inv0 b v3 v4 v5 v6 kvs dn σ H2 ∧ m = 2 * (24 - dn.length) + (if b < (dn.length : Int) then 1 else 0) ∧
      (b < (dn.length : Int) ∨ ∀ (i : Nat) (gs : List Dg), gss[i]? = some gs → ∀ x ∈ reach dn gs, x ∈ dn), ⟨_, -1, none, none, none, none, [], [], ⟨rfl, s0, upd_same, ⟨rfl, fun i g e => by cases e⟩, List.nodup_nil, (fun x hx => by cases hx)⟩, rfl, .inl (by decide)⟩, ?_⟩
    rintro m σ H2 ⟨b, v3, v4, v5, v6, kvs, dn, ⟨rfl, sm, hd, dc, nd, sub⟩, em, fx⟩
    have d24 : dn.length ≤ 24 := by
      have h1 := nd_len nd sub
      rw [List.length_map] at h1
      omega
    have el : (kvs.length : Int) = (dn.length : Int) := by rw [dc.len]
    refine ⟨_, rfl, _, rfl, d, kvs, rfl, hd, _, _, rfl, rfl, _, rfl, ?_⟩
    rw [el]
    by_cases c : b < (dn.length : Int)
    · rw [decide_eq_true c]
      rw [if_pos c] at em
      refine ⟨fun σ' H' => ∃ m', m' < m ∧ ∃ (b : Int) (v3 v4 v5 v6 : Option V) (kvs : List (List Key × V)) (dn : List Dg), Inv0 b v3 v4 v5 v6 kvs dn σ' H' ∧ m' = 2 * (24 - dn.length) + (if b < (dn.length : Int) then 1 else 0) ∧
        (b < (dn.length : Int) ∨ ∀ (i : Nat) (gs : List Dg), gss[i]? = some gs → ∀ x ∈ reach dn gs, x ∈ dn), fun σ' H' h => h, ?_⟩
      -- before = len(clocks)
      refine ⟨_, rfl, d, kvs, rfl, hd, ?_⟩
      -- for hand, row in enumerate(rows)
      refine ⟨_, rfl, p, _, rfl, .inl (.inl (sm _ _ hp)), for_it walk_enT (fun i σ H3 => ∃ (v3 v4 v5 v6 : Option V) (kvs1 : List (List Key × V)) (dn1 : List Dg), Inv0 (dn.length : Int) v3 v4 v5 v6 kvs1 dn1 σ H3 ∧ (∀ x ∈ dn, x ∈ dn1) ∧
          ∀ (k : Nat) (gs : List Dg), k < i → gss[k]? = some gs → ∀ x ∈ reach dn gs, x ∈ dn1) ⟨_, _, _, _, kvs, dn, ⟨by rw [← el]; rfl, sm, hd, dc, nd, sub⟩, fun x hx => hx, fun k gs hk => by omega⟩ (fun i σ H3 _ ⟨_, _, _, _, _, _, ⟨_, sm3, _⟩, _⟩ => .inl (.inl (sm3 _ _ hp))) ?_ ?_⟩
      · rintro i x σ H3 H4 hi ⟨v3, v4, v5, v6, kvs1, dn1, ⟨rfl, sm3, hd3, dc3, nd3, sub3⟩, inc3, don3⟩ ⟨U, x1, x2, rfl, nU, rfl, e1, e2⟩
        obtain rfl : x1 = .int (i : Int) := (Option.some.inj e1).symm
        obtain ⟨t, et, rfl⟩ := map_get e2
        obtain ⟨gs, egs⟩ := get_of hts et
        obtain ⟨qs, ht, hql, hqs⟩ := hrow i t gs et egs
        have sU : Same H3 (upd H3 U (.tup [.int (i : Int), .ref t])) := same_new nU
        refine ⟨U, _, rfl, .inl (.inl upd_same), rfl, _, _, rfl, _, _, rfl, rfl, ?_⟩
        have il : i < gss.length := (List.getElem?_eq_some_iff.mp egs).1
        have gnd : gs.Nodup := hV.once.row egs
        have gl : gs.length ≤ 24 := by
          have h1 := nd_len gnd (b := (plAll 0 gss).map (·.1)) fun y hy => by
            obtain ⟨n, ln, en⟩ := List.getElem_of_mem hy
            exact in_all egs (List.getElem?_eq_some_iff.mpr ⟨ln, en⟩)
          rw [List.length_map] at h1
          omega
        have sm4 := Same.trans sm3 sU
        -- found = row_clocks(hand, row, len(rows), clocks)
        refine ⟨_, rfl, _, rfl, _, rfl, p, _, rfl, .inr (.inl (.inl (sm4 _ _ hp))), _, rfl, ?_⟩
        refine ⟨i, t, gs, gss.length, d, kvs1, dn1, ?_, ⟨qs, sm4 _ _ ht, hql, fun j q g a b => sm4 _ _ (hqs j q g a b)⟩, sU _ _ hd3, dc3.tups (Same.tups sU), nd3, il, v6', gnd, by omega, hV.ck i gs egs, hV.ckl, fun H5 fd5 more s5 nf hf df => ?_⟩
        · rw [List.length_map, hts]
          rfl
        have hd5 := s5 _ _ (sU _ _ hd3)
        have dc5 := (dc3.tups (Same.tups sU)).tups (Same.tups s5)
        have sm5 : Same H H5 := Same.trans sm4 s5
        have nHf : H fd5 = none := sm4.free nf
        have nfd : d ≠ fd5 := fun z => by
          rw [← z, sU _ _ hd3] at nf
          cases nf
        have rnd : (reach dn1 gs).Nodup := List.Nodup.sublist (List.takeWhile_sublist (readyG dn1)) gnd
        -- for doing in found, found locked
        refine ⟨fd5, _, hf, True.intro, fun od => ?_⟩
        have tpl : Tups H5 (upd H5 fd5 (.frz od (.dT more))) := Tups.upd hf fun xs z => by cases z
        refine ⟨_, rfl, fd5, od, rfl, .inr ⟨more, upd_same, for_it walk_keysT (fun j σ H6 => ∃ (v6 : Option V) (kvs2 : List (List Key × V)) (dn2 : List Dg), σ = [some (.ref p), some (.ref d), some (.int (dn.length : Int)), some (.int (i : Int)), some (.ref t), some (.ref fd5), v6] ∧ H6 fd5 = some (.frz od (.dT more)) ∧ H6 d = some (.dT kvs2) ∧
            DictC Ck H6 more (reach dn1 gs) ∧ DictC Ck H6 kvs2 dn2 ∧ dn2.Nodup ∧ (∀ x, x ∈ dn2 ↔ x ∈ dn1 ∨ x ∈ (reach dn1 gs).take j) ∧ ∀ b o, H b = some o → H6 b = some o)
          ⟨_, kvs1, dn1, rfl, upd_same, by rw [upd_ne nfd]; exact hd5, df.tups tpl, dc5.tups tpl, nd3, fun x => by rw [List.take_zero]; simp, fun b o e => by rw [upd_ne (ne_of_none e nHf)]; exact sm5 _ _ e⟩ (fun j σ H6 _ ⟨_, _, _, _, hz, _⟩ => hz) ?_ ?_⟩⟩
        · rintro j x σ Hz H6 hj ⟨v6, kvs2, dn2, rfl, hf6, hd6, df6, dc6, nd6, mem6, k6⟩ ⟨rfl, k, v, q0, ek, rfl, hq0⟩
          have lj : j < (reach dn1 gs).length := by rw [← df6.len]; exact hj
          have eg : (reach dn1 gs)[j]? = some (reach dn1 gs)[j] := List.getElem?_eq_getElem lj
          revert eg
          generalize (reach dn1 gs)[j] = g
          intro eg
          obtain ⟨q1, ea, hq1⟩ := df6.vs j g eg
          rw [ek] at ea
          obtain ⟨rfl, rfl⟩ : k = g.key ∧ v = .ref q1 := ⟨congrArg Prod.fst (Option.some.inj ea), congrArg Prod.snd (Option.some.inj ea)⟩
          have hv : valV more g.key = some (.ref q1) := val_some (by rw [df6.ks]; exact List.Pairwise.map _ (fun a b c e => c (Dg.key_inj e)) rnd) ek
          have l2 : dn2.length ≤ 1000 := by
            have h1 := nd_len nd6 (b := (plAll 0 gss).map (·.1)) fun y hy => by
              rcases (mem6 y).mp hy with c | c
              · exact sub3 y c
              · obtain ⟨n, ln, en⟩ := List.getElem_of_mem (reach_in y (List.mem_of_mem_take c))
                exact in_all egs (List.getElem?_eq_some_iff.mpr ⟨ln, en⟩)
            rw [List.length_map] at h1
            omega
          refine ⟨_, rfl, _, rfl, fd5, .ref q1, rfl, .inr ⟨more, g.key, q0, .inr ⟨od, hf6⟩, rfl, hq0, hv.symm⟩, _, rfl, _, rfl, d, _, rfl, DPut.t (k := g.key) hd6 hq0 (by rw [dc6.len]; exact small1000 (by omega)), ?_⟩
          obtain ⟨dn3, d3, nd3', m3⟩ := dc6.put nd6 hq1
          have tp : Tups H6 (upd H6 d (.dT (putK kvs2 g.key (.ref q1)))) := Tups.upd hd6 fun xs z => by cases z
          refine ⟨_, _, dn3, rfl, by rw [upd_ne nfd.symm]; exact hf6, upd_same, df6.tups tp, d3.tups tp, nd3', fun x => ?_, fun b o e => by rw [upd_ne (ne_of_none e nD)]; exact k6 b o e⟩
          rw [m3, mem6, take_snoc eg, List.mem_append]
          constructor
          · rintro ((c | c) | c)
            · exact .inl c
            · exact .inr (.inl c)
            · exact .inr (.inr (by rw [c]; exact List.mem_cons_self ..))
          · rintro (c | c | c)
            · exact .inl (.inl c)
            · exact .inl (.inr c)
            · rcases List.mem_cons.mp c with z | z
              · exact .inr z
              · cases z
        · rintro σ H6 ⟨v6, kvs2, dn2, rfl, hf6, hd6, df6, dc6, nd6, mem6, k6⟩
          rw [df6.len, List.take_length] at mem6
          have tp : Tups H6 (upd H6 fd5 (.dT more)) := Tups.upd hf6 fun xs z => by cases z
          refine ⟨hf6, _, _, _, _, kvs2, dn2, ⟨rfl, fun b o e => by rw [upd_ne (ne_of_none e nHf)]; exact k6 b o e, by rw [upd_ne nfd]; exact hd6, dc6.tups tp, nd6, fun z hz => ?_⟩, fun z hz => (mem6 z).mpr (.inl (inc3 z hz)), fun k gs' hk ek z hz => ?_⟩
          · rcases (mem6 z).mp hz with c | c
            · exact sub3 z c
            · obtain ⟨n, ln, en⟩ := List.getElem_of_mem (reach_in z c)
              exact in_all egs (List.getElem?_eq_some_iff.mpr ⟨ln, en⟩)
          · by_cases ci : k < i
            · exact (mem6 z).mpr (.inl (don3 k gs' ci ek z hz))
            · have e3 : k = i := by omega
              subst e3
              rw [egs] at ek
              cases ek
              exact (mem6 z).mpr (.inr (reach_sub inc3 z hz))
      · rintro σ H3 ⟨v3, v4, v5, v6, kvs1, dn1, ⟨rfl, sm3, hd3, dc3, nd3, sub3⟩, inc3, don3⟩
        have l0 := nd_len nd inc3
        have l1 := nd_len nd3 sub3
        rw [List.length_map] at l1 don3
        rw [hts] at don3
        by_cases cl : (dn.length : Int) < (dn1.length : Int)
        · refine ⟨_, ?_, (dn.length : Int), v3, v4, v5, v6, kvs1, dn1, ⟨rfl, sm3, hd3, dc3, nd3, sub3⟩, rfl, .inl cl⟩
          rw [if_pos cl, em]
          omega
        · have back := nd_more nd nd3 inc3 (by omega)
          refine ⟨_, ?_, (dn.length : Int), v3, v4, v5, v6, kvs1, dn1, ⟨rfl, sm3, hd3, dc3, nd3, sub3⟩, rfl, .inr fun i gs e x hx => ?_⟩
          · rw [if_neg cl, em]
            omega
          · exact don3 i gs ((List.getElem?_eq_some_iff.mp e).1) e x (reach_sub back x hx)
    · rw [decide_eq_false c]
      refine ⟨_, rfl, q H2 d kvs dn sm nD hd dc nd fun g => ⟨sub g, fun hg => hV.rest (fx.resolve_left c) g hg⟩⟩
end
end Up

set_option Elab.async false
set_option linter.all false
set_option maxRecDepth 100000
set_option maxHeartbeats 4000000
/-! an own class's == against anything, the other way round, and != -/
namespace Up
open PySem PySem.Spec PyProof.Rows L2 PySem.SeqAt
section
variable {prog : Program} {w : World} {A : Around} {E : Value → Shared → Prop} {K : PySem.W.Frag}
/-- a text and an int stand as values -/
def Form (T : String) (u : Value) : Prop := (T = "str" → ∃ z t, u = .str z t) ∧ (T = "int" → ∃ i t, u = .int i t)
/-- how a builtin type's == declines an instance of the class at C -/
structure Decl (K : PySem.W.Frag) (C : Addr) (T : String) : Prop where
  slot : ∃ (id : String) (B : Builtin), Slot T "__eq__" id ∧ entryFor table id = some B ∧ (∀ u v, argsOk id ⟨[u, v], []⟩) ∧
    ∀ {prog : Program} {w : World} {A : Around} {E : Value → Shared → Prop} {Q : PySem.Fin → Shared → Prop} {s : Shared} {u : Value} {a : Addr} {ox : Obj} {od : Option Obj}, K.In s.heap → PySem.W.InstAt s.heap a ox C od → (∀ z, ox.data ≠ .prim z) → s.TypeIs u T → Form T u → Q (.done (.ret .notImplemented)) s →
      wpAny (model prog w) A (B ⟨[u, .ref a], []⟩) Q E s
  sub : PySem.W.subIn K (.ref C) (.type T) = some false
theorem notInst {M : Model} {h : Heap} {a C : Addr} {ox : Obj} {od : Option Obj} {T : String} (X : K.In h) (J : PySem.W.InstAt h a ox C od) (e : PySem.W.subIn K (.ref C) (.type T) = some false) : PySem.W.Looks M h (isInstance (.ref a) (.type T)) false :=
  J.type.andThen (PySem.W.looks_subIn X e)
theorem decl_list {C : Addr} (e : PySem.W.subIn K (.ref C) (.type "list") = some false) : Decl K C "list" := by
  refine ⟨⟨_, _, F.slot_list_eq, F.entry_list_eq, fun u v => F.args_list_eq_2 u v, ?_⟩, e⟩
  intro prog w A E Q s u a ox od X J np hT hF hq
  have L := PySem.W.looks_subIn (M := model prog w) X e
  obtain ⟨ho, hc, _⟩ := J
  obtain ⟨cls, dict, data, slots⟩ := ox
  simp only at hc np
  subst hc
  obtain ⟨hp, g, d, tk, os⟩ := s
  repeat (first | exact hq | with_reducible refine wpAny_loadPart_at ho ?_ | (with_reducible refine L.at ?_) | wp_step)
theorem decl_tuple {C : Addr} (e : PySem.W.subIn K (.ref C) (.type "tuple") = some false) : Decl K C "tuple" := by
  refine ⟨⟨_, _, F.slot_tuple_eq, F.entry_tuple_eq, fun u v => F.args_tuple_eq_2 u v, ?_⟩, e⟩
  intro prog w A E Q s u a ox od X J np hT hF hq
  have L := PySem.W.looks_subIn (M := model prog w) X e
  obtain ⟨ho, hc, _⟩ := J
  obtain ⟨cls, dict, data, slots⟩ := ox
  simp only at hc np
  subst hc
  obtain ⟨hp, g, d, tk, os⟩ := s
  repeat (first | exact hq | with_reducible refine wpAny_loadPart_at ho ?_ | (with_reducible refine L.at ?_) | wp_step)
theorem decl_dict {C : Addr} (e : PySem.W.subIn K (.ref C) (.type "dict") = some false) : Decl K C "dict" := by
  refine ⟨⟨_, _, F.slot_dict_eq, F.entry_dict_eq, fun u v => F.args_dict_eq_2 u v, ?_⟩, e⟩
  intro prog w A E Q s u a ox od X J np hT hF hq
  have L := PySem.W.looks_subIn (M := model prog w) X e
  obtain ⟨ho, hc, _⟩ := J
  obtain ⟨cls, dict, data, slots⟩ := ox
  simp only at hc np
  subst hc
  obtain ⟨hp, g, d, tk, os⟩ := s
  repeat (first | exact hq | with_reducible refine wpAny_loadPart_at ho ?_ | (with_reducible refine L.at ?_) | wp_step)
theorem decl_str {C : Addr} (e : PySem.W.subIn K (.ref C) (.type "str") = some false) : Decl K C "str" := by
  refine ⟨⟨_, _, F.slot_str_eq, F.entry_str_eq, fun u v => F.args_str_eq_2 u v, ?_⟩, e⟩
  intro prog w A E Q s u a ox od X J np hT hF hq
  have L := PySem.W.looks_subIn (M := model prog w) X e
  obtain ⟨ho, hc, _⟩ := J
  obtain ⟨cls, dict, data, slots⟩ := ox
  simp only at hc np
  subst hc
  obtain ⟨hp, g, d, tk, os⟩ := s
  obtain ⟨z, t, rfl⟩ := hF.1 rfl
  cases data <;> first | exact absurd rfl (np _) | skip
  all_goals repeat (first | exact hq | with_reducible refine wpAny_loadPart_at ho ?_ | (with_reducible refine L.at ?_) | wp_step)
theorem decl_int {C : Addr} (e : PySem.W.subIn K (.ref C) (.type "int") = some false) : Decl K C "int" := by
  refine ⟨⟨_, _, F.slot_int_eq, F.entry_int_eq, fun u v => F.args_int_eq_2 u v, ?_⟩, e⟩
  intro prog w A E Q s u a ox od X J np hT hF hq
  have L := PySem.W.looks_subIn (M := model prog w) X e
  obtain ⟨ho, hc, _⟩ := J
  obtain ⟨cls, dict, data, slots⟩ := ox
  simp only at hc np
  subst hc
  obtain ⟨hp, g, d, tk, os⟩ := s
  obtain ⟨z, t, rfl⟩ := hF.2 rfl
  cases data <;> first | exact absurd rfl (np _) | skip
  all_goals repeat (first | exact hq | with_reducible refine wpAny_loadPart_at ho ?_ | (with_reducible refine L.at ?_) | wp_step)
theorem decl_NoneType {C : Addr} (e : PySem.W.subIn K (.ref C) (.type "NoneType") = some false) : Decl K C "NoneType" := by
  refine ⟨⟨_, _, F.slot_NoneType_eq, F.entry_NoneType_eq, fun u v => F.args_NoneType_eq_2 u v, ?_⟩, e⟩
  intro prog w A E Q s u a ox od X J np hT hF hq
  have L := PySem.W.looks_subIn (M := model prog w) X e
  obtain ⟨ho, hc, _⟩ := J
  obtain ⟨cls, dict, data, slots⟩ := ox
  simp only at hc np
  subst hc
  obtain ⟨hp, g, d, tk, os⟩ := s
  repeat (first | exact hq | with_reducible refine wpAny_loadPart_at ho ?_ | (with_reducible refine L.at ?_) | wp_step)
end
end Up

set_option Elab.async false
set_option linter.all false
set_option maxRecDepth 100000
set_option maxHeartbeats 4000000
/-! an own class's == against anything, the other way round, and != -/
namespace Up
open PySem PySem.Spec PyProof.Rows L2 PySem.SeqAt
section
variable {X : Cx} {CX : CXT} {C f : Addr} {n : Nat} {sp : Sp} {E : XK}
theorem looks_type {M : Model} {s : Shared} {u : Value} {T : String} (h : s.TypeIs u T) : PySem.W.Looks M s.heap (typeOf u) (.type T) := by
  cases u with
  | ref a =>
    obtain ⟨o, h1, h2⟩ := (show ∃ o, s.heap.get? a = some o ∧ o.cls = .type T from h)
    have L : PySem.W.Looks M s.heap (loadPart a (some headPart)) o := .ld h1
    exact L.andThen (by rw [h2]; exact .now)
  | _ => exact .of_pure h
theorem form_of {K : PySem.W.Frag} {H : Hp} {x : V} {u : Value} {T : String} (t : TyB K H x T) (r : RelV x u) : Form T u := by
  cases t <;> refine ⟨fun e => ?_, fun e => ?_⟩ <;> first | exact absurd e (by decide) | skip
  all_goals exact ⟨_, r⟩
/-- the callee runs, inside a builtin -/
theorem runR_in1 {pins : List (Addr × Obj)} {σ : L2.St} {H : Hp} {s : Shared} {Q : VK} {us : List Value} {vs : List V} (F : FnR X.prog X.w X.K X.mg X.base CX n f sp) (hr : Room n X.A.in1) (hx : Passes CX X E) (I : Inv X pins σ H s) (r : Vals vs us) (h : sp vs H Q E) :
    codeAny (model X.prog X.w) X.A.in1 (.call (.ref f) ⟨us, []⟩) (fun r s' => match r with | .ok (.ret v) => EP X pins σ Q v s' | .ok _ => False | .error e => X.xe e s') s := by
  refine codeAny_mono (F X.A.in1 X.stack s H us vs Q E hr I.env0.in1 r h) fun r s' hq => ?_
  cases r with
  | error e => exact hx pins σ H s e s' I hq
  | ok fl =>
    cases fl with
    | ret u => exact I.after hq
    | next => exact False.elim hq
    | brk => exact False.elim hq
    | cont => exact False.elim hq
/-- what is known of a value's type -/
inductive TyY (K : PySem.W.Frag) (H : Hp) : V → Value → Prop where
  | b {x : V} {T : String} (t : TyB K H x T) : TyY K H x (.type T)
  | i {b C dx : Addr} {fs : List (Str × V)} (e : H b = some (.ins C dx fs)) : TyY K H (.ref b) (.ref C)
theorem TyY.looks {pins : List (Addr × Obj)} {σ : L2.St} {H : Hp} {s : Shared} {x : V} {u t : Value} {M : Model} (I : Inv X pins σ H s) (r : RelV x u) (y : TyY X.K H x t) : PySem.W.Looks M s.heap (typeOf u) t := by
  cases y with
  | b t => exact looks_type (t.is I r)
  | i e =>
    obtain rfl : u = Value.ref _ := r
    obtain ⟨mA, O, _⟩ := ins_get I.hok e
    obtain ⟨od, J, _⟩ := O.look
    exact J.type
/-- x == y, x an instance of the class at C -/
def rEqO (K : PySem.W.Frag) (C : Addr) (sp : Sp) (E : XK) : R2 := fun x y H Q => ∃ (a dx : Addr) (fs : List (Str × V)) (t : Value), x = .ref a ∧ H a = some (.ins C dx fs) ∧ TyY K H y t ∧ PySem.W.notFirst K C t = true ∧ sp [x, y] H Q E
theorem op_eqO (hs : PySem.W.findIn X.K (.ref C) "__eq__" = some (some (.ref f))) (hf : PySem.W.isFn X.K (.ref f) = true) (F : FnR X.prog X.w X.K X.mg X.base CX n f sp) (hr : Room n X.A) (hx : Passes CX X E) : OpR X (compareOp .Eq) (rEqO X.K C sp E) := by
  intro pins s σ H x y v u Q I rx ry h
  obtain ⟨a, dx, fs, t, rfl, ha, ht, hn, q⟩ := h
  obtain rfl : v = Value.ref a := rx
  obtain ⟨mA, O, _⟩ := ins_get I.hok ha
  obtain ⟨od, J, _⟩ := O.look
  obtain ⟨m, hF⟩ := I.fr
  show wpAny (model X.prog X.w) X.A (richCompare .Eq (.ref a) u) (EP X pins σ Q) X.xe s
  refine PySem.W.cmp_K (op := .Eq) (tb := t) hr.units0 hF I.ok.mod.kin J (ht.looks I ry) hn hs hf ?_
  refine wpAny_mono (wpAny_call (run_fnR (us := [.ref a, u]) (vs := [.ref a, y]) F hr hx I (.cons rfl (.cons ry .nil)) q)) (fun w s' z => ?_) fun _ _ x => x
  obtain ⟨z', H', I', rz, qz⟩ := z
  exact SlX.cmpback rz ⟨z', H', I', rz, qz⟩
/-- x == y, y an instance of the class at C, x of a builtin type -/
def rEqR (K : PySem.W.Frag) (C : Addr) (sp : Sp) (E : XK) : R2 := fun x y H Q => ∃ (a dx : Addr) (fs : List (Str × V)) (T : String), y = .ref a ∧ H a = some (.ins C dx fs) ∧ TyB K H x T ∧ Decl K C T ∧ sp [y, x] H Q E
theorem op_eqR (hs : PySem.W.findIn X.K (.ref C) "__eq__" = some (some (.ref f))) (hf : PySem.W.isFn X.K (.ref f) = true) (F : FnR X.prog X.w X.K X.mg X.base CX n f sp) (hr : Room n X.A) (hx : Passes CX X E) : OpR X (compareOp .Eq) (rEqR X.K C sp E) := by
  intro pins s σ H x y v u Q I rx ry h
  obtain ⟨a, dx, fs, T, rfl, ha, ht, D, q⟩ := h
  obtain rfl : u = Value.ref a := ry
  obtain ⟨mA, O, _⟩ := ins_get I.hok ha
  obtain ⟨od, J, _⟩ := O.look
  have hT := ht.is I rx
  have LT : PySem.W.Looks (model X.prog X.w) s.heap (typeOf v) (.type T) := looks_type hT
  obtain ⟨id, B, S, hB, hA, hD⟩ := D.slot
  have two : wpAny (model X.prog X.w) X.A (tryCompare (.ref a) "__eq__" v) (fun r s' => ∃ z, r = some z ∧ EP X pins σ Q z s') X.xe s := by
    unfold tryCompare
    refine wpAny_bind (PySem.W.ifBound_K I.kIn J hs hf (wpAny_mono (wpAny_call (run_fnR (us := [.ref a, v]) (vs := [.ref a, x]) F hr hx I (.cons rfl (.cons rx .nil)) q)) (fun z s' hz => ?_) fun _ _ e => e))
    obtain ⟨z', H', I', rz, qz⟩ := hz
    have back := SlX.cmpback rz (P := EP X pins σ Q) ⟨z', H', I', rz, qz⟩
    cases z <;> first | exact back.elim | exact wpAny_pure ⟨_, rfl, back⟩
  show wpAny (model X.prog X.w) X.A (richCompare .Eq v (.ref a)) (EP X pins σ Q) X.xe s
  unfold richCompare
  rw [hT.oneThing_none]
  refine wpAny_holding (wpAny_bind (wpAny_cRoomFor hr.units0 ?_))
  refine wpAny_bind (LT.here (wpAny_bind (J.type.here ?_)))
  have ne : ((Value.type T) != (Value.ref C)) = true := rfl
  simp only [ne, if_true]
  refine wpAny_bind ((PySem.W.looks_subIn I.kIn D.sub).here ?_)
  simp only [Bool.false_eq_true, if_false]
  refine wpAny_bind ?_
  have one : wpAny (model X.prog X.w) X.A (tryCompare v (cmpInfo .Eq).2.1 (.ref a)) (fun r s' => r = none ∧ s' = s) X.xe s := by
    unfold tryCompare
    refine wpAny_bind (wpAny_callSpecialIfBound?_slot hT S (wpAny_call (codeAny_call_builtin S.plain hB (S.check _ _ _ _ _ _ _ _ hT (hA _ _) (hD I.kIn J (fun z c => nomatch c) hT (form_of ht rx) ?_)))))
    exact wpAny_pure ⟨rfl, rfl⟩
  refine wpAny_mono one (fun r s' z => ?_) fun _ _ e => e
  obtain ⟨rfl, rfl⟩ := z
  refine wpAny_bind (wpAny_mono two (fun r s' z => ?_) fun _ _ e => e)
  obtain ⟨z, rfl, hz⟩ := z
  exact wpAny_pure hz
/-- x != y, both instances of the class at C -/
def rNeO (C : Addr) (sp : Sp) (E : XK) : R2 := fun x y H Q => ∃ (a dx b dy : Addr) (fs gs : List (Str × V)), x = .ref a ∧ y = .ref b ∧ H a = some (.ins C dx fs) ∧ H b = some (.ins C dy gs) ∧ sp [x, y] H (fun v H' => ∃ r : Bool, v = .bl r ∧ Q (.bl (!r)) H') E
theorem op_neO (hs : PySem.W.findIn X.K (.ref C) "__eq__" = some (some (.ref f))) (hf : PySem.W.isFn X.K (.ref f) = true) (hne : PySem.W.findIn X.K (.ref C) "__ne__" = some (some (.builtin "object.__ne__"))) (hmo : PySem.W.mroIn X.K C (.type "object") = some true)
    (F : FnR X.prog X.w X.K X.mg X.base CX n f sp) (hr : Room (n + 1) X.A) (hx : Passes CX X E) : OpR X (compareOp .NotEq) (rNeO C sp E) := by
  intro pins s σ H x y v u Q I rx ry h
  obtain ⟨a, dx, b, dy, fs, gs, rfl, rfl, ha, hb, q⟩ := h
  obtain rfl : v = Value.ref a := rx
  obtain rfl : u = Value.ref b := ry
  obtain ⟨mA, O, _⟩ := ins_get I.hok ha
  obtain ⟨od, J, _⟩ := O.look
  obtain ⟨mB, O', _⟩ := ins_get I.hok hb
  obtain ⟨od', J', _⟩ := O'.look
  show wpAny (model X.prog X.w) X.A (richCompare .NotEq (.ref a) (.ref b)) (EP X pins σ Q) X.xe s
  unfold richCompare
  simp only [oneThing_ref]
  refine wpAny_holding (wpAny_bind (wpAny_cRoomFor hr.units0 ?_))
  refine wpAny_bind (J.type.here (wpAny_bind (J'.type.here ?_)))
  rw [show (Value.ref C != Value.ref C) = false by simp]
  simp only [Bool.false_eq_true, if_false]
  refine wpAny_bind (wpAny_pure ?_)
  simp only [Bool.false_eq_true, if_false]
  refine wpAny_bind ?_
  have sub : PySem.W.Looks (model X.prog X.w) s.heap (isInstance (.ref a) (.type "object")) true := J.type.andThen (PySem.W.looks_mroIn I.kIn hmo)
  have hu := hr.units0
  have one : wpAny (model X.prog X.w) X.A (tryCompare (.ref a) (cmpInfo .NotEq).2.1 (.ref b)) (fun r s' => ∃ z, r = some z ∧ EP X pins σ Q z s') X.xe s := by
    unfold tryCompare
    have st : wpAny (model X.prog X.w) X.A (callSpecialIfBound? (.ref a) (cmpInfo .NotEq).2.1 [.ref b]) (fun o s' => ∃ z, o = some (.bool z) ∧ EP X pins σ Q (.bool z) s') X.xe s := by
      simp only [callSpecialIfBound?, bindSpecialIfBound?]
      refine wpAny_holding (wpAny_bind (wpAny_bind (wpAny_bind (J.type.here ((PySem.W.looks_findIn I.kIn hne).here ?_)))))
      simp only [PySem.F.cmp_object.ne.bind]
      have fin : wpAny (model X.prog X.w) X.A (call (.builtin "object.__ne__") ([.ref a] ++ [.ref b]) >>= fun v => pure (some v)) (fun o s' => ∃ z, o = some (.bool z) ∧ EP X pins σ Q (.bool z) s') X.xe s := by
        refine wpAny_bind (wpAny_call (codeAny_call_builtin PySem.F.cmp_object.ne.plain PySem.F.cmpEntry_ne (PySem.W.check_slot (self := .ref a) (rest := [.ref b]) (kw := []) PySem.F.cmpKind_ne PySem.F.cmpSplit_ne sub (PySem.F.cmpArgs_ne _ _) ?_)))
        obtain ⟨hp, g, d, tk, os⟩ := s
        unfold Builtin.«object.__ne__»
        have eq1 : wpAny (model X.prog X.w) X.A.in1 (callSpecialIfBound? (.ref a) "__eq__" [.ref b]) (fun o s' => ∃ r : Bool, o = some (.bool r) ∧ EP X pins σ Q (.bool (!r)) s') X.xe ⟨hp, g, d, tk, os⟩ := by
          refine PySem.W.ifBound_K I.kIn J hs hf (wpAny_mono (wpAny_call (runR_in1 F hr.in1 hx I (us := [.ref a, .ref b]) (vs := [.ref a, .ref b]) (.cons rfl (.cons rfl .nil)) q)) (fun w s' z => ?_) fun _ _ e => e)
          obtain ⟨z', H', I', rz, r, ez, qz⟩ := z
          subst ez
          obtain rfl : w = Value.bool r := rz
          exact ⟨r, rfl, .bl (!r), H', I', rfl, qz⟩
        have hu1 : X.A.in1.units < cLine := hr.in1.units0
        repeat (first | with_reducible refine wpAny_cRoomFor hu1 ?_ | refine wpAny_bind (m := callSpecialIfBound? (.ref a) (Str.ofString "__eq__") [.ref b]) (wpAny_mono eq1 (fun o s' hz => ?_) fun _ _ e => e) | wp_step)
        obtain ⟨r, rfl, hz⟩ := hz
        refine wpAny_bind (m := truthy (.bool r)) (wpAny_truthy_bool ?_)
        exact wpAny_pure (wpAny_pure ⟨_, rfl, hz⟩)
      refine wpAny_bind (wpAny_askSetting (wpAny_ite ?_))
      split
      · exact wpAny_bind (wpAny_pure (wpAny_pure fin))
      · exact wpAny_tryCatch (wpAny_bind (wpAny_pure (wpAny_pure fin)))
    refine wpAny_bind (wpAny_mono st (fun o s' z => ?_) fun _ _ e => e)
    obtain ⟨z, rfl, hz⟩ := z
    exact wpAny_pure ⟨_, rfl, hz⟩
  refine wpAny_mono one (fun r s' z => ?_) fun _ _ e => e
  obtain ⟨z, rfl, hz⟩ := z
  exact wpAny_pure hz
end
end Up

namespace Up
open PySem PySem.Spec PyProof.Rows L2
/-! ### Talk.__eq__ -/
def dgD (g : Dg) : PyData := .tuple [.str g.word, .int (g.l : Int)]
def rowD (gs : List Dg) : PyData := .tuple (gs.map dgD)
def rowsD (gss : List (List Dg)) : PyData := .tuple (gss.map rowD)
theorem DpAll.of {K : PySem.W.Frag} {H : Hp} {α : Type} {f : α → PyData} : ∀ {vs : List V} {as : List α}, vs.length = as.length → (∀ (i : Nat) v a, vs[i]? = some v → as[i]? = some a → Dp K H v (f a)) → DpAll K H vs (as.map f)
  | [], [], _, _ => .nil
  | v :: vs, a :: as, l, h => .cons (h 0 v a rfl rfl) (DpAll.of (by simpa using l) fun i v' a' e1 e2 => h (i + 1) v' a' e1 e2)
theorem RowsD.data {K : PySem.W.Frag} {H : Hp} {p : Addr} {gss : List (List Dg)} (h : RowsD H p gss) : Dp K H (.ref p) (rowsD gss) := by
  obtain ⟨ts, h1, h2, h3⟩ := h.ex
  refine .tup (.inl (.inl h1)) (DpAll.of (by rw [List.length_map]; exact h2) fun i v gs e1 e2 => ?_)
  obtain ⟨t, et, rfl⟩ := map_get e1
  obtain ⟨qs, k1, k2, k3⟩ := h3 i t gs et e2
  refine .tup (.inl (.inl k1)) (DpAll.of (by rw [List.length_map]; exact k2) fun j v g e3 e4 => ?_)
  obtain ⟨q, eq, rfl⟩ := map_get e3
  exact .tup (.inl (.inl (k3 j q g eq e4))) (.cons (.str _) (.cons (.int _) .nil))
theorem dgD_eqv (g g' : Dg) : PyData.eqv (dgD g) (dgD g') = decide (g = g') := by
  obtain ⟨s, l⟩ := g
  obtain ⟨s', l'⟩ := g'
  simp only [dgD, PyData.eqv, PyData.eqvAll, Dg.word]
  cases s <;> cases s' <;> by_cases c : l = l'
  all_goals first | subst c | skip
  all_goals simp [*]
  all_goals first | omega | decide | skip
theorem all_eqv {α : Type} [DecidableEq α] {f : α → PyData} (h : ∀ a b, PyData.eqv (f a) (f b) = decide (a = b)) : ∀ as bs : List α, PyData.eqvAll (as.map f) (bs.map f) = decide (as = bs)
  | [], [] => rfl
  | [], _ :: _ => rfl
  | _ :: _, [] => rfl
  | a :: as, b :: bs => by
    show (PyData.eqv (f a) (f b) && PyData.eqvAll (as.map f) (bs.map f)) = _
    rw [h, all_eqv h as bs]
    by_cases c : a = b <;> by_cases d : as = bs <;> simp [c, d]
theorem rowD_eqv (a b : List Dg) : PyData.eqv (rowD a) (rowD b) = decide (a = b) := by
  show PyData.eqvAll (a.map dgD) (b.map dgD) = _
  exact all_eqv dgD_eqv a b
theorem rowsD_eqv (a b : List (List Dg)) : PyData.eqv (rowsD a) (rowsD b) = decide (a = b) := by
  show PyData.eqvAll (a.map rowD) (b.map rowD) = _
  exact all_eqv rowD_eqv a b
theorem all_can {α : Type} {f : α → PyData} {n : Nat} (h : ∀ a, (f a).canLay0 = true ∧ (f a).depth ≤ n) : ∀ as : List α, PyData.canLayAll0 (as.map f) = true ∧ PyData.depthAll (as.map f) ≤ n
  | [] => by simp [PyData.canLayAll0, PyData.depthAll]
  | a :: as => by
    have h1 := h a
    have h2 := all_can h as
    simp only [List.map_cons, PyData.canLayAll0, PyData.depthAll, h1.1, h2.1, Bool.and_self, true_and]
    omega
theorem rowsD_shaped (gss : List (List Dg)) : SeqAt.shaped (rowsD gss) = true := by
  have h1 : ∀ g, (dgD g).canLay0 = true ∧ (dgD g).depth ≤ 1 := fun g => by
    have e1 : PyData.strOk g.word = true := by
      unfold Dg.word
      split <;> decide +kernel
    exact ⟨by simp only [dgD, PyData.canLay0, PyData.canLayAll0, e1]; rfl, by simp [dgD, PyData.depth, PyData.depthAll]⟩
  have h2 : ∀ gs, (rowD gs).canLay0 = true ∧ (rowD gs).depth ≤ 2 := fun gs => by
    have h := all_can h1 gs
    exact ⟨by simp only [rowD, PyData.canLay0]; exact h.1, by simp only [rowD, PyData.depth]; omega⟩
  have h := all_can h2 gss
  unfold SeqAt.shaped rowsD
  rw [Bool.and_eq_true]
  exact ⟨by simp only [PyData.canLay0]; exact h.1, decide_eq_true (by simp only [PyData.depth]; omega)⟩
/-- what a comparison sees of a talk -/
structure RowsOf (H : Hp) (x C : Addr) (gss : List (List Dg)) : Prop where
  ex : ∃ (dx r : Addr) (fs : List (Str × V)), H x = some (.ins C dx fs) ∧ fs.lookup ("rows" : Str) = some (.ref r) ∧ RowsD H r gss
theorem RowsOf.same {H H' : Hp} {x C : Addr} {gss : List (List Dg)} (s : Same H H') (h : RowsOf H x C gss) : RowsOf H' x C gss := by
  obtain ⟨dx, r, fs, h1, h2, h3⟩ := h.ex
  exact ⟨dx, r, fs, s _ _ h1, h2, h3.same s⟩
theorem TalkAt.rows {H : Hp} {x C : Addr} {gss : List (List Dg)} {many : Nat} {S G : Nat → Nat} {Ck : Dg → List Int} (t : TalkAt H x C gss many S G Ck) : RowsOf H x C gss := by
  obtain ⟨dx, r, p, s, g, c, kvs, ckv, dn, h1, h2, _⟩ := t.ex
  exact ⟨dx, r, _, h1, rfl, h2⟩
/-- what is asked of the class for isinstance(.., Talk) -/
structure IsTalk (K : PySem.W.Frag) (C : Addr) : Prop where
  ha : PySem.W.findIn K (.ref C) "__class__" = some (some (.builtin "object.__class__"))
  hn : PySem.W.specialIn K (.builtin "object.__class__") "__get__" = some (some (.builtin "getset_descriptor.__get__"))
  htk : PySem.W.takesIn K (.builtin "object.__class__") = some true
  hm : PySem.W.mroIn K C (.type "object") = some true
  self : PySem.W.kitOne K (.ref C) (.ref C) = some true
def spTEq (K : PySem.W.Frag) (C : Addr) : Sp := fun vs H Q _ => ∃ (x : Addr) (y : V) (gss : List (List Dg)), vs = [.ref x, y] ∧ RowsOf H x C gss ∧
  ((∃ t : Value, TyX K H y t ∧ PySem.W.kitOne K t (.ref C) = some false ∧ Q (.bl false) H) ∨ ∃ (z : Addr) (gss' : List (List Dg)), y = .ref z ∧ RowsOf H z C gss' ∧ Q (.bl (decide (gss = gss'))) H)
section
variable {P : Program} {w : World} {K : PySem.W.Frag} {mg : Str → Option Value} {base : Heap}
theorem ok_teq {f C fCo fPl fCn fCh fHa fCl : Addr} {fd : FuncData} (F : Fun K "__eq__" "Talk.__eq__" s_teq f fd) (T : TxtT K mg C fCo fPl fCn fCh fHa fCl) (J : IsTalk K C) : FnOk P w K mg base CX0 1 f fd ["self", "other"] (spTEq K C) := by
  refine F.ok sc_teq (fun vs H Q E h => ?_) (fun cdv A outer s H vs Q E hr h => ?_)
  · obtain ⟨x, y, gss, rfl, _⟩ := h
    rfl
  · obtain ⟨x, y, gss, rfl, hx, h⟩ := h
    have hu : (A.deeper (envOfC "Talk.__eq__" (defScope s_teq) s.heap.objs.size f cdv)).units + 64 < cLine := by
      have := hr.un
      omega
    refine ⟨_, (pss_one (ps_ret (pe_and (pe_callB call_isi (by rfl) T.isinstance bb_isinstance (pa_cons (pv 1) (pa_cons (pe_glob (v := .ref C) rfl T.g_Talk rfl) pa_nil))) (pe_one (pe_cmpR (op_eqD hu) (pe_fld (pv 0) rfl) (pe_fld (pv 1) rfl) (nomark _)))))), ?_⟩
    obtain ⟨dx, r, fs, ex, er, hR⟩ := hx.ex
    rcases h with ⟨t, ht, ek, q⟩ | ⟨z, gss', rfl, hz, q⟩
    · exact ⟨_, rfl, _, _, _, _, _, rfl, .own C, ht, ek, false, rfl, q⟩
    · obtain ⟨dz, r', fz, ez, er', hR'⟩ := hz.ex
      refine ⟨_, rfl, _, _, _, _, _, rfl, .own C, .base (.ins ez T.cl J.ha J.hn J.htk J.hm), J.self, true, rfl, ?_⟩
      rw [if_pos rfl]
      refine ⟨_, rfl, x, C, dx, fs, _, rfl, ex, T.cl, T.nRows, er, _, rfl, z, C, dz, fz, _, rfl, ez, T.cl, T.nRows, er', _, _, hR.data, hR'.data, rowsD_shaped _, rowsD_shaped _, ?_⟩
      rw [rowsD_eqv]
      exact q
end
end Up

namespace Up
open PySem PySem.Spec PyProof.Rows L2
/-! ### the exceptions' __init__ -/
abbrev s_xBadTalk : Stmt := (inClass (topS 9) 0)
theorem sc_xBadTalk : FnScope ["self", "place"] ["self", "place"] (defScope s_xBadTalk) := ⟨rfl, rfl, rfl, by decide +kernel, rfl, by decide +kernel, by decide +kernel⟩
abbrev s_xBadDoing : Stmt := (inClass (topS 10) 0)
theorem sc_xBadDoing : FnScope ["self", "value"] ["self", "value"] (defScope s_xBadDoing) := ⟨rfl, rfl, rfl, by decide +kernel, rfl, by decide +kernel, by decide +kernel⟩
abbrev s_xBadNumber : Stmt := (inClass (topS 11) 0)
theorem sc_xBadNumber : FnScope ["self", "value"] ["self", "value"] (defScope s_xBadNumber) := ⟨rfl, rfl, rfl, by decide +kernel, rfl, by decide +kernel, by decide +kernel⟩
section
variable {P : Program} {w : World} {K : PySem.W.Frag} {mg : Str → Option Value} {base : Heap}
theorem ok_xBadTalk {f C : Addr} {fd : FuncData} (F : Fun K "__init__" "BadTalk.__init__" s_xBadTalk f fd) (T : OexC K C) (n : PySem.W.findIn K (.ref C) "place" = some none) : FnOk P w K mg base CX0 1 f fd ["self", "place"] (spXInit C "place") := by
  refine F.ok sc_xBadTalk (fun vs H Q E h => ?_) (fun cdv A outer s H vs Q E hr h => ?_)
  · obtain ⟨a, v, rfl, _⟩ := h
    rfl
  · obtain ⟨a, v, rfl, ha, q⟩ := h
    refine ⟨_, (pss_one (ps_ost (pv 0) (pv 1))), ?_⟩
    exact ⟨_, rfl, _, rfl, a, C, rfl, T, n, .inl ⟨ha, fun d hd ne => q d hd ne⟩⟩
theorem ok_xBadDoing {f C : Addr} {fd : FuncData} (F : Fun K "__init__" "BadDoing.__init__" s_xBadDoing f fd) (T : OexC K C) (n : PySem.W.findIn K (.ref C) "value" = some none) : FnOk P w K mg base CX0 1 f fd ["self", "value"] (spXInit C "value") := by
  refine F.ok sc_xBadDoing (fun vs H Q E h => ?_) (fun cdv A outer s H vs Q E hr h => ?_)
  · obtain ⟨a, v, rfl, _⟩ := h
    rfl
  · obtain ⟨a, v, rfl, ha, q⟩ := h
    refine ⟨_, (pss_one (ps_ost (pv 0) (pv 1))), ?_⟩
    exact ⟨_, rfl, _, rfl, a, C, rfl, T, n, .inl ⟨ha, fun d hd ne => q d hd ne⟩⟩
theorem ok_xBadNumber {f C : Addr} {fd : FuncData} (F : Fun K "__init__" "BadNumber.__init__" s_xBadNumber f fd) (T : OexC K C) (n : PySem.W.findIn K (.ref C) "value" = some none) : FnOk P w K mg base CX0 1 f fd ["self", "value"] (spXInit C "value") := by
  refine F.ok sc_xBadNumber (fun vs H Q E h => ?_) (fun cdv A outer s H vs Q E hr h => ?_)
  · obtain ⟨a, v, rfl, _⟩ := h
    rfl
  · obtain ⟨a, v, rfl, ha, q⟩ := h
    refine ⟨_, (pss_one (ps_ost (pv 0) (pv 1))), ?_⟩
    exact ⟨_, rfl, _, rfl, a, C, rfl, T, n, .inl ⟨ha, fun d hd ne => q d hd ne⟩⟩
end
end Up

namespace Up
open PySem PySem.Spec PyProof.Rows L2
/-! ### _law_each_right -/
abbrev s_each : Stmt := (topS 28)
theorem sc_each : FnScope ["q", "pack", "told", "one", "at", "known", "k"] ["q"] (defScope s_each) := ⟨rfl, rfl, rfl, by decide +kernel, rfl, by decide +kernel, by decide +kernel⟩
theorem bt_VE : bootBuiltins "ValueError" = some (.type "ValueError") := by decide +kernel
/-- what of the text an exception class with one field has -/
structure XK1 (P : Program) (w : World) (K : PySem.W.Frag) (mg : Str → Option Value) (base : Heap) (nm f : Str) (C : Addr) : Prop where
  cls : XCls K C
  gl : mg nm = some (.ref C)
  noF : PySem.W.findIn K (.ref C) f = some none
  ini : ∃ (fI : Addr) (fd : FuncData), PySem.W.findIn K (.ref C) "__init__" = some (some (.ref fI)) ∧ PySem.W.typeIn K (.ref fI) = some (.type "function") ∧ FnOk P w K mg base CX0 1 fI fd ["self", f] (spXInit C f) ∧ Binds K fd ["self", f] [] ∧
    ∀ (a : Addr) (u : Value) (st : Shared), K.In st.heap → BindsTo st fd ⟨[.ref a], [(f, u)]⟩ [("self", .ref a), (f, u)]
structure TxtE (K : PySem.W.Frag) (mg : Str → Option Value) (C1 C2 C3 CE : Addr) : Prop extends TxtC mg where
  repr : mg "repr" = none
  ValueError : mg "ValueError" = none
  g_TalkError : mg "TalkError" = some (.ref CE)
  e11 : PySem.W.kitOne K (.ref C1) (.ref C1) = some true
  e12 : PySem.W.kitOne K (.ref C1) (.ref C2) = some false
  e13 : PySem.W.kitOne K (.ref C1) (.ref C3) = some false
  e21 : PySem.W.kitOne K (.ref C2) (.ref C1) = some false
  e22 : PySem.W.kitOne K (.ref C2) (.ref C2) = some true
  e23 : PySem.W.kitOne K (.ref C2) (.ref C3) = some false
  e31 : PySem.W.kitOne K (.ref C3) (.ref C1) = some false
  e32 : PySem.W.kitOne K (.ref C3) (.ref C2) = some false
  e33 : PySem.W.kitOne K (.ref C3) (.ref C3) = some true
  t1 : PySem.W.kitOne K (.ref C1) (.ref CE) = some true
  t2 : PySem.W.kitOne K (.ref C2) (.ref CE) = some true
  t3 : PySem.W.kitOne K (.ref C3) (.ref CE) = some true
  v1 : PySem.W.kitOne K (.ref C1) (.type "ValueError") = some true
  v2 : PySem.W.kitOne K (.ref C2) (.type "ValueError") = some true
  v3 : PySem.W.kitOne K (.ref C3) (.type "ValueError") = some true
/-- a value that may be shown -/
structure Shows (K : PySem.W.Frag) (H : Hp) (v : V) (d : PyData) : Prop where
  ex : ∃ as : List Addr, Dq K H v d as ∧ (d.hasDict = true → ∀ b ∈ as, b ≠ sysModules ∨ ∃ kvs, H b = some (.dK kvs))
  sh : d.showable = true
  dp : d.depth ≤ 60
  sz : d.shown.length ≤ sizeLine
mutual
theorem Dq.same {K : PySem.W.Frag} {H H' : Hp} (s : Same H H') : ∀ {d : PyData} {v : V} {as : List Addr}, Dq K H v d as → Dq K H' v d as
  | _, _, _, .non => .non
  | _, _, _, .bl b => .bl b
  | _, _, _, .int i => .int i
  | _, _, _, .str x => .str x
  | _, _, _, .lst h a => .lst (s.seq h) (Dq.sameAll s a)
  | _, _, _, .tup h a => .tup (h.ext s) (Dq.sameAll s a)
  | _, _, _, .dct h => .dct (s _ _ h)
theorem Dq.sameAll {K : PySem.W.Frag} {H H' : Hp} (s : Same H H') : ∀ {ds : List PyData} {vs : List V} {as : List Addr}, DqAll K H vs ds as → DqAll K H' vs ds as
  | _, _, _, .nil => .nil
  | _, _, _, .cons h t => .cons (Dq.same s h) (Dq.sameAll s t)
end
theorem Shows.same {K : PySem.W.Frag} {H H' : Hp} {v : V} {d : PyData} (s : Same H H') (h : Shows K H v d) : Shows K H' v d := by
  obtain ⟨as, h1, h2⟩ := h.ex
  refine ⟨⟨as, h1.same s, fun e b hb => ?_⟩, h.sh, h.dp, h.sz⟩
  rcases h2 e b hb with z | ⟨kvs, z⟩
  · exact .inl z
  · exact .inr ⟨kvs, s _ _ z⟩
theorem call_reprDK {X : Cx} {K : PySem.W.Frag} (e : X.K = K) (hQ : Quiet X.A) (hu : X.A.units + 64 < cLine) : CallR X (.builtin "repr") (rRepr K) := e ▸ (call_reprD (X := X) hQ hu)
theorem made_x {H : Hp} {a d C : Addr} {f : Str} {v : V} (na : H a = none) (nd : upd H a (exo a C none) d = none) (ne : d ≠ a) : Same H (upd (upd (upd H a (exo a C none)) d (exd d [(f, v)])) a (exo a C (some d))) ∧ XAt (upd (upd (upd H a (exo a C none)) d (exd d [(f, v)])) a (exo a C (some d))) a C f v := by
  rw [upd_ne ne] at nd
  refine ⟨fun b o eb => ?_, ⟨d, upd_same, by rw [upd_ne ne]; exact upd_same⟩⟩
  rw [upd_ne (ne_of_none eb na), upd_ne (ne_of_none eb nd), upd_ne (ne_of_none eb na)]
  exact eb
def spEach (K : PySem.W.Frag) : Sp := fun vs H Q _ => ∃ (v : V) (d : PyData), vs = [v] ∧ Shows K H v d ∧ ∀ H', Same H H' → Q (.bl true) H'
section
variable {P : Program} {w : World} {K : PySem.W.Frag} {mg : Str → Option Value} {base : Heap}
theorem ok_each {f C1 C2 C3 CE : Addr} {fd : FuncData} (F : Fun K "_law_each_right" "_law_each_right" s_each f fd) (T : TxtE K mg C1 C2 C3 CE)
    (X1 : XK1 P w K mg base "BadTalk" "place" C1) (X2 : XK1 P w K mg base "BadDoing" "value" C2) (X3 : XK1 P w K mg base "BadNumber" "value" C3) : FnG P w K mg base CX0 3 f fd ["q"] (spEach K) := by
  obtain ⟨f1, fd1, i1, y1, G1, b1, k1⟩ := X1.ini
  obtain ⟨f2, fd2, i2, y2, G2, b2, k2⟩ := X2.ini
  obtain ⟨f3, fd3, i3, y3, G3, b3, k3⟩ := X3.ini
  refine okG F sc_each (fun vs H Q E h => ?_) (fun cdv A outer s H vs Q E hQ hr h => ?_)
  · obtain ⟨v, d, rfl, _⟩ := h
    rfl
  · obtain ⟨v, d, rfl, hd, q⟩ := h
    have hr2 : Room 2 _ := hr
    have hu : (A.deeper (envOfC "_law_each_right" (defScope s_each) s.heap.objs.size f cdv)).units + 64 < cLine := by
      have := hr.un
      omega
    refine ⟨_, (pss_cons (ps_set (i := 1) sc_each.nd rfl (Or.inl rfl) (pe_lst (pa_cons (pe_xv X1.cls.oex i1 y1 G1 hr2 b1 pass0 (by rfl) X1.gl (pa_cons (pv 0) pa_nil)) (pa_cons (pe_xv X2.cls.oex i2 y2 G2 hr2 b2 pass0 (by rfl) X2.gl (pa_cons (pv 0) pa_nil)) (pa_cons (pe_xv X3.cls.oex i3 y3 G3 hr2 b3 pass0 (by rfl) X3.gl (pa_cons (pv 0) pa_nil)) pa_nil))))) (pss_cons (ps_set (i := 2) sc_each.nd rfl (Or.inl rfl) (pe_lst (pa_cons (pe_xf (pe_ix ix_list (pv 1) pe_int (fun _ _ => rfl))) (pa_cons (pe_xf (pe_ix ix_list (pv 1) pe_int (fun _ _ => rfl))) (pa_cons (pe_xf (pe_ix ix_list (pv 1) pe_int (fun _ _ => rfl))) pa_nil))))) (pss_cons (ps_set (i := 2) sc_each.nd rfl (Or.inl rfl) (pe_op op_cat (pv 2) (pe_lst (pa_cons (pe_xf (pe_xk X1.cls.oex i1 y1 G1 hr2 k1 pass0 (by rfl) X1.gl (pk_cons (pv 0) pk_nil))) (pa_cons (pe_xf (pe_xk X2.cls.oex i2 y2 G2 hr2 k2 pass0 (by rfl) X2.gl (pk_cons (pv 0) pk_nil))) (pa_cons (pe_xf (pe_xk X3.cls.oex i3 y3 G3 hr2 k3 pass0 (by rfl) X3.gl (pk_cons (pv 0) pk_nil))) pa_nil)))))) (pss_cons (ps_if (pt_cmpR (op_neD hu) (pe_lc (own := [("one", 3)]) rfl sc_each.nd (pi_list (pv 2)) (blkOk_by (own := [("one", 3)]) (N := ["q", "pack", "told", "one", "at", "known", "k"]) (sc := defScope s_each) (by decide +kernel)) (fun _ _ _ _ _ => (pg_name (i := 3) sc_each.nd rfl (Or.inl rfl))) (fun _ _ _ _ _ => (pts_one (pt_cmpR op_ne (pe_callB (call_reprDK (K := K) rfl hQ hu) (by rfl) T.repr bb_repr (pa_cons (pv 3) pa_nil)) (pe_callB (call_reprDK (K := K) rfl hQ hu) (by rfl) T.repr bb_repr (pa_cons (pv 0) pa_nil)) (nomark _)))) (fun _ _ _ _ _ => (pv 3))) (pe_lst pa_nil) (nomark _)) (pss_one (ps_ret pe_bl)) pss_nil) (pss_cons (ps_for PassesOwn.never rfl (pi_enum (by rfl) T.enumerate (pa_cons (pv 1) pa_nil)) (pg_tup (by rfl) (pgs_cons (pg_name (i := 4) sc_each.nd rfl (Or.inr rfl)) (pgs_cons (pg_name (i := 3) sc_each.nd rfl (Or.inl rfl)) pgs_nil))) (pss_cons (ps_set (i := 5) sc_each.nd rfl (Or.inl rfl) (pe_lst (pa_cons (pe_callB call_isX (by rfl) T.isinstance bb_isinstance (pa_cons (pv 3) (pa_cons (pe_glob (v := .ref C1) rfl X1.gl rfl) pa_nil))) (pa_cons (pe_callB call_isX (by rfl) T.isinstance bb_isinstance (pa_cons (pv 3) (pa_cons (pe_glob (v := .ref C2) rfl X2.gl rfl) pa_nil))) (pa_cons (pe_callB call_isX (by rfl) T.isinstance bb_isinstance (pa_cons (pv 3) (pa_cons (pe_glob (v := .ref C3) rfl X3.gl rfl) pa_nil))) pa_nil))))) (pss_one (ps_if (PW.pt (pw_or (pt_cmpR (op_neD hu) (pv 5) (pe_lc (own := [("k", 6)]) (tt := tYes) rfl sc_each.nd (pi_range1 (by rfl) T.range (pa_cons pe_int pa_nil)) (blkOk_by (own := [("k", 6)]) (N := ["q", "pack", "told", "one", "at", "known", "k"]) (sc := defScope s_each) (by decide +kernel)) (fun _ _ _ _ _ => (pg_name (i := 6) sc_each.nd rfl (Or.inl rfl))) (fun _ _ _ _ _ => pts_nil) (fun _ _ _ _ _ => (pe_cmpR op_eq (pv 6) (pv 4) (nomark _)))) (nomark _)) (pw_or (pt_not (pt_val (pe_callB call_isX (by rfl) T.isinstance bb_isinstance (pa_cons (pv 3) (pa_cons (pe_glob (v := .ref CE) rfl T.g_TalkError rfl) pa_nil))))) (pw_or1 (pt_not (pt_val (pe_callB call_isX (by rfl) T.isinstance bb_isinstance (pa_cons (pv 3) (pa_cons (pe_bltn (v := .ty "ValueError") (by rfl) T.ValueError bt_VE rfl) pa_nil))))))))) (pss_one (ps_ret pe_bl)) pss_nil)))) (pss_one (ps_ret pe_bl))))))), ?_⟩
    -- pack
    refine ⟨_, rfl, (by show 1 ≤ 1000; decide), fun a1 n1 => ⟨a1, v, rfl, upd_same, fun d1 m1 e1 => ⟨rfl, ?_⟩⟩⟩
    obtain ⟨s1, x1⟩ := made_x (f := "place") (v := v) n1 m1 e1
    clear m1 e1
    revert s1 x1
    generalize upd (upd (upd H a1 (exo a1 C1 none)) d1 _) a1 _ = H1
    intro s1 x1
    refine ⟨_, rfl, (by show 1 ≤ 1000; decide), fun a2 n2 => ⟨a2, v, rfl, upd_same, fun d2 m2 e2 => ⟨rfl, ?_⟩⟩⟩
    obtain ⟨s2, x2⟩ := made_x (f := "value") (v := v) n2 m2 e2
    clear m2 e2
    revert s2 x2
    generalize upd (upd (upd H1 a2 (exo a2 C2 none)) d2 _) a2 _ = H2
    intro s2 x2
    refine ⟨_, rfl, (by show 1 ≤ 1000; decide), fun a3 n3 => ⟨a3, v, rfl, upd_same, fun d3 m3 e3 => ⟨rfl, ?_⟩⟩⟩
    obtain ⟨s3, x3⟩ := made_x (f := "value") (v := v) n3 m3 e3
    clear m3 e3
    revert s3 x3
    generalize upd (upd (upd H2 a3 (exo a3 C3 none)) d3 _) a3 _ = H3
    intro s3 x3
    refine ⟨by show 3 ≤ sizeLine; decide, fun p np => ?_⟩
    have s4 : Same H3 (upd H3 p (.lst [.ref a1, .ref a2, .ref a3])) := same_new np
    have hp : (upd H3 p (.lst [.ref a1, .ref a2, .ref a3])) p = some (.lst [.ref a1, .ref a2, .ref a3]) := upd_same
    have y1 := x1.same (s2.trans (s3.trans s4))
    have y2 := x2.same (s3.trans s4)
    have y3 := x3.same s4
    have d4 := hd.same (s1.trans (s2.trans (s3.trans s4)))
    have s04 := s1.trans (s2.trans (s3.trans s4))
    revert hp y1 y2 y3 d4 s04
    generalize upd H3 p (.lst [.ref a1, .ref a2, .ref a3]) = H4
    intro hp y1 y2 y3 d4 s04
    -- told = [pack[0].place, pack[1].value, pack[2].value]
    refine ⟨_, rfl, p, _, 0, .ref a1, rfl, rfl, .inl (.inl hp), rfl, a1, C1, v, rfl, X1.cls, X1.noF, y1, ?_⟩
    refine ⟨_, rfl, p, _, 1, .ref a2, rfl, rfl, .inl (.inl hp), rfl, a2, C2, v, rfl, X2.cls, X2.noF, y2, ?_⟩
    refine ⟨_, rfl, p, _, 2, .ref a3, rfl, rfl, .inl (.inl hp), rfl, a3, C3, v, rfl, X3.cls, X3.noF, y3, ?_⟩
    refine ⟨by show 3 ≤ sizeLine; decide, fun p2 np2 => ?_⟩
    have t1 : Same H4 (upd H4 p2 (.lst [v, v, v])) := same_new np2
    have h2 : (upd H4 p2 (.lst [v, v, v])) p2 = some (.lst [v, v, v]) := upd_same
    revert t1 h2
    generalize upd H4 p2 (.lst [v, v, v]) = H5
    intro t1 h2
    -- told = told + [..]
    refine ⟨_, rfl, ?_⟩
    refine ⟨_, rfl, fun b1 n1 => ⟨b1, v, rfl, upd_same, fun d1 m1 e1 => ⟨rfl, ?_⟩⟩⟩
    obtain ⟨g1, z1⟩ := made_x (f := "place") (v := v) n1 m1 e1
    clear m1 e1
    revert g1 z1
    generalize upd (upd (upd H5 b1 (exo b1 C1 none)) d1 _) b1 _ = G1
    intro g1 z1
    refine ⟨b1, C1, v, rfl, X1.cls, X1.noF, z1, ?_⟩
    refine ⟨_, rfl, fun b2 n2 => ⟨b2, v, rfl, upd_same, fun d2 m2 e2 => ⟨rfl, ?_⟩⟩⟩
    obtain ⟨g2, z2⟩ := made_x (f := "value") (v := v) n2 m2 e2
    clear m2 e2
    revert g2 z2
    generalize upd (upd (upd G1 b2 (exo b2 C2 none)) d2 _) b2 _ = G2
    intro g2 z2
    refine ⟨b2, C2, v, rfl, X2.cls, X2.noF, z2, ?_⟩
    refine ⟨_, rfl, fun b3 n3 => ⟨b3, v, rfl, upd_same, fun d3 m3 e3 => ⟨rfl, ?_⟩⟩⟩
    obtain ⟨g3, z3⟩ := made_x (f := "value") (v := v) n3 m3 e3
    clear m3 e3
    revert g3 z3
    generalize upd (upd (upd G2 b3 (exo b3 C3 none)) d3 _) b3 _ = G3
    intro g3 z3
    refine ⟨b3, C3, v, rfl, X3.cls, X3.noF, z3, ?_⟩
    have g := g1.trans (g2.trans g3)
    refine ⟨by show 3 ≤ sizeLine; decide, fun p3 np3 => ?_⟩
    have g4 : Same G3 (upd G3 p3 (.lst [v, v, v])) := same_new np3
    refine ⟨p2, p3, _, _, rfl, rfl, g4 _ _ (g _ _ h2), upd_same, by show 3 + 3 ≤ sizeLine; decide, fun p4 np4 => ?_⟩
    have g5 := g4.trans (same_new (o := .lst ([v, v, v] ++ [v, v, v])) np4)
    have h4 : (upd (upd G3 p3 (.lst [v, v, v])) p4 (.lst ([v, v, v] ++ [v, v, v]))) p4 = some (.lst [v, v, v, v, v, v]) := upd_same
    revert g5 h4
    generalize upd (upd G3 p3 (.lst [v, v, v])) p4 (.lst ([v, v, v] ++ [v, v, v])) = H6
    intro g5 h4
    have s6 : Same H4 H6 := t1.trans (g.trans g5)
    have hp6 := s6 _ _ hp
    have w1 := y1.same s6
    have w2 := y2.same s6
    have w3 := y3.same s6
    have d6 := d4.same s6
    have s06 := s04.trans s6
    -- if [one for one in told if repr(one) != repr(q)] != []
    have hall : ∀ (i : Nat) (x : V), [v, v, v, v, v, v][i]? = some x → x = v := fun i x e => by
      have hm := List.mem_of_getElem? e
      simpa using hm
    refine ⟨_, rfl, p4, rfl, ⟨_, .inl (.inl h4)⟩, fun D nD => lc_list (K := K) (a := p4) (xs := [v, v, v, v, v, v]) (fun i H7 => H7 D = some (.lst []) ∧ Same H6 H7) ⟨upd_same, same_new nD⟩ (fun i H7 _ ⟨_, sm⟩ => sm.seq (.inl (.inl h4))) ?_ ?_⟩
    · rintro i x H7 ex ⟨hD, sm⟩
      obtain rfl := hall i x ex
      have d7 := d6.same sm
      obtain ⟨as, q1, q2⟩ := d7.ex
      refine ⟨rfl, ?_⟩
      refine ⟨_, rfl, x, d, as, rfl, q1, d7.sh, q2, d7.dp, d7.sz, _, rfl, x, d, as, rfl, q1, d7.sh, q2, d7.dp, d7.sz, rfl, _, rfl, ?_⟩
      rw [decide_eq_true rfl]
      exact ⟨hD, sm⟩
    rintro H7 ⟨hD, sm7⟩
    refine ⟨Nat.zero_le _, fun p5 np5 => ?_⟩
    have s7 : Same H7 (upd H7 p5 (.lst [])) := same_new np5
    refine ⟨.list [], .list [], .lst (.inl (.inl (s7 _ _ hD))) .nil, .lst (.inl (.inl upd_same)) .nil, rfl, rfl, _, rfl, ?_⟩
    have s67 := sm7.trans s7
    have hp7 := s67 _ _ hp6
    have w1 := w1.same s67
    have w2 := w2.same s67
    have w3 := w3.same s67
    have s07 := s06.trans s67
    revert hp7 w1 w2 w3 s07
    generalize upd H7 p5 (.lst []) = H8
    intro hp7 w1 w2 w3 s07
    clear s67 sm7 s7
    -- for at, one in enumerate(pack)
    refine ⟨_, rfl, p, _, rfl, .inl (.inl hp7), for_it walk_enum (fun i σ H9 => ∃ v3 v4 v5 v6 : Option V, σ = [some v, some (.ref p), some (.ref p4), v3, v4, v5, v6] ∧ Same H8 H9) ⟨_, _, _, _, rfl, Same.refl _⟩ (fun i σ H9 _ ⟨_, _, _, _, _, sm⟩ => sm.seq (.inl (.inl hp7))) ?_ ?_⟩
    · rintro i x σ H9 H10 hi ⟨v3, v4, v5, v6, rfl, sm⟩ ⟨U, u1, u2, rfl, nU, rfl, e1, e2⟩
      obtain rfl : u1 = .int (i : Int) := (Option.some.inj e1).symm
      have hi3 : i < 3 := hi
      have item : ∃ (a C : Addr) (f : Str), u2 = .ref a ∧ XCls K C ∧ XAt H9 a C f v ∧ PySem.W.kitOne K (.ref C) (.ref C1) = some (decide (V.int (0 + ((0 : Nat) : Int)) = V.int (i : Int))) ∧ PySem.W.kitOne K (.ref C) (.ref C2) = some (decide (V.int (0 + ((1 : Nat) : Int)) = V.int (i : Int))) ∧
          PySem.W.kitOne K (.ref C) (.ref C3) = some (decide (V.int (0 + ((2 : Nat) : Int)) = V.int (i : Int))) ∧ PySem.W.kitOne K (.ref C) (.ref CE) = some true ∧ PySem.W.kitOne K (.ref C) (.type "ValueError") = some true := by
        match i, hi3 with
        | 0, _ => exact ⟨a1, C1, _, (Option.some.inj e2).symm, X1.cls, w1.same sm, T.e11, T.e12, T.e13, T.t1, T.v1⟩
        | 1, _ => exact ⟨a2, C2, _, (Option.some.inj e2).symm, X2.cls, w2.same sm, T.e21, T.e22, T.e23, T.t2, T.v2⟩
        | 2, _ => exact ⟨a3, C3, _, (Option.some.inj e2).symm, X3.cls, w3.same sm, T.e31, T.e32, T.e33, T.t3, T.v3⟩
      obtain ⟨a, C, f', rfl, XC, xa, c1, c2, c3, ce, cv⟩ := item
      have sU : Same H9 (upd H9 U (.tup [.int (i : Int), .ref a])) := same_new nU
      have xa1 := xa.same sU
      refine ⟨U, _, rfl, .inl (.inl upd_same), rfl, _, _, rfl, _, _, rfl, rfl, ?_⟩
      revert sU xa1
      generalize upd H9 U (.tup [.int (i : Int), .ref a]) = J1
      intro sU xa1
      obtain ⟨dd, xa3, xa4⟩ := xa1.ex
      have xd : ∀ d', some dd = some d' → J1 d' = some (exd d' [(f', v)]) := fun d' e => by
        cases e
        exact xa4
      -- known = [..]
      refine ⟨_, rfl, a, C, some dd, _, _, _, _, rfl, .own C1, XC, xa3, xd, c1, ?_⟩
      refine ⟨_, rfl, a, C, some dd, _, _, _, _, rfl, .own C2, XC, xa3, xd, c2, ?_⟩
      refine ⟨_, rfl, a, C, some dd, _, _, _, _, rfl, .own C3, XC, xa3, xd, c3, ?_⟩
      refine ⟨by show 3 ≤ sizeLine; decide, fun p6 np6 => ?_⟩
      have hk := @upd_same J1 p6 (.lst [.bl (decide (V.int (0 + ((0 : Nat) : Int)) = V.int (i : Int))), .bl (decide (V.int (0 + ((1 : Nat) : Int)) = V.int (i : Int))), .bl (decide (V.int (0 + ((2 : Nat) : Int)) = V.int (i : Int)))])
      have s1k := @same_new J1 p6 (.lst [.bl (decide (V.int (0 + ((0 : Nat) : Int)) = V.int (i : Int))), .bl (decide (V.int (0 + ((1 : Nat) : Int)) = V.int (i : Int))), .bl (decide (V.int (0 + ((2 : Nat) : Int)) = V.int (i : Int)))]) np6
      revert hk s1k
      generalize upd J1 p6 _ = J2
      intro hk s1k
      have xa2 := xa1.same s1k
      -- if known != [k == at for k in range(3)] or ..
      refine ⟨_, rfl, 3, rfl, by decide, by decide, fun D2 nD2 => lc_range (lo := 0) (n := 3) (fun j H2 => H2 D2 = some (.lst ((List.range j).map fun j => V.bl (decide (V.int (0 + ((j : Nat) : Int)) = V.int (i : Int))))) ∧ Same J2 H2) ⟨upd_same, same_new nD2⟩ ?_ ?_⟩
      · rintro j H2 hj ⟨hD2, sm2⟩
        refine ⟨rfl, ?_⟩
        refine ⟨_, rfl, _, rfl, rfl, _, hD2, ?_, ?_, fun b o e => ?_⟩
        · rw [List.length_map, List.length_range]
          exact small1000 (by omega)
        · rw [upd_same, List.range_succ, List.map_append]
          rfl
        · rw [upd_ne (ne_of_none e nD2)]
          exact sm2 b o e
      rintro H2 ⟨hD2, sm2⟩
      have hk2 := sm2 _ _ hk
      refine ⟨.list [.bool _, .bool _, .bool _], .list [.bool _, .bool _, .bool _], .lst (.inl (.inl hk2)) (.cons (.bl _) (.cons (.bl _) (.cons (.bl _) .nil))), .lst (.inl (.inl hD2)) (.cons (.bl _) (.cons (.bl _) (.cons (.bl _) .nil))), rfl, rfl, ?_⟩
      have ev : ∀ x y z : Bool, (!PyData.eqv (.list [.bool x, .bool y, .bool z]) (.list [.bool x, .bool y, .bool z])) = false := fun x y z => by simp [PyData.eqv, PyData.eqvAll]
      refine ⟨false, congrArg V.bl (ev _ _ _), ?_⟩
      have s2 := s1k.trans sm2
      have xb : ∀ d', some dd = some d' → H2 d' = some (exd d' [(f', v)]) := fun d' e => s2 _ _ (xd d' e)
      refine ⟨_, rfl, a, C, some dd, _, _, _, _, rfl, .own CE, XC, s2 _ _ xa3, xb, ce, true, rfl, ?_⟩
      refine ⟨_, rfl, a, C, some dd, _, _, _, _, rfl, .ty "ValueError", XC, s2 _ _ xa3, xb, cv, true, rfl, ?_⟩
      exact ⟨_, _, _, _, rfl, sm.trans (sU.trans s2)⟩
    · rintro σ H9 ⟨v3, v4, v5, v6, rfl, sm⟩
      exact q H9 (s07.trans sm)
end
end Up

namespace Up
open PySem PySem.Spec PyProof.Rows L2
/-! ### the small talks -/
def gs0 : List (List Dg) := [[]]
def gs1 : List (List Dg) := [[], []]
def gs2 : List (List Dg) := [[⟨true, 0⟩], [⟨false, 0⟩]]
def ck0 : Dg → List Int := fun _ => [0]
def ck1 : Dg → List Int := fun _ => [0, 0]
def ck2 : Dg → List Int := fun g => if g.s then [1, 0] else [1, 1]
theorem rk_none {gss : List (List Dg)} {ck : Dg → List Int} (h : ∀ gs ∈ gss, gs = []) (i : Nat) (gs : List Dg) (e : gss[i]? = some gs) : RowCk gss.length ck i gs := fun n g eg => by
  rw [h gs (List.mem_of_getElem? e)] at eg
  cases eg
theorem up_none {gss : List (List Dg)} (h : ∀ gs ∈ gss, gs.length ≤ 1) (i : Nat) (gs : List Dg) (e : gss[i]? = some gs) (rk : Dg → Nat) (n : Nat) (g g' : Dg) (_ : gs[n]? = some g) (e2 : gs[n + 1]? = some g') : rk g < rk g' := by
  have h1 := h gs (List.mem_of_getElem? e)
  have h2 := (List.getElem?_eq_some_iff.mp e2).1
  omega
theorem slim0 : ∀ gs ∈ gs0, gs.length ≤ 1 := by decide
theorem slim1 : ∀ gs ∈ gs1, gs.length ≤ 1 := by decide
theorem slim2 : ∀ gs ∈ gs2, gs.length ≤ 1 := by decide
theorem valid0 : Valid gs0 0 (fun _ => 0) (fun _ => 1) ck0 where
  h1 := by decide
  h6 := by decide
  lt := fun t ht => by cases ht
  m12 := by decide
  len := by decide
  once := List.nodup_nil
  hd := ⟨fun l hl => absurd hl (Nat.not_lt_zero _), fun l hl => absurd hl (Nat.not_lt_zero _), fun l hl => absurd hl (Nat.not_lt_zero _)⟩
  ck := rk_none (by decide)
  ckl := fun _ => rfl
  rk := ⟨fun _ => 0, fun i gs e => up_none slim0 i gs e _, fun l hl => absurd hl (Nat.not_lt_zero _)⟩
theorem valid1 : Valid gs1 0 (fun _ => 0) (fun _ => 1) ck1 where
  h1 := by decide
  h6 := by decide
  lt := fun t ht => by cases ht
  m12 := by decide
  len := by decide
  once := List.nodup_nil
  hd := ⟨fun l hl => absurd hl (Nat.not_lt_zero _), fun l hl => absurd hl (Nat.not_lt_zero _), fun l hl => absurd hl (Nat.not_lt_zero _)⟩
  ck := rk_none (by decide)
  ckl := fun _ => rfl
  rk := ⟨fun _ => 0, fun i gs e => up_none slim1 i gs e _, fun l hl => absurd hl (Nat.not_lt_zero _)⟩
theorem valid2 : Valid gs2 1 (fun _ => 0) (fun _ => 1) ck2 where
  h1 := by decide
  h6 := by decide
  lt := fun t ht => by
    have h : plAll 0 gs2 = [(⟨true, 0⟩, 0, 0), (⟨false, 0⟩, 1, 0)] := rfl
    rw [h] at ht
    rcases List.mem_cons.mp ht with c | c
    · subst c
      decide
    · rcases List.mem_cons.mp c with c | c
      · subst c
        decide
      · cases c
  m12 := by decide
  len := by decide
  once := by
    show ((plAll 0 gs2).map (·.1)).Nodup
    decide
  hd := ⟨fun l hl => ⟨0, by
      have e : l = 0 := by omega
      subst e
      exact List.mem_cons_self ..⟩, fun l hl => ⟨0, by
      have e : l = 0 := by omega
      subst e
      exact List.mem_cons_of_mem _ (List.mem_cons_self ..)⟩, fun l _ => by decide⟩
  ck := fun h gs e n g eg => by
    match h, e with
    | 0, e =>
      have e1 : gs = [⟨true, 0⟩] := (Option.some.inj e).symm
      subst e1
      match n, eg with
      | 0, eg =>
        have e2 : g = ⟨true, 0⟩ := (Option.some.inj eg).symm
        subst e2
        decide
    | 1, e =>
      have e1 : gs = [⟨false, 0⟩] := (Option.some.inj e).symm
      subst e1
      match n, eg with
      | 0, eg =>
        have e2 : g = ⟨false, 0⟩ := (Option.some.inj eg).symm
        subst e2
        decide
  ckl := fun g => by
    obtain ⟨s, l⟩ := g
    cases s <;> rfl
  rk := ⟨fun g => if g.s then 0 else 1, fun i gs e => up_none slim2 i gs e _, fun l _ => by show (0 : Nat) < 1; decide⟩
/-- any of the small talks -/
structure SmallAt (H : Hp) (a : Addr) (gss : List (List Dg)) : Prop where
  rows : RowsG H a gss
  slim : ∀ gs ∈ gss, gs.length ≤ 1
  val : ∃ (many : Nat) (S G : Nat → Nat) (Ck : Dg → List Int), Valid gss many S G Ck
  lst : ∃ xs, H a = some (.lst xs)
theorem SmallAt.same {H H' : Hp} {a : Addr} {gss : List (List Dg)} (s : Same H H') (h : SmallAt H a gss) : SmallAt H' a gss :=
  ⟨h.rows.same s, h.slim, h.val, let ⟨xs, e⟩ := h.lst; ⟨xs, s _ _ e⟩⟩
theorem small0 {H : Hp} {a a1 : Addr} (h1 : H a1 = some (.lst [])) (h : H a = some (.lst [.ref a1])) : SmallAt H a gs0 := by
  refine ⟨⟨[a1], .inl h, rfl, fun i t gs e1 e2 => ?_⟩, slim0, ⟨_, _, _, _, valid0⟩, _, h⟩
  match i, e1, e2 with
  | 0, e1, e2 =>
    cases e1
    cases e2
    exact ⟨[], .inl h1, rfl, fun j q g e => by cases e⟩
theorem small1 {H : Hp} {a a1 a2 : Addr} (h1 : H a1 = some (.lst [])) (h2 : H a2 = some (.lst [])) (h : H a = some (.lst [.ref a1, .ref a2])) : SmallAt H a gs1 := by
  refine ⟨⟨[a1, a2], .inl h, rfl, fun i t gs e1 e2 => ?_⟩, slim1, ⟨_, _, _, _, valid1⟩, _, h⟩
  match i, e1, e2 with
  | 0, e1, e2 =>
    cases e1
    cases e2
    exact ⟨[], .inl h1, rfl, fun j q g e => by cases e⟩
  | 1, e1, e2 =>
    cases e1
    cases e2
    exact ⟨[], .inl h2, rfl, fun j q g e => by cases e⟩
theorem small2 {H : Hp} {a a1 a2 t1 t2 : Addr} (k1 : H t1 = some (.tup [.str "send", .int 0])) (k2 : H t2 = some (.tup [.str "get", .int 0])) (h1 : H a1 = some (.lst [.ref t1])) (h2 : H a2 = some (.lst [.ref t2])) (h : H a = some (.lst [.ref a1, .ref a2])) : SmallAt H a gs2 := by
  refine ⟨⟨[a1, a2], .inl h, rfl, fun i t gs e1 e2 => ?_⟩, slim2, ⟨_, _, _, _, valid2⟩, _, h⟩
  match i, e1, e2 with
  | 0, e1, e2 =>
    cases e1
    cases e2
    refine ⟨[t1], .inl h1, rfl, fun j q g e e' => ?_⟩
    match j, e, e' with
    | 0, e, e' =>
      cases e
      cases e'
      exact k1
  | 1, e1, e2 =>
    cases e1
    cases e2
    refine ⟨[t2], .inl h2, rfl, fun j q g e e' => ?_⟩
    match j, e, e' with
    | 0, e, e' =>
      cases e
      cases e'
      exact k2
end Up

namespace Up
open PySem PySem.Spec PyProof.Rows L2
theorem FnOk.any {P : Program} {w : World} {K : PySem.W.Frag} {mg : Str → Option Value} {base : Heap} {CX : CXT} {k : Nat} {f : Addr} {fd : FuncData} {ps : List Str} {α : Type} {sp : α → Sp} (F : ∀ a, FnOk P w K mg base CX k f fd ps (sp a)) :
    FnOk P w K mg base CX k f fd ps fun vs H Q E => ∃ a, sp a vs H Q E :=
  ⟨fun vs H Q E ⟨a, h⟩ => (F a).len vs H Q E h, fun A outer s H ar us vs Q E hr e0 hb rv ⟨a, h⟩ => (F a).run A outer s H ar us vs Q E hr e0 hb rv h⟩
theorem MAt.ne {H : Hp} {m g : Addr} {b : Nat} (M : MAt H m g b) {p : Addr} (n : H p = none) : p ≠ m ∧ p ≠ g := ⟨fun c => M.m_some (c ▸ n), fun c => M.g_some (c ▸ n)⟩
/-- all but m and g -/
def hide (m g : Addr) (H : Hp) : Hp := fun b => if b = m ∨ b = g then none else H b
theorem hide_at {m g b : Addr} {H : Hp} {o : HO} (h : H b = some o) (n : b ≠ m ∧ b ≠ g) : hide m g H b = some o := by
  unfold hide
  rw [if_neg (fun c => c.elim n.1 n.2)]
  exact h
theorem hide_of {m g b : Addr} {H : Hp} {o : HO} (h : hide m g H b = some o) : (b ≠ m ∧ b ≠ g) ∧ H b = some o := by
  unfold hide at h
  by_cases c : b = m ∨ b = g
  · rw [if_pos c] at h
    cases h
  · rw [if_neg c] at h
    exact ⟨⟨fun z => c (.inl z), fun z => c (.inr z)⟩, h⟩
theorem hide_same {m g : Addr} {H : Hp} : Same (hide m g H) H := fun b o e => (hide_of e).2
theorem Same.hide {m g : Addr} {H H' : Hp} (s : Same H H') : Same (hide m g H) (hide m g H') := fun b o e => hide_at (s _ _ (hide_of e).2) (hide_of e).1
theorem But.hide {m g : Addr} {H H' : Hp} (B : But m g H H') : Same (hide m g H) (hide m g H') := fun b o e => hide_at (B _ _ (hide_of e).2 (hide_of e).1.1 (hide_of e).1.2) (hide_of e).1
theorem MAt.tup {H : Hp} {m g : Addr} {b : Nat} (M : MAt H m g b) {p : Addr} {xs : List V} (h : H p = some (.tup xs)) : p ≠ m ∧ p ≠ g := by
  obtain ⟨c, cs, gs, n, h1, h2, h3, h4, _⟩ := M.ex
  exact ⟨ne_of h h1 (by intro z; cases z), ne_of h h4 (by intro z; cases z)⟩
theorem MAt.ins {H : Hp} {m g : Addr} {b : Nat} (M : MAt H m g b) {p C d : Addr} {fs : List (Str × V)} (h : H p = some (.ins C d fs)) : p ≠ m ∧ p ≠ g := by
  obtain ⟨c, cs, gs, n, h1, h2, h3, h4, _⟩ := M.ex
  exact ⟨ne_of h h1 (by intro z; cases z), ne_of h h4 (by intro z; cases z)⟩
end Up

namespace Up
open PySem PySem.Spec PyProof.Rows L2
/-! ### law -/
abbrev s_law : Stmt := (topS 29)
theorem sc_law : FnScope ["script", "m", "again", "rows", "here", "odd"] ["script"] (defScope s_law) := ⟨rfl, rfl, rfl, by decide +kernel, rfl, by decide +kernel, by decide +kernel⟩
def oddT : List String := ["NoneType", "int", "str", "list", "tuple", "dict"]
/-- what of the text the class Talk has -/
structure TalkK (K : PySem.W.Frag) (C fE : Addr) : Prop extends IsTalk K C where
  hs : PySem.W.findIn K (.ref C) "__eq__" = some (some (.ref fE))
  hf : PySem.W.isFn K (.ref fE) = true
  hne : PySem.W.findIn K (.ref C) "__ne__" = some (some (.builtin "object.__ne__"))
  kit : ∀ T ∈ oddT, PySem.W.kitOne K (.type T) (.ref C) = some false
  nf : ∀ T ∈ oddT, PySem.W.notFirst K C (.type T) = true
  dc : ∀ T ∈ oddT, Decl K C T
/-- a value that is no talk -/
inductive Odd (H : Hp) : V → Prop where
  | non : Odd H .non
  | int (i : Int) : Odd H (.int i)
  | str (x : Str) : Odd H (.str x)
  | lst {a : Addr} {xs : List V} (h : H a = some (.lst xs)) : Odd H (.ref a)
  | tup {a : Addr} {xs : List V} (h : H a = some (.tup xs)) : Odd H (.ref a)
  | dct {a : Addr} {kvs : List (Key × V)} (h : H a = some (.dK kvs)) : Odd H (.ref a)
theorem Odd.same {H H' : Hp} {y : V} (s : Same H H') (o : Odd H y) : Odd H' y := by
  cases o with
  | non => exact .non
  | int i => exact .int i
  | str x => exact .str x
  | lst h => exact .lst (s _ _ h)
  | tup h => exact .tup (s _ _ h)
  | dct h => exact .dct (s _ _ h)
theorem Odd.ex {K : PySem.W.Frag} {H : Hp} {y : V} (o : Odd H y) : ∃ T ∈ oddT, TyB K H y T ∧ TyX K H y (.type T) := by
  cases o with
  | non => exact ⟨_, by decide, .non, .base .non⟩
  | int i => exact ⟨_, by decide, .int i, .base (.int i)⟩
  | str x => exact ⟨_, by decide, .str x, .base (.str x)⟩
  | lst h => exact ⟨_, by decide, .lst (.inl (.inl h)), .base (.lst h)⟩
  | tup h => exact ⟨_, by decide, .tup (.inl (.inl h)), .base (.tup h)⟩
  | dct h => exact ⟨_, by decide, .dK h, .base (.dK h)⟩
theorem RowsD.hide {H : Hp} {m g : Addr} {b : Nat} (M : MAt H m g b) {p : Addr} {gss : List (List Dg)} (h : RowsD H p gss) : RowsD (hide m g H) p gss := by
  obtain ⟨ts, h1, h2, h3⟩ := h.ex
  refine ⟨ts, hide_at h1 (M.tup h1), h2, fun i t gs e1 e2 => ?_⟩
  obtain ⟨qs, k1, k2, k3⟩ := h3 i t gs e1 e2
  exact ⟨qs, hide_at k1 (M.tup k1), k2, fun j q g e3 e4 => hide_at (k3 j q g e3 e4) (M.tup (k3 j q g e3 e4))⟩
theorem RowsOf.hide {H : Hp} {m g : Addr} {b : Nat} (M : MAt H m g b) {x C : Addr} {gss : List (List Dg)} (h : RowsOf H x C gss) : RowsOf (hide m g H) x C gss := by
  obtain ⟨dx, r, fs, h1, h2, h3⟩ := h.ex
  exact ⟨dx, r, fs, hide_at h1 (M.ins h1), h2, h3.hide M⟩
structure TxtL (K : PySem.W.Frag) (mg : Str → Option Value) (fB fD fE C : Addr) : Prop extends TxtC mg where
  beg : mg "_law_begun" = some (.ref fB)
  drw : mg "_law_draw" = some (.ref fD)
  each : mg "_law_each_right" = some (.ref fE)
  g_Talk : mg "Talk" = some (.ref C)
def spLaw (K : PySem.W.Frag) : Sp := fun vs H Q _ => ∃ (a : Addr) (ns : List Int), vs = [.ref a] ∧ SqL K H a (iL ns) ∧ ns.length ≤ 63 ∧ ∀ H', Q (.bl true) H'
/-- the values that exceptions are made of -/
theorem shows_all {K : PySem.W.Frag} {H : Hp} {p1 p2 p3 : Addr} (h1 : H p1 = some (.tup [.int 1, .int 2])) (h2 : H p2 = some (.lst [.int 3])) (h3 : H p3 = some (.dK [])) {d : Int} (d0 : 0 ≤ d) (d8 : d < 8) :
    ∃ (v : V) (x : PyData), atI [.non, .int 0, .int 7, .ref p1, .str "x", .ref p2, .ref p3, .int (10 ^ (40 : Int).toNat)] d = some v ∧ Shows K H v x := by
  have c : d = 0 ∨ d = 1 ∨ d = 2 ∨ d = 3 ∨ d = 4 ∨ d = 5 ∨ d = 6 ∨ d = 7 := by omega
  rcases c with rfl | rfl | rfl | rfl | rfl | rfl | rfl | rfl
  · exact ⟨_, .none, rfl, ⟨_, .non, fun e => nomatch e⟩, by decide +kernel, by decide +kernel, by decide +kernel⟩
  · exact ⟨_, .int 0, rfl, ⟨_, .int 0, fun e => nomatch e⟩, by decide +kernel, by decide +kernel, by decide +kernel⟩
  · exact ⟨_, .int 7, rfl, ⟨_, .int 7, fun e => nomatch e⟩, by decide +kernel, by decide +kernel, by decide +kernel⟩
  · exact ⟨_, .tuple [.int 1, .int 2], rfl, ⟨_, .tup (.inl (.inl h1)) (.cons (.int 1) (.cons (.int 2) .nil)), fun e => absurd e (by decide +kernel)⟩, by decide +kernel, by decide +kernel, by decide +kernel⟩
  · exact ⟨_, .str "x", rfl, ⟨_, .str "x", fun e => nomatch e⟩, by decide +kernel, by decide +kernel, by decide +kernel⟩
  · exact ⟨_, .list [.int 3], rfl, ⟨_, .lst (.inl (.inl h2)) (.cons (.int 3) .nil), fun e => absurd e (by decide +kernel)⟩, by decide +kernel, by decide +kernel, by decide +kernel⟩
  · refine ⟨_, .dict [], rfl, ⟨_, .dct h3, fun e b hb => ?_⟩, by decide +kernel, by decide +kernel, by decide +kernel⟩
    rcases List.mem_cons.mp hb with z | z
    · subst z
      exact .inr ⟨_, h3⟩
    · cases z
  · exact ⟨_, .int (10 ^ (40 : Int).toNat), rfl, ⟨_, .int _, fun e => nomatch e⟩, by decide +kernel, by decide +kernel, by decide +kernel⟩
section
variable {P : Program} {w : World} {K : PySem.W.Frag} {mg : Str → Option Value} {base : Heap}
theorem ok_law {f fB fD fE C fI fQ : Addr} {fd fdB fdD fdE fdI : FuncData} (F : Fun K "law" "law" s_law f fd) (T : TxtL K mg fB fD fE C)
    (FB : Fun K "_law_begun" "_law_begun" sBeg fB fdB) (bB : Binds K fdB ["script"] []) (GB : FnOk P w K mg base CX0 2 fB fdB ["script"] (spBeg K))
    (FD : Fun K "_law_draw" "_law_draw" sDrw fD fdD) (bD : Binds K fdD ["m", "limit"] []) (GD : FnOk P w K mg base CX0 2 fD fdD ["m", "limit"] spDrw)
    (FE : Fun K "_law_each_right" "_law_each_right" s_each fE fdE) (bE : Binds K fdE ["q"] []) (GE : FnG P w K mg base CX0 3 fE fdE ["q"] (spEach K))
    (MT : Mk K C fI) (bT : Binds K fdI ["self", "rows"] []) (GT : ∀ Ck, FnOk P w K mg base CX0 5 fI fdI ["self", "rows"] (spTInit C Sl0 Ck)) (TK : TalkK K C fQ) (GQ : FnR P w K mg base CX0 1 fQ (spTEq K C)) (cl : Cls K C) (nR : NoAttr K C "rows") :
    FnG P w K mg base CX0 7 f fd ["script"] (spLaw K) := by
  have GT2 := FnOk.any GT
  refine okG F sc_law (fun vs H Q E h => ?_) (fun cdv A outer s H vs Q E hQ hr h => ?_)
  · obtain ⟨a, ns, rfl, _⟩ := h
    rfl
  · obtain ⟨a, ns, rfl, hS, hlen, q⟩ := h
    have hr1 : Room 1 _ := hr.mono (by decide)
    have hrn : Room (1 + 1) _ := hr.mono (by decide)
    have hr2 : Room 2 _ := hr.mono (by decide)
    have hr3 : Room 3 _ := hr.mono (by decide)
    have hrT : Room (5 + 1) _ := hr
    have hu : (A.deeper (envOfC "law" (defScope s_law) s.heap.objs.size f cdv)).units + 64 < cLine := by
      have := hr.un
      omega
    refine ⟨_, (pss_cons (ps_set (i := 1) sc_law.nd rfl (Or.inl rfl) (pe_call GB hr2 (by rfl) T.beg FB.kp bB .nil pass0 (pa_cons (pv 0) pa_nil))) (pss_cons (ps_for PassesOwn.never rfl (pi_range1 (by rfl) T.range (pa_cons pe_int pa_nil)) (pg_name (i := 2) sc_law.nd rfl (Or.inl rfl)) (pss_one (ps_if (pt_not (pt_val (pe_callG hQ GE hr3 (by rfl) T.each FE.kp bE .nil pass0 (pa_cons (pe_ix ix_list (pe_lst (pa_cons pe_non (pa_cons pe_int (pa_cons pe_int (pa_cons (pe_tup (pa_cons pe_int (pa_cons pe_int pa_nil))) (pa_cons pe_str (pa_cons (pe_lst (pa_cons pe_int pa_nil)) (pa_cons pe_dnewK (pa_cons (pe_op op_pow pe_int pe_int) pa_nil))))))))) (pe_call GD hr2 (by rfl) T.drw FD.kp bD .nil pass0 (pa_cons (pv 1) (pa_cons pe_int pa_nil))) (fun _ _ => rfl)) pa_nil)))) (pss_one (ps_ret pe_bl)) pss_nil))) (pss_cons (ps_set (i := 3) sc_law.nd rfl (Or.inl rfl) (pe_ix ix_list (pe_lst (pa_cons (pe_lst (pa_cons (pe_lst pa_nil) pa_nil)) (pa_cons (pe_lst (pa_cons (pe_lst pa_nil) (pa_cons (pe_lst pa_nil) pa_nil))) (pa_cons (pe_lst (pa_cons (pe_lst (pa_cons (pe_tup (pa_cons pe_str (pa_cons pe_int pa_nil))) pa_nil)) (pa_cons (pe_lst (pa_cons (pe_tup (pa_cons pe_str (pa_cons pe_int pa_nil))) pa_nil)) pa_nil))) pa_nil)))) (pe_call GD hr2 (by rfl) T.drw FD.kp bD .nil pass0 (pa_cons (pv 1) (pa_cons pe_int pa_nil))) (fun _ _ => rfl))) (pss_cons (ps_set (i := 4) sc_law.nd rfl (Or.inl rfl) (pe_make MT GT2 hrT (by rfl) T.g_Talk bT .nil pass0 (pa_cons (pv 3) pa_nil))) (pss_cons (ps_set (i := 5) sc_law.nd rfl (Or.inl rfl) (pe_ix ix_list (pe_lst (pa_cons pe_non (pa_cons (pv 3) (pa_cons (pe_callTy call_tuple_of (by rfl) T.tuple bt_tuple (pa_cons (pv 3) pa_nil)) (pa_cons pe_int (pa_cons pe_str (pa_cons pe_dnewK (pa_cons (pe_fld (pv 4) rfl) (pa_cons pe_int pa_nil))))))))) (pe_call GD hr2 (by rfl) T.drw FD.kp bD .nil pass0 (pa_cons (pv 1) (pa_cons pe_int pa_nil))) (fun _ _ => rfl))) (pss_one (ps_ret (pe_cmpR (op_eqD hu) (pe_lst (pa_cons (pe_cmpR (op_eqO TK.hs TK.hf GQ hr1 pass0) (pv 4) (pv 5) (nomark _)) (pa_cons (pe_cmpR (op_eqR TK.hs TK.hf GQ hr1 pass0) (pv 5) (pv 4) (nomark _)) (pa_cons (pe_cmpR (op_neO TK.hs TK.hf TK.hne TK.hm GQ hrn pass0) (pv 4) (pe_make MT GT2 hrT (by rfl) T.g_Talk bT .nil pass0 (pa_cons (pv 3) pa_nil)) (nomark _)) pa_nil)))) (pe_op op_rep (pe_lst (pa_cons pe_bl pa_nil)) pe_int) (nomark _))))))))), ?_⟩
    refine ⟨_, rfl, a, ns, rfl, hS, hlen, fun H1 m g s1 M => ?_⟩
    refine ⟨3, rfl, by decide, by decide, for_range (lo := 0) (n := 3) (fun i σ H2 => ∃ v2 : Option V, σ = [some (.ref a), some (.ref m), v2, none, none, none] ∧ MAt H2 m g i) ⟨_, rfl, M⟩ ?_ ?_⟩
    · rintro i σ H2 hi ⟨v2, rfl, M2⟩
      have i3 : i < 3 := hi
      refine ⟨by show 2 ≤ sizeLine; decide, fun p1 n1 => ⟨by show 1 ≤ sizeLine; decide, fun p2 n2 => fun p3 n3 => ⟨_, _, rfl, rfl, ⟨by decide, by decide, by decide⟩, by show 8 ≤ sizeLine; decide, fun p4 n4 => ?_⟩⟩⟩
      have S1 := @same_new H2 p1 (.tup [.int 1, .int 2]) n1
      have S2 := @same_new _ p2 (.lst [.int 3]) n2
      have S3 := @same_new _ p3 (.dK []) n3
      have S4 := @same_new _ p4 (.lst [.non, .int 0, .int 7, .ref p1, .str "x", .ref p2, .ref p3, .int (10 ^ (40 : Int).toNat)]) n4
      have M3 := M2.same S1
      have M4 := M3.same S2
      have M5 := M4.same S3
      have M6 := M5.same S4
      have e1 := S4 _ _ (S3 _ _ (S2 _ _ (@upd_same H2 p1 (.tup [.int 1, .int 2]))))
      have e2 := S4 _ _ (S3 _ _ (@upd_same (upd H2 p1 (.tup [.int 1, .int 2])) p2 (.lst [.int 3])))
      have e3 := S4 _ _ (@upd_same (upd (upd H2 p1 (.tup [.int 1, .int 2])) p2 (.lst [.int 3])) p3 (.dK []))
      have e4 := @upd_same (upd (upd (upd H2 p1 (.tup [.int 1, .int 2])) p2 (.lst [.int 3])) p3 (.dK [])) p4 (.lst [.non, .int 0, .int 7, .ref p1, .str "x", .ref p2, .ref p3, .int (10 ^ (40 : Int).toNat)])
      have f1 := M2.ne n1
      have f2 := M3.ne n2
      have f3 := M4.ne n3
      have f4 := M5.ne n4
      refine ⟨_, rfl, m, g, 8, i, rfl, by decide, by decide, by omega, M6, fun d H3 d0 d8 M7 B => ?_⟩
      obtain ⟨v, x, hv, hx⟩ := shows_all (K := K) (B _ _ e1 f1.1 f1.2) (B _ _ e2 f2.1 f2.2) (B _ _ e3 f3.1 f3.2) d0 d8
      refine ⟨p4, _, d, v, rfl, rfl, .inl (.inl (B _ _ e4 f4.1 f4.2)), hv, v, x, rfl, hx, fun H4 s4 => ⟨true, rfl, ?_⟩⟩
      exact ⟨_, rfl, M7.same s4⟩
    · rintro σ H2 ⟨v2, rfl, M2⟩
      -- rows = [..][_law_draw(m, 3)]
      refine ⟨Nat.zero_le _, fun a1 na1 => ⟨by show 1 ≤ sizeLine; decide, fun r0 nr0 => ?_⟩⟩
      have ma1 := M2.ne na1
      have Sa := @same_new H2 a1 (.lst []) na1
      have M3 := M2.same Sa
      have mr0 := M3.ne nr0
      have Sb := @same_new _ r0 (.lst [.ref a1]) nr0
      have M4 := M3.same Sb
      have K0 : SmallAt (hide m g (upd (upd H2 a1 (.lst [])) r0 (.lst [.ref a1]))) r0 gs0 := small0 (hide_at (Sb _ _ upd_same) ma1) (hide_at upd_same mr0)
      have J0 := Same.trans Sa Sb
      clear Sa Sb M3
      revert M4 K0 J0
      generalize upd (upd H2 a1 (.lst [])) r0 (.lst [.ref a1]) = H3
      intro M4 K0 J0
      refine ⟨Nat.zero_le _, fun b1 nb1 => ⟨Nat.zero_le _, fun b2 nb2 => ⟨by show 2 ≤ sizeLine; decide, fun r1 nr1 => ?_⟩⟩⟩
      have mb1 := M4.ne nb1
      have Sa := @same_new H3 b1 (.lst []) nb1
      have M5 := M4.same Sa
      have mb2 := M5.ne nb2
      have Sb := @same_new _ b2 (.lst []) nb2
      have M6 := M5.same Sb
      have mr1 := M6.ne nr1
      have Sc := @same_new _ r1 (.lst [.ref b1, .ref b2]) nr1
      have M7 := M6.same Sc
      have K1 : SmallAt (hide m g (upd (upd (upd H3 b1 (.lst [])) b2 (.lst [])) r1 (.lst [.ref b1, .ref b2]))) r1 gs1 := small1 (hide_at (Sc _ _ (Sb _ _ upd_same)) mb1) (hide_at (Sc _ _ upd_same) mb2) (hide_at upd_same mr1)
      have J1 := Same.trans Sa (Same.trans Sb Sc)
      clear Sa Sb Sc M5 M6
      revert M7 K1 J1
      generalize upd (upd (upd H3 b1 (.lst [])) b2 (.lst [])) r1 (.lst [.ref b1, .ref b2]) = H4
      intro M7 K1 J1
      refine ⟨by show 2 ≤ sizeLine; decide, fun t1 nt1 => ⟨by show 1 ≤ sizeLine; decide, fun c1 nc1 => ⟨by show 2 ≤ sizeLine; decide, fun t2 nt2 => ⟨by show 1 ≤ sizeLine; decide, fun c2 nc2 => ⟨by show 2 ≤ sizeLine; decide, fun r2 nr2 => ?_⟩⟩⟩⟩⟩
      have mt1 := M7.ne nt1
      have Sa := @same_new H4 t1 (.tup [.str "send", .int 0]) nt1
      have M8 := M7.same Sa
      have mc1 := M8.ne nc1
      have Sb := @same_new _ c1 (.lst [.ref t1]) nc1
      have M9 := M8.same Sb
      have mt2 := M9.ne nt2
      have Sc := @same_new _ t2 (.tup [.str "get", .int 0]) nt2
      have M10 := M9.same Sc
      have mc2 := M10.ne nc2
      have Sd := @same_new _ c2 (.lst [.ref t2]) nc2
      have M11 := M10.same Sd
      have mr2 := M11.ne nr2
      have Se := @same_new _ r2 (.lst [.ref c1, .ref c2]) nr2
      have M12 := M11.same Se
      have K2 : SmallAt (hide m g (upd (upd (upd (upd (upd H4 t1 (.tup [.str "send", .int 0])) c1 (.lst [.ref t1])) t2 (.tup [.str "get", .int 0])) c2 (.lst [.ref t2])) r2 (.lst [.ref c1, .ref c2]))) r2 gs2 :=
        small2 (hide_at (Se _ _ (Sd _ _ (Sc _ _ (Sb _ _ upd_same)))) mt1) (hide_at (Se _ _ (Sd _ _ upd_same)) mt2) (hide_at (Se _ _ (Sd _ _ (Sc _ _ upd_same))) mc1) (hide_at (Se _ _ upd_same) mc2) (hide_at upd_same mr2)
      have J2 := Same.trans Sa (Same.trans Sb (Same.trans Sc (Same.trans Sd Se)))
      clear Sa Sb Sc Sd Se M8 M9 M10 M11
      revert M12 K2 J2
      generalize upd (upd (upd (upd (upd H4 t1 (.tup [.str "send", .int 0])) c1 (.lst [.ref t1])) t2 (.tup [.str "get", .int 0])) c2 (.lst [.ref t2])) r2 (.lst [.ref c1, .ref c2]) = H5
      intro M12 K2 J2
      refine ⟨by show 3 ≤ sizeLine; decide, fun pl npl => ?_⟩
      have mpl := M12.ne npl
      have Sa := @same_new H5 pl (.lst [.ref r0, .ref r1, .ref r2]) npl
      have M13 := M12.same Sa
      refine ⟨_, rfl, m, g, 3, 3, rfl, by decide, by decide, by decide, M13, fun d H6 d0 d3 M14 B => ?_⟩
      have sH := Same.trans (Same.hide (m := m) (g := g) Sa) B.hide
      have pick : ∃ (r : Addr) (gss : List (List Dg)), atI ([V.ref r0, V.ref r1, V.ref r2] : List V) d = some (V.ref r) ∧ SmallAt (hide m g H6) r gss := by
        have c : d = 0 ∨ d = 1 ∨ d = 2 := by omega
        rcases c with rfl | rfl | rfl
        · exact ⟨r0, _, rfl, K0.same (Same.trans (Same.hide J1) (Same.trans (Same.hide J2) sH))⟩
        · exact ⟨r1, _, rfl, K1.same (Same.trans (Same.hide J2) sH)⟩
        · exact ⟨r2, _, rfl, K2.same sH⟩
      obtain ⟨r, gss, hr', KS⟩ := pick
      refine ⟨pl, _, d, .ref r, rfl, rfl, .inl (.inl (B _ _ upd_same mpl.1 mpl.2)), hr', ?_⟩
      clear K0 K1 K2 J0 J1 J2 Sa sH M12 M13 M7 M4 M2
      -- here = Talk(rows)
      obtain ⟨many, S, G, Ck, hV⟩ := KS.val
      refine ⟨_, rfl, fun x dx nx ndx nxd => ⟨Ck, x, dx, r, gss, many, S, G, rfl, upd_same, True.intro, ?_, hV, fun H7 k tk => ⟨rfl, ?_⟩⟩⟩
      · refine (KS.same (hide_same)).rows.same fun b o e => ?_
        rw [upd_ne (ne_of_none e nx), upd_ne (ne_of_none e ndx)]
        exact e
      have s7 : Same H6 H7 := Same.made nx ndx k
      have M15 := M14.same s7
      have KS7 := KS.same (Same.hide s7)
      have R7 := tk.rows.hide M15
      clear tk k B nx ndx nxd
      -- odd = [..][_law_draw(m, 8)]
      obtain ⟨xs, hxs⟩ := KS7.lst
      obtain ⟨dxx, rr, fs, ex, er, hR⟩ := R7.ex
      refine ⟨_, rfl, _, rfl, r, xs, rfl, .inl ⟨.inl (.inl (hide_same _ _ hxs)), fun pt npt => fun pd npd => ?_⟩⟩
      have mpt := M15.ne npt
      have Sa := @same_new H7 pt (.tup xs) npt
      have M16 := M15.same Sa
      have mpd := M16.ne npd
      have Sb := @same_new _ pd (.dK []) npd
      have M17 := M16.same Sb
      refine ⟨_, rfl, x, C, dxx, fs, .ref rr, rfl, Sb _ _ (Sa _ _ (hide_same _ _ ex)), cl, nR, er, by show 8 ≤ sizeLine; decide, fun po npo => ?_⟩
      have mpo := M17.ne npo
      have Sc := @same_new _ po (.lst [.non, .ref r, .ref pt, .int 5, .str "talk", .ref pd, .ref rr, .int 1]) npo
      have M18 := M17.same Sc
      refine ⟨_, rfl, m, g, 8, 4, rfl, by decide, by decide, by decide, M18, fun d2 H8 e0 e8 M19 B2 => ?_⟩
      have sH2 := Same.trans (Same.hide (m := m) (g := g) (Same.trans Sa (Same.trans Sb Sc))) B2.hide
      have pick2 : ∃ y : V, atI ([.non, .ref r, .ref pt, .int 5, .str "talk", .ref pd, .ref rr, .int 1] : List V) d2 = some y ∧ Odd (hide m g H8) y := by
        have c : d2 = 0 ∨ d2 = 1 ∨ d2 = 2 ∨ d2 = 3 ∨ d2 = 4 ∨ d2 = 5 ∨ d2 = 6 ∨ d2 = 7 := by omega
        rcases c with rfl | rfl | rfl | rfl | rfl | rfl | rfl | rfl
        · exact ⟨_, rfl, .non⟩
        · exact ⟨_, rfl, .lst (sH2 _ _ hxs)⟩
        · exact ⟨_, rfl, .tup (hide_at (B2 _ _ (Sc _ _ (Sb _ _ upd_same)) mpt.1 mpt.2) mpt)⟩
        · exact ⟨_, rfl, .int 5⟩
        · exact ⟨_, rfl, .str "talk"⟩
        · exact ⟨_, rfl, .dct (hide_at (B2 _ _ (Sc _ _ upd_same) mpd.1 mpd.2) mpd)⟩
        · obtain ⟨ts, h1, _⟩ := hR.ex
          exact ⟨_, rfl, .tup (sH2 _ _ h1)⟩
        · exact ⟨_, rfl, .int 1⟩
      obtain ⟨y, hy, od⟩ := pick2
      refine ⟨po, _, d2, y, rfl, rfl, .inl (.inl (B2 _ _ upd_same mpo.1 mpo.2)), hy, ?_⟩
      have R8 : RowsOf H8 x C gss := (R7.same sH2).same hide_same
      have K8 := (KS7.same sH2).same hide_same
      have x8 : H8 x = some (.ins C dxx fs) := hide_same _ _ (sH2 _ _ ex)
      have od8 := od.same hide_same
      obtain ⟨T, hT, tb, tx⟩ := od8.ex (K := K)
      clear Sa Sb Sc M16 M17 M18 sH2 B2
      -- return [..] == [False] * 3
      refine ⟨_, rfl, _, rfl, x, dxx, fs, .type T, rfl, x8, .b tb, TK.nf T hT, x, y, gss, rfl, R8, .inl ⟨.type T, tx, TK.kit T hT, ?_⟩⟩
      refine ⟨_, rfl, _, rfl, x, dxx, fs, T, rfl, x8, tb, TK.dc T hT, x, y, gss, rfl, R8, .inl ⟨.type T, tx, TK.kit T hT, ?_⟩⟩
      refine ⟨_, rfl, _, rfl, fun x2 dx2 nx2 ndx2 nxd2 => ⟨Ck, x2, dx2, r, gss, many, S, G, rfl, upd_same, True.intro, ?_, hV, fun H9 k tk => ⟨rfl, ?_⟩⟩⟩
      · refine K8.rows.same fun b o e => ?_
        rw [upd_ne (ne_of_none e nx2), upd_ne (ne_of_none e ndx2)]
        exact e
      have s9 : Same H8 H9 := Same.made nx2 ndx2 k
      have R9 := tk.rows
      obtain ⟨dz, rz, fz, ez, _⟩ := R9.ex
      refine ⟨x, dxx, x2, dz, fs, fz, rfl, rfl, s9 _ _ x8, ez, x, .ref x2, gss, rfl, R8.same s9, .inr ⟨x2, gss, rfl, R9, _, rfl, ?_⟩⟩
      refine ⟨by show 3 ≤ sizeLine; decide, fun q1 nq1 => ⟨by show 1 ≤ sizeLine; decide, fun q2 nq2 => ⟨q2, 3, _, rfl, rfl, upd_same, by decide, by decide, by show 1 * 3 ≤ sizeLine; decide, fun q3 nq3 => ?_⟩⟩⟩
      have Sa := @same_new _ q2 (.lst [.bl false]) nq2
      have Sb := @same_new _ q3 (.lst (List.replicate (3 : Int).toNat [V.bl false]).flatten) nq3
      refine ⟨.list [.bool false, .bool false, .bool (!decide (gss = gss))], .list [.bool false, .bool false, .bool false], .lst (.inl (.inl (Sb _ _ (Sa _ _ upd_same)))) (.cons (.bl _) (.cons (.bl _) (.cons (.bl _) .nil))),
        .lst (.inl (.inl upd_same)) (.cons (.bl _) (.cons (.bl _) (.cons (.bl _) .nil))), rfl, rfl, ?_⟩
      have ev : PyData.eqv (.list [.bool false, .bool false, .bool (!decide (gss = gss))]) (.list [.bool false, .bool false, .bool false]) = true := by simp [PyData.eqv, PyData.eqvAll]
      show Q (V.bl _) _
      rw [ev]
      exact q _
end
end Up

namespace Up
open PySem PySem.Spec PyProof.Rows L2
theorem kit_sub {K : PySem.W.Frag} {t : Value} {C : Addr} {b : Bool} (h1 : PySem.W.subIn K (.ref C) (.ref C) = some true) (h2 : PySem.W.isClsIn K C = true) (h3 : PySem.W.typeIn K (.ref C) = some (.type "type")) (h4 : PySem.W.subIn K t (.ref C) = some b) : PySem.W.kitOne K t (.ref C) = some b := by
  have h2' : (PySem.W.clsIn K C).isSome = true := h2
  by_cases c : (t == Value.ref C) = true
  · have e : t = Value.ref C := eq_of_beq c
    subst e
    rw [h1] at h4
    cases h4
    unfold PySem.W.kitOne
    rw [if_pos c]
  · unfold PySem.W.kitOne PySem.W.kitCls
    rw [if_neg c]
    show (if ((PySem.W.clsIn K C).isSome && PySem.W.typeIn K (.ref C) == some (.type "type")) = true then PySem.W.subIn K t (.ref C) else none) = some b
    rw [h2', h3, if_pos (by rfl)]
    exact h4
theorem kit_VE {K : PySem.W.Frag} {C : Addr} (h : PySem.W.subIn K (.ref C) (.type "ValueError") = some true) : PySem.W.kitOne K (.ref C) (.type "ValueError") = some true := by
  unfold PySem.W.kitOne PySem.W.kitCls
  rw [if_neg (by simp)]
  show (if PySem.W.kitMeta "ValueError" = true then PySem.W.subIn K (.ref C) (.type "ValueError") else none) = some true
  rw [if_pos (by decide +kernel)]
  exact h
theorem odd_all {p : String → Prop} (h1 : p "NoneType") (h2 : p "int") (h3 : p "str") (h4 : p "list") (h5 : p "tuple") (h6 : p "dict") : ∀ T ∈ oddT, p T := fun T hT => by
  simp only [oddT, List.mem_cons, List.not_mem_nil, or_false] at hT
  rcases hT with rfl | rfl | rfl | rfl | rfl | rfl <;> assumption
theorem all_mk {P : Program} {w : World} {K : PySem.W.Frag} {h : Heap} {mg : Str → Option Value} {fa : Addr} (X : K.In h) (G : h.Ns mainGlobals mg) (hfa : mg "law" = some (.ref fa))
    {tH tL : Tok}
    {f_is_whole : Addr}
    {od_is_whole an_is_whole : Option Addr}
    {sl_is_whole : Array (Option Value)}
    {oc_is_whole kV_is_whole dc_is_whole pm_is_whole cd_is_whole ct_is_whole : Value}
    {f_is_index : Addr}
    {od_is_index an_is_index : Option Addr}
    {sl_is_index : Array (Option Value)}
    {oc_is_index kV_is_index dc_is_index pm_is_index cd_is_index ct_is_index : Value}
    {f_is_listing : Addr}
    {od_is_listing an_is_listing : Option Addr}
    {sl_is_listing : Array (Option Value)}
    {oc_is_listing kV_is_listing dc_is_listing pm_is_listing cd_is_listing ct_is_listing : Value}
    {f_is_couple : Addr}
    {od_is_couple an_is_couple : Option Addr}
    {sl_is_couple : Array (Option Value)}
    {oc_is_couple kV_is_couple dc_is_couple pm_is_couple cd_is_couple ct_is_couple : Value}
    {f_is_doing : Addr}
    {od_is_doing an_is_doing : Option Addr}
    {sl_is_doing : Array (Option Value)}
    {oc_is_doing kV_is_doing dc_is_doing pm_is_doing cd_is_doing ct_is_doing : Value}
    {f_copied_rows : Addr}
    {od_copied_rows an_copied_rows : Option Addr}
    {sl_copied_rows : Array (Option Value)}
    {oc_copied_rows kV_copied_rows dc_copied_rows pm_copied_rows cd_copied_rows ct_copied_rows : Value}
    {f_found_places : Addr}
    {od_found_places an_found_places : Option Addr}
    {sl_found_places : Array (Option Value)}
    {oc_found_places kV_found_places dc_found_places pm_found_places cd_found_places ct_found_places : Value}
    {f_count_letters : Addr}
    {od_count_letters an_count_letters : Option Addr}
    {sl_count_letters : Array (Option Value)}
    {oc_count_letters kV_count_letters dc_count_letters pm_count_letters cd_count_letters ct_count_letters : Value}
    {f_check_letters : Addr}
    {od_check_letters an_check_letters : Option Addr}
    {sl_check_letters : Array (Option Value)}
    {oc_check_letters kV_check_letters dc_check_letters pm_check_letters cd_check_letters ct_check_letters : Value}
    {f_found_hands : Addr}
    {od_found_hands an_found_hands : Option Addr}
    {sl_found_hands : Array (Option Value)}
    {oc_found_hands kV_found_hands dc_found_hands pm_found_hands cd_found_hands ct_found_hands : Value}
    {f_found_clocks : Addr}
    {od_found_clocks an_found_clocks : Option Addr}
    {sl_found_clocks : Array (Option Value)}
    {oc_found_clocks kV_found_clocks dc_found_clocks pm_found_clocks cd_found_clocks ct_found_clocks : Value}
    {f_row_clocks : Addr}
    {od_row_clocks an_row_clocks : Option Addr}
    {sl_row_clocks : Array (Option Value)}
    {oc_row_clocks kV_row_clocks dc_row_clocks pm_row_clocks cd_row_clocks ct_row_clocks : Value}
    {f_law_mixed : Addr}
    {od_law_mixed an_law_mixed : Option Addr}
    {sl_law_mixed : Array (Option Value)}
    {oc_law_mixed kV_law_mixed dc_law_mixed pm_law_mixed cd_law_mixed ct_law_mixed : Value}
    {f_law_folded : Addr}
    {od_law_folded an_law_folded : Option Addr}
    {sl_law_folded : Array (Option Value)}
    {oc_law_folded kV_law_folded dc_law_folded pm_law_folded cd_law_folded ct_law_folded : Value}
    {f_law_draw : Addr}
    {od_law_draw an_law_draw : Option Addr}
    {sl_law_draw : Array (Option Value)}
    {oc_law_draw kV_law_draw dc_law_draw pm_law_draw cd_law_draw ct_law_draw : Value}
    {f_law_begun : Addr}
    {od_law_begun an_law_begun : Option Addr}
    {sl_law_begun : Array (Option Value)}
    {oc_law_begun kV_law_begun dc_law_begun pm_law_begun cd_law_begun ct_law_begun : Value}
    {CE : Addr}
    {C1 fx1 N1 : Addr}
    {nm1 q1 : Str}
    {bs1 : List Value}
    {sn1 : List Str}
    {sub1 : List Value}
    {ab1 : Bool}
    {col1 : Option Bool}
    {dd1 : Option Addr}
    {m01 m11 m21 m31 m51 : Option Value}
    {odx1 anx1 : Option Addr}
    {slx1 : Array (Option Value)}
    {ocx1 kVx1 dcx1 pmx1 cdx1 ctx1 : Value}
    {C2 fx2 N2 : Addr}
    {nm2 q2 : Str}
    {bs2 : List Value}
    {sn2 : List Str}
    {sub2 : List Value}
    {ab2 : Bool}
    {col2 : Option Bool}
    {dd2 : Option Addr}
    {m02 m12 m22 m32 m52 : Option Value}
    {odx2 anx2 : Option Addr}
    {slx2 : Array (Option Value)}
    {ocx2 kVx2 dcx2 pmx2 cdx2 ctx2 : Value}
    {C3 fx3 N3 : Addr}
    {nm3 q3 : Str}
    {bs3 : List Value}
    {sn3 : List Str}
    {sub3 : List Value}
    {ab3 : Bool}
    {col3 : Option Bool}
    {dd3 : Option Addr}
    {m03 m13 m23 m33 m53 : Option Value}
    {odx3 anx3 : Option Addr}
    {slx3 : Array (Option Value)}
    {ocx3 kVx3 dcx3 pmx3 cdx3 ctx3 : Value}
    {CT fTI fTE : Addr}
    {odTI anTI : Option Addr}
    {slTI : Array (Option Value)}
    {ocTI kVTI dcTI pmTI cdTI ctTI : Value}
    {odTE anTE : Option Addr}
    {slTE : Array (Option Value)}
    {ocTE kVTE dcTE pmTE cdTE ctTE : Value}
    {f_law_each_right : Addr}
    {od_law_each_right an_law_each_right : Option Addr}
    {sl_law_each_right : Array (Option Value)}
    {oc_law_each_right kV_law_each_right dc_law_each_right pm_law_each_right cd_law_each_right ct_law_each_right : Value}
    {f_law : Addr}
    {od_law an_law : Option Addr}
    {sl_law : Array (Option Value)}
    {oc_law kV_law dc_law pm_law cd_law ct_law : Value}
    (z_int : PySem.W.nsIn K mainGlobals "int" = some none)
    (z_len : PySem.W.nsIn K mainGlobals "len" = some none)
    (z_range : PySem.W.nsIn K mainGlobals "range" = some none)
    (z_enumerate : PySem.W.nsIn K mainGlobals "enumerate" = some none)
    (z_isinstance : PySem.W.nsIn K mainGlobals "isinstance" = some none)
    (z_bool : PySem.W.nsIn K mainGlobals "bool" = some none)
    (z_str : PySem.W.nsIn K mainGlobals "str" = some none)
    (z_list : PySem.W.nsIn K mainGlobals "list" = some none)
    (z_tuple : PySem.W.nsIn K mainGlobals "tuple" = some none)
    (z_max : PySem.W.nsIn K mainGlobals "max" = some none)
    (z_zip : PySem.W.nsIn K mainGlobals "zip" = some none)
    (z_repr : PySem.W.nsIn K mainGlobals "repr" = some none)
    (z_ValueError : PySem.W.nsIn K mainGlobals "ValueError" = some none)
    (mH : PySem.W.nsIn K mainGlobals "MOST_HANDS" = some (some (.int 6 tH)))
    (mL : PySem.W.nsIn K mainGlobals "MOST_LETTERS" = some (some (.int 12 tL)))
    (a_is_whole : PySem.W.nsIn K mainGlobals "is_whole" = some (some (.ref f_is_whole)))
    (l_is_whole : K.lookup f_is_whole = some ⟨oc_is_whole, od_is_whole, .func (PySem.W.fnOf "is_whole" "is_whole" (defArgs s_is_whole) (defBody s_is_whole) (defScope s_is_whole) .none kV_is_whole dc_is_whole pm_is_whole an_is_whole cd_is_whole ct_is_whole), sl_is_whole⟩)
    (c_is_whole : PySem.W.codeIn K cd_is_whole "is_whole" = true)
    (k_is_whole : PySem.W.keepIn K (.ref f_is_whole) = true)
    (a_is_index : PySem.W.nsIn K mainGlobals "is_index" = some (some (.ref f_is_index)))
    (l_is_index : K.lookup f_is_index = some ⟨oc_is_index, od_is_index, .func (PySem.W.fnOf "is_index" "is_index" (defArgs s_is_index) (defBody s_is_index) (defScope s_is_index) .none kV_is_index dc_is_index pm_is_index an_is_index cd_is_index ct_is_index), sl_is_index⟩)
    (c_is_index : PySem.W.codeIn K cd_is_index "is_index" = true)
    (k_is_index : PySem.W.keepIn K (.ref f_is_index) = true)
    (a_is_listing : PySem.W.nsIn K mainGlobals "is_listing" = some (some (.ref f_is_listing)))
    (l_is_listing : K.lookup f_is_listing = some ⟨oc_is_listing, od_is_listing, .func (PySem.W.fnOf "is_listing" "is_listing" (defArgs s_is_listing) (defBody s_is_listing) (defScope s_is_listing) .none kV_is_listing dc_is_listing pm_is_listing an_is_listing cd_is_listing ct_is_listing), sl_is_listing⟩)
    (c_is_listing : PySem.W.codeIn K cd_is_listing "is_listing" = true)
    (k_is_listing : PySem.W.keepIn K (.ref f_is_listing) = true)
    (a_is_couple : PySem.W.nsIn K mainGlobals "is_couple" = some (some (.ref f_is_couple)))
    (l_is_couple : K.lookup f_is_couple = some ⟨oc_is_couple, od_is_couple, .func (PySem.W.fnOf "is_couple" "is_couple" (defArgs s_is_couple) (defBody s_is_couple) (defScope s_is_couple) .none kV_is_couple dc_is_couple pm_is_couple an_is_couple cd_is_couple ct_is_couple), sl_is_couple⟩)
    (c_is_couple : PySem.W.codeIn K cd_is_couple "is_couple" = true)
    (k_is_couple : PySem.W.keepIn K (.ref f_is_couple) = true)
    (a_is_doing : PySem.W.nsIn K mainGlobals "is_doing" = some (some (.ref f_is_doing)))
    (l_is_doing : K.lookup f_is_doing = some ⟨oc_is_doing, od_is_doing, .func (PySem.W.fnOf "is_doing" "is_doing" (defArgs s_is_doing) (defBody s_is_doing) (defScope s_is_doing) .none kV_is_doing dc_is_doing pm_is_doing an_is_doing cd_is_doing ct_is_doing), sl_is_doing⟩)
    (c_is_doing : PySem.W.codeIn K cd_is_doing "is_doing" = true)
    (k_is_doing : PySem.W.keepIn K (.ref f_is_doing) = true)
    (a_copied_rows : PySem.W.nsIn K mainGlobals "copied_rows" = some (some (.ref f_copied_rows)))
    (l_copied_rows : K.lookup f_copied_rows = some ⟨oc_copied_rows, od_copied_rows, .func (PySem.W.fnOf "copied_rows" "copied_rows" (defArgs s_copied_rows) (defBody s_copied_rows) (defScope s_copied_rows) .none kV_copied_rows dc_copied_rows pm_copied_rows an_copied_rows cd_copied_rows ct_copied_rows), sl_copied_rows⟩)
    (c_copied_rows : PySem.W.codeIn K cd_copied_rows "copied_rows" = true)
    (k_copied_rows : PySem.W.keepIn K (.ref f_copied_rows) = true)
    (a_found_places : PySem.W.nsIn K mainGlobals "found_places" = some (some (.ref f_found_places)))
    (l_found_places : K.lookup f_found_places = some ⟨oc_found_places, od_found_places, .func (PySem.W.fnOf "found_places" "found_places" (defArgs s_found_places) (defBody s_found_places) (defScope s_found_places) .none kV_found_places dc_found_places pm_found_places an_found_places cd_found_places ct_found_places), sl_found_places⟩)
    (c_found_places : PySem.W.codeIn K cd_found_places "found_places" = true)
    (k_found_places : PySem.W.keepIn K (.ref f_found_places) = true)
    (a_count_letters : PySem.W.nsIn K mainGlobals "count_letters" = some (some (.ref f_count_letters)))
    (l_count_letters : K.lookup f_count_letters = some ⟨oc_count_letters, od_count_letters, .func (PySem.W.fnOf "count_letters" "count_letters" (defArgs s_count_letters) (defBody s_count_letters) (defScope s_count_letters) .none kV_count_letters dc_count_letters pm_count_letters an_count_letters cd_count_letters ct_count_letters), sl_count_letters⟩)
    (c_count_letters : PySem.W.codeIn K cd_count_letters "count_letters" = true)
    (k_count_letters : PySem.W.keepIn K (.ref f_count_letters) = true)
    (a_check_letters : PySem.W.nsIn K mainGlobals "check_letters" = some (some (.ref f_check_letters)))
    (l_check_letters : K.lookup f_check_letters = some ⟨oc_check_letters, od_check_letters, .func (PySem.W.fnOf "check_letters" "check_letters" (defArgs s_check_letters) (defBody s_check_letters) (defScope s_check_letters) .none kV_check_letters dc_check_letters pm_check_letters an_check_letters cd_check_letters ct_check_letters), sl_check_letters⟩)
    (c_check_letters : PySem.W.codeIn K cd_check_letters "check_letters" = true)
    (k_check_letters : PySem.W.keepIn K (.ref f_check_letters) = true)
    (a_found_hands : PySem.W.nsIn K mainGlobals "found_hands" = some (some (.ref f_found_hands)))
    (l_found_hands : K.lookup f_found_hands = some ⟨oc_found_hands, od_found_hands, .func (PySem.W.fnOf "found_hands" "found_hands" (defArgs s_found_hands) (defBody s_found_hands) (defScope s_found_hands) .none kV_found_hands dc_found_hands pm_found_hands an_found_hands cd_found_hands ct_found_hands), sl_found_hands⟩)
    (c_found_hands : PySem.W.codeIn K cd_found_hands "found_hands" = true)
    (k_found_hands : PySem.W.keepIn K (.ref f_found_hands) = true)
    (a_found_clocks : PySem.W.nsIn K mainGlobals "found_clocks" = some (some (.ref f_found_clocks)))
    (l_found_clocks : K.lookup f_found_clocks = some ⟨oc_found_clocks, od_found_clocks, .func (PySem.W.fnOf "found_clocks" "found_clocks" (defArgs s_found_clocks) (defBody s_found_clocks) (defScope s_found_clocks) .none kV_found_clocks dc_found_clocks pm_found_clocks an_found_clocks cd_found_clocks ct_found_clocks), sl_found_clocks⟩)
    (c_found_clocks : PySem.W.codeIn K cd_found_clocks "found_clocks" = true)
    (k_found_clocks : PySem.W.keepIn K (.ref f_found_clocks) = true)
    (a_row_clocks : PySem.W.nsIn K mainGlobals "row_clocks" = some (some (.ref f_row_clocks)))
    (l_row_clocks : K.lookup f_row_clocks = some ⟨oc_row_clocks, od_row_clocks, .func (PySem.W.fnOf "row_clocks" "row_clocks" (defArgs s_row_clocks) (defBody s_row_clocks) (defScope s_row_clocks) .none kV_row_clocks dc_row_clocks pm_row_clocks an_row_clocks cd_row_clocks ct_row_clocks), sl_row_clocks⟩)
    (c_row_clocks : PySem.W.codeIn K cd_row_clocks "row_clocks" = true)
    (k_row_clocks : PySem.W.keepIn K (.ref f_row_clocks) = true)
    (a_law_mixed : PySem.W.nsIn K mainGlobals "_law_mixed" = some (some (.ref f_law_mixed)))
    (l_law_mixed : K.lookup f_law_mixed = some ⟨oc_law_mixed, od_law_mixed, .func (PySem.W.fnOf "_law_mixed" "_law_mixed" (defArgs sMix) (defBody sMix) (defScope sMix) .none kV_law_mixed dc_law_mixed pm_law_mixed an_law_mixed cd_law_mixed ct_law_mixed), sl_law_mixed⟩)
    (c_law_mixed : PySem.W.codeIn K cd_law_mixed "_law_mixed" = true)
    (k_law_mixed : PySem.W.keepIn K (.ref f_law_mixed) = true)
    (a_law_folded : PySem.W.nsIn K mainGlobals "_law_folded" = some (some (.ref f_law_folded)))
    (l_law_folded : K.lookup f_law_folded = some ⟨oc_law_folded, od_law_folded, .func (PySem.W.fnOf "_law_folded" "_law_folded" (defArgs sFol) (defBody sFol) (defScope sFol) .none kV_law_folded dc_law_folded pm_law_folded an_law_folded cd_law_folded ct_law_folded), sl_law_folded⟩)
    (c_law_folded : PySem.W.codeIn K cd_law_folded "_law_folded" = true)
    (k_law_folded : PySem.W.keepIn K (.ref f_law_folded) = true)
    (a_law_draw : PySem.W.nsIn K mainGlobals "_law_draw" = some (some (.ref f_law_draw)))
    (l_law_draw : K.lookup f_law_draw = some ⟨oc_law_draw, od_law_draw, .func (PySem.W.fnOf "_law_draw" "_law_draw" (defArgs sDrw) (defBody sDrw) (defScope sDrw) .none kV_law_draw dc_law_draw pm_law_draw an_law_draw cd_law_draw ct_law_draw), sl_law_draw⟩)
    (c_law_draw : PySem.W.codeIn K cd_law_draw "_law_draw" = true)
    (k_law_draw : PySem.W.keepIn K (.ref f_law_draw) = true)
    (a_law_begun : PySem.W.nsIn K mainGlobals "_law_begun" = some (some (.ref f_law_begun)))
    (l_law_begun : K.lookup f_law_begun = some ⟨oc_law_begun, od_law_begun, .func (PySem.W.fnOf "_law_begun" "_law_begun" (defArgs sBeg) (defBody sBeg) (defScope sBeg) .none kV_law_begun dc_law_begun pm_law_begun an_law_begun cd_law_begun ct_law_begun), sl_law_begun⟩)
    (c_law_begun : PySem.W.codeIn K cd_law_begun "_law_begun" = true)
    (k_law_begun : PySem.W.keepIn K (.ref f_law_begun) = true)
    (aCE : PySem.W.nsIn K mainGlobals "TalkError" = some (some (.ref CE)))
    (iCE : PySem.W.isClsIn K CE = true)
    (tCE : PySem.W.typeIn K (.ref CE) = some (.type "type"))
    (sCE : PySem.W.subIn K (.ref CE) (.ref CE) = some true)
    (cn : PySem.W.specialIn K (.builtin "object.__class__") "__get__" = some (some (.builtin "getset_descriptor.__get__")))
    (ct : PySem.W.takesIn K (.builtin "object.__class__") = some true)
    (aC1 : PySem.W.nsIn K mainGlobals "BadTalk" = some (some (.ref C1)))
    (xL1 : K.lookup C1 = some (excClassObj nm1 q1 C1 N1 bs1 [.ref CE, .type "ValueError", .type "Exception", .type "BaseException", .type "object"] true sn1 sub1 ab1 col1 dd1 m01 m11 m21 m31 m51 "ValueError.__new__"))
    (sax1 : PySem.W.findIn K (.ref C1) "__setattr__" = some (some (.builtin "object.__setattr__")))
    (gax1 : PySem.W.findIn K (.ref C1) "__getattribute__" = some (some (.builtin "BaseException.__getattribute__")))
    (ggx1 : PySem.W.findIn K (.ref C1) "__getattr__" = some none)
    (nbx1 : PySem.W.findIn K (.ref C1) "place" = some none)
    (a1x1 : PySem.W.findIn K (.ref C1) "__init__" = some (some (.ref fx1)))
    (t1x1 : PySem.W.typeIn K (.ref fx1) = some (.type "function"))
    (kCx1 : PySem.W.keepIn K (.ref C1) = true)
    (eCx1 : PySem.W.subIn K (.ref C1) (.type "BaseException") = some true)
    (tCx1 : PySem.W.typeIn K (.ref C1) = some (.type "type"))
    (hCx1 : PySem.W.hasDictIn K C1 = true)
    (iCx1 : PySem.W.isClsIn K C1 = true)
    (cax1 : PySem.W.findIn K (.ref C1) "__class__" = some (some (.builtin "object.__class__")))
    (cmx1 : PySem.W.mroIn K C1 (.type "object") = some true)
    (sEx1 : PySem.W.subIn K (.ref C1) (.ref CE) = some true)
    (sVx1 : PySem.W.subIn K (.ref C1) (.type "ValueError") = some true)
    (lx1 : K.lookup fx1 = some ⟨ocx1, odx1, .func (PySem.W.fnOf "__init__" "BadTalk.__init__" (defArgs s_xBadTalk) (defBody s_xBadTalk) (defScope s_xBadTalk) .none kVx1 dcx1 pmx1 anx1 cdx1 ctx1), slx1⟩)
    (cx1 : PySem.W.codeIn K cdx1 "BadTalk.__init__" = true)
    (kx1 : PySem.W.keepIn K (.ref fx1) = true)
    (aC2 : PySem.W.nsIn K mainGlobals "BadDoing" = some (some (.ref C2)))
    (xL2 : K.lookup C2 = some (excClassObj nm2 q2 C2 N2 bs2 [.ref CE, .type "ValueError", .type "Exception", .type "BaseException", .type "object"] true sn2 sub2 ab2 col2 dd2 m02 m12 m22 m32 m52 "ValueError.__new__"))
    (sax2 : PySem.W.findIn K (.ref C2) "__setattr__" = some (some (.builtin "object.__setattr__")))
    (gax2 : PySem.W.findIn K (.ref C2) "__getattribute__" = some (some (.builtin "BaseException.__getattribute__")))
    (ggx2 : PySem.W.findIn K (.ref C2) "__getattr__" = some none)
    (nbx2 : PySem.W.findIn K (.ref C2) "value" = some none)
    (a1x2 : PySem.W.findIn K (.ref C2) "__init__" = some (some (.ref fx2)))
    (t1x2 : PySem.W.typeIn K (.ref fx2) = some (.type "function"))
    (kCx2 : PySem.W.keepIn K (.ref C2) = true)
    (eCx2 : PySem.W.subIn K (.ref C2) (.type "BaseException") = some true)
    (tCx2 : PySem.W.typeIn K (.ref C2) = some (.type "type"))
    (hCx2 : PySem.W.hasDictIn K C2 = true)
    (iCx2 : PySem.W.isClsIn K C2 = true)
    (cax2 : PySem.W.findIn K (.ref C2) "__class__" = some (some (.builtin "object.__class__")))
    (cmx2 : PySem.W.mroIn K C2 (.type "object") = some true)
    (sEx2 : PySem.W.subIn K (.ref C2) (.ref CE) = some true)
    (sVx2 : PySem.W.subIn K (.ref C2) (.type "ValueError") = some true)
    (lx2 : K.lookup fx2 = some ⟨ocx2, odx2, .func (PySem.W.fnOf "__init__" "BadDoing.__init__" (defArgs s_xBadDoing) (defBody s_xBadDoing) (defScope s_xBadDoing) .none kVx2 dcx2 pmx2 anx2 cdx2 ctx2), slx2⟩)
    (cx2 : PySem.W.codeIn K cdx2 "BadDoing.__init__" = true)
    (kx2 : PySem.W.keepIn K (.ref fx2) = true)
    (aC3 : PySem.W.nsIn K mainGlobals "BadNumber" = some (some (.ref C3)))
    (xL3 : K.lookup C3 = some (excClassObj nm3 q3 C3 N3 bs3 [.ref CE, .type "ValueError", .type "Exception", .type "BaseException", .type "object"] true sn3 sub3 ab3 col3 dd3 m03 m13 m23 m33 m53 "ValueError.__new__"))
    (sax3 : PySem.W.findIn K (.ref C3) "__setattr__" = some (some (.builtin "object.__setattr__")))
    (gax3 : PySem.W.findIn K (.ref C3) "__getattribute__" = some (some (.builtin "BaseException.__getattribute__")))
    (ggx3 : PySem.W.findIn K (.ref C3) "__getattr__" = some none)
    (nbx3 : PySem.W.findIn K (.ref C3) "value" = some none)
    (a1x3 : PySem.W.findIn K (.ref C3) "__init__" = some (some (.ref fx3)))
    (t1x3 : PySem.W.typeIn K (.ref fx3) = some (.type "function"))
    (kCx3 : PySem.W.keepIn K (.ref C3) = true)
    (eCx3 : PySem.W.subIn K (.ref C3) (.type "BaseException") = some true)
    (tCx3 : PySem.W.typeIn K (.ref C3) = some (.type "type"))
    (hCx3 : PySem.W.hasDictIn K C3 = true)
    (iCx3 : PySem.W.isClsIn K C3 = true)
    (cax3 : PySem.W.findIn K (.ref C3) "__class__" = some (some (.builtin "object.__class__")))
    (cmx3 : PySem.W.mroIn K C3 (.type "object") = some true)
    (sEx3 : PySem.W.subIn K (.ref C3) (.ref CE) = some true)
    (sVx3 : PySem.W.subIn K (.ref C3) (.type "ValueError") = some true)
    (lx3 : K.lookup fx3 = some ⟨ocx3, odx3, .func (PySem.W.fnOf "__init__" "BadNumber.__init__" (defArgs s_xBadNumber) (defBody s_xBadNumber) (defScope s_xBadNumber) .none kVx3 dcx3 pmx3 anx3 cdx3 ctx3), slx3⟩)
    (cx3 : PySem.W.codeIn K cdx3 "BadNumber.__init__" = true)
    (kx3 : PySem.W.keepIn K (.ref fx3) = true)
    (s11 : PySem.W.subIn K (.ref C1) (.ref C1) = some true)
    (s12 : PySem.W.subIn K (.ref C1) (.ref C2) = some false)
    (s13 : PySem.W.subIn K (.ref C1) (.ref C3) = some false)
    (s21 : PySem.W.subIn K (.ref C2) (.ref C1) = some false)
    (s22 : PySem.W.subIn K (.ref C2) (.ref C2) = some true)
    (s23 : PySem.W.subIn K (.ref C2) (.ref C3) = some false)
    (s31 : PySem.W.subIn K (.ref C3) (.ref C1) = some false)
    (s32 : PySem.W.subIn K (.ref C3) (.ref C2) = some false)
    (s33 : PySem.W.subIn K (.ref C3) (.ref C3) = some true)
    (aT : PySem.W.nsIn K mainGlobals "Talk" = some (some (.ref CT)))
    (pgT : PySem.W.plainGet K CT Str.empty = true)
    (hdT : PySem.W.hasDictIn K CT = true)
    (poT : PySem.W.plainOver K CT = true)
    (saT : PySem.W.findIn K (.ref CT) "__setattr__" = some (some (.builtin "object.__setattr__")))
    (mkT : PySem.W.makesIn K CT = true)
    (kcT : PySem.W.keepIn K (.ref CT) = true)
    (caT : PySem.W.findIn K (.ref CT) "__class__" = some (some (.builtin "object.__class__")))
    (cmT : PySem.W.mroIn K CT (.type "object") = some true)
    (neT : PySem.W.findIn K (.ref CT) "__ne__" = some (some (.builtin "object.__ne__")))
    (icT : PySem.W.isClsIn K CT = true)
    (tyT : PySem.W.typeIn K (.ref CT) = some (.type "type"))
    (sfT : PySem.W.subIn K (.ref CT) (.ref CT) = some true)
    (a1T : PySem.W.findIn K (.ref CT) "__init__" = some (some (.ref fTI)))
    (i1T : PySem.W.isFn K (.ref fTI) = true)
    (a2T : PySem.W.findIn K (.ref CT) "__eq__" = some (some (.ref fTE)))
    (i2T : PySem.W.isFn K (.ref fTE) = true)
    (n_rows : PySem.W.findIn K (.ref CT) "rows" = some none)
    (n_places : PySem.W.findIn K (.ref CT) "places" = some none)
    (n_many : PySem.W.findIn K (.ref CT) "many" = some none)
    (n_senders : PySem.W.findIn K (.ref CT) "senders" = some none)
    (n_getters : PySem.W.findIn K (.ref CT) "getters" = some none)
    (n_clocks : PySem.W.findIn K (.ref CT) "clocks" = some none)
    (lTI : K.lookup fTI = some ⟨ocTI, odTI, .func (PySem.W.fnOf "__init__" "Talk.__init__" (defArgs s_tinit) (defBody s_tinit) (defScope s_tinit) .none kVTI dcTI pmTI anTI cdTI ctTI), slTI⟩)
    (cTI : PySem.W.codeIn K cdTI "Talk.__init__" = true)
    (kTI : PySem.W.keepIn K (.ref fTI) = true)
    (lTE : K.lookup fTE = some ⟨ocTE, odTE, .func (PySem.W.fnOf "__eq__" "Talk.__eq__" (defArgs s_teq) (defBody s_teq) (defScope s_teq) .none kVTE dcTE pmTE anTE cdTE ctTE), slTE⟩)
    (cTE : PySem.W.codeIn K cdTE "Talk.__eq__" = true)
    (kTE : PySem.W.keepIn K (.ref fTE) = true)
    (u_NoneType : PySem.W.subIn K (.type "NoneType") (.ref CT) = some false)
    (v_NoneType : PySem.W.subIn K (.ref CT) (.type "NoneType") = some false)
    (w_NoneType : PySem.W.notFirst K CT (.type "NoneType") = true)
    (u_int : PySem.W.subIn K (.type "int") (.ref CT) = some false)
    (v_int : PySem.W.subIn K (.ref CT) (.type "int") = some false)
    (w_int : PySem.W.notFirst K CT (.type "int") = true)
    (u_str : PySem.W.subIn K (.type "str") (.ref CT) = some false)
    (v_str : PySem.W.subIn K (.ref CT) (.type "str") = some false)
    (w_str : PySem.W.notFirst K CT (.type "str") = true)
    (u_list : PySem.W.subIn K (.type "list") (.ref CT) = some false)
    (v_list : PySem.W.subIn K (.ref CT) (.type "list") = some false)
    (w_list : PySem.W.notFirst K CT (.type "list") = true)
    (u_tuple : PySem.W.subIn K (.type "tuple") (.ref CT) = some false)
    (v_tuple : PySem.W.subIn K (.ref CT) (.type "tuple") = some false)
    (w_tuple : PySem.W.notFirst K CT (.type "tuple") = true)
    (u_dict : PySem.W.subIn K (.type "dict") (.ref CT) = some false)
    (v_dict : PySem.W.subIn K (.ref CT) (.type "dict") = some false)
    (w_dict : PySem.W.notFirst K CT (.type "dict") = true)
    (a_law_each_right : PySem.W.nsIn K mainGlobals "_law_each_right" = some (some (.ref f_law_each_right)))
    (l_law_each_right : K.lookup f_law_each_right = some ⟨oc_law_each_right, od_law_each_right, .func (PySem.W.fnOf "_law_each_right" "_law_each_right" (defArgs s_each) (defBody s_each) (defScope s_each) .none kV_law_each_right dc_law_each_right pm_law_each_right an_law_each_right cd_law_each_right ct_law_each_right), sl_law_each_right⟩)
    (c_law_each_right : PySem.W.codeIn K cd_law_each_right "_law_each_right" = true)
    (k_law_each_right : PySem.W.keepIn K (.ref f_law_each_right) = true)
    (a_law : PySem.W.nsIn K mainGlobals "law" = some (some (.ref f_law)))
    (l_law : K.lookup f_law = some ⟨oc_law, od_law, .func (PySem.W.fnOf "law" "law" (defArgs s_law) (defBody s_law) (defScope s_law) .none kV_law dc_law pm_law an_law cd_law ct_law), sl_law⟩)
    (c_law : PySem.W.codeIn K cd_law "law" = true)
    (k_law : PySem.W.keepIn K (.ref f_law) = true) :
    ∃ fd : FuncData, (∀ (s : Shared) (v : Value), BindsTo s fd ⟨[v], []⟩ [("script", v)]) ∧ ∀ base : Heap, K.In base → base.Ns mainGlobals mg → FnG P w K mg base CX0 7 fa fd ["script"] (spLaw K) := by
  have e := hfa.symm.trans (PySem.W.mg_of X G a_law)
  cases e
  have F_is_whole := fun_mk (st := s_is_whole) l_is_whole c_is_whole k_is_whole
  have b_is_whole := F_is_whole.binds (ps := ["value"]) fun _ _ _ _ _ _ us hl => match us, hl with | [_], _ => rfl
  have F_is_index := fun_mk (st := s_is_index) l_is_index c_is_index k_is_index
  have b_is_index := F_is_index.binds (ps := ["value", "many"]) fun _ _ _ _ _ _ us hl => match us, hl with | [_, _], _ => rfl
  have F_is_listing := fun_mk (st := s_is_listing) l_is_listing c_is_listing k_is_listing
  have b_is_listing := F_is_listing.binds (ps := ["value", "most"]) fun _ _ _ _ _ _ us hl => match us, hl with | [_, _], _ => rfl
  have F_is_couple := fun_mk (st := s_is_couple) l_is_couple c_is_couple k_is_couple
  have b_is_couple := F_is_couple.binds (ps := ["value"]) fun _ _ _ _ _ _ us hl => match us, hl with | [_], _ => rfl
  have F_is_doing := fun_mk (st := s_is_doing) l_is_doing c_is_doing k_is_doing
  have b_is_doing := F_is_doing.binds (ps := ["value", "many"]) fun _ _ _ _ _ _ us hl => match us, hl with | [_, _], _ => rfl
  have F_copied_rows := fun_mk (st := s_copied_rows) l_copied_rows c_copied_rows k_copied_rows
  have b_copied_rows := F_copied_rows.binds (ps := ["rows"]) fun _ _ _ _ _ _ us hl => match us, hl with | [_], _ => rfl
  have F_found_places := fun_mk (st := s_found_places) l_found_places c_found_places k_found_places
  have b_found_places := F_found_places.binds (ps := ["rows"]) fun _ _ _ _ _ _ us hl => match us, hl with | [_], _ => rfl
  have F_count_letters := fun_mk (st := s_count_letters) l_count_letters c_count_letters k_count_letters
  have b_count_letters := F_count_letters.binds (ps := ["places"]) fun _ _ _ _ _ _ us hl => match us, hl with | [_], _ => rfl
  have F_check_letters := fun_mk (st := s_check_letters) l_check_letters c_check_letters k_check_letters
  have b_check_letters := F_check_letters.binds (ps := ["places", "many"]) fun _ _ _ _ _ _ us hl => match us, hl with | [_, _], _ => rfl
  have F_found_hands := fun_mk (st := s_found_hands) l_found_hands c_found_hands k_found_hands
  have b_found_hands := F_found_hands.binds (ps := ["places", "word", "many"]) fun _ _ _ _ _ _ us hl => match us, hl with | [_, _, _], _ => rfl
  have F_found_clocks := fun_mk (st := s_found_clocks) l_found_clocks c_found_clocks k_found_clocks
  have b_found_clocks := F_found_clocks.binds (ps := ["rows"]) fun _ _ _ _ _ _ us hl => match us, hl with | [_], _ => rfl
  have F_row_clocks := fun_mk (st := s_row_clocks) l_row_clocks c_row_clocks k_row_clocks
  have b_row_clocks := F_row_clocks.binds (ps := ["hand", "row", "hands", "clocks"]) fun _ _ _ _ _ _ us hl => match us, hl with | [_, _, _, _], _ => rfl
  have F_law_mixed := fun_mk (st := sMix) l_law_mixed c_law_mixed k_law_mixed
  have b_law_mixed := F_law_mixed.binds (ps := ["cell", "n"]) fun _ _ _ _ _ _ us hl => match us, hl with | [_, _], _ => rfl
  have F_law_folded := fun_mk (st := sFol) l_law_folded c_law_folded k_law_folded
  have b_law_folded := F_law_folded.binds (ps := ["script"]) fun _ _ _ _ _ _ us hl => match us, hl with | [_], _ => rfl
  have F_law_draw := fun_mk (st := sDrw) l_law_draw c_law_draw k_law_draw
  have b_law_draw := F_law_draw.binds (ps := ["m", "limit"]) fun _ _ _ _ _ _ us hl => match us, hl with | [_, _], _ => rfl
  have F_law_begun := fun_mk (st := sBeg) l_law_begun c_law_begun k_law_begun
  have b_law_begun := F_law_begun.binds (ps := ["script"]) fun _ _ _ _ _ _ us hl => match us, hl with | [_], _ => rfl
  have Fx1 := fun_mk (st := s_xBadTalk) lx1 cx1 kx1
  have bx1 := Fx1.binds (ps := ["self", "place"]) fun _ _ _ _ _ _ us hl => match us, hl with | [_, _], _ => rfl
  have Fx2 := fun_mk (st := s_xBadDoing) lx2 cx2 kx2
  have bx2 := Fx2.binds (ps := ["self", "value"]) fun _ _ _ _ _ _ us hl => match us, hl with | [_, _], _ => rfl
  have Fx3 := fun_mk (st := s_xBadNumber) lx3 cx3 kx3
  have bx3 := Fx3.binds (ps := ["self", "value"]) fun _ _ _ _ _ _ us hl => match us, hl with | [_, _], _ => rfl
  have FTI := fun_mk (st := s_tinit) lTI cTI kTI
  have bTI := FTI.binds (ps := ["self", "rows"]) fun _ _ _ _ _ _ us hl => match us, hl with | [_, _], _ => rfl
  have FTE := fun_mk (st := s_teq) lTE cTE kTE
  have bTE := FTE.binds (ps := ["self", "other"]) fun _ _ _ _ _ _ us hl => match us, hl with | [_, _], _ => rfl
  have F_law_each_right := fun_mk (st := s_each) l_law_each_right c_law_each_right k_law_each_right
  have b_law_each_right := F_law_each_right.binds (ps := ["q"]) fun _ _ _ _ _ _ us hl => match us, hl with | [_], _ => rfl
  have F_law := fun_mk (st := s_law) l_law c_law k_law
  have b_law := F_law.binds (ps := ["script"]) fun _ _ _ _ _ _ us hl => match us, hl with | [_], _ => rfl
  have TB : TxtB mg := ⟨(PySem.W.mg_none_of X G z_int), (PySem.W.mg_none_of X G z_len), (PySem.W.mg_none_of X G z_range), (PySem.W.mg_none_of X G z_enumerate)⟩
  have TC : TxtC mg := ⟨TB, (PySem.W.mg_none_of X G z_isinstance), (PySem.W.mg_none_of X G z_bool), (PySem.W.mg_none_of X G z_str), (PySem.W.mg_none_of X G z_list), (PySem.W.mg_none_of X G z_tuple)⟩
  have TM : TxtM mg := ⟨TC, (PySem.W.mg_none_of X G z_max)⟩
  have TZ : TxtZ mg := ⟨TM, (PySem.W.mg_none_of X G z_zip)⟩
  have TT : TxtT K mg CT f_copied_rows f_found_places f_count_letters f_check_letters f_found_hands f_found_clocks := ⟨TZ, ⟨pgT, hdT, poT, saT⟩, n_rows, n_places, n_many, n_senders, n_getters, n_clocks, (PySem.W.mg_of X G aT), (PySem.W.mg_of X G a_copied_rows), (PySem.W.mg_of X G a_found_places), (PySem.W.mg_of X G a_count_letters), (PySem.W.mg_of X G a_check_letters), (PySem.W.mg_of X G a_found_hands), (PySem.W.mg_of X G a_found_clocks)⟩
  have O1 : OexC K C1 := ⟨⟨nm1, q1, N1, bs1, _, sn1, sub1, ab1, col1, dd1, m01, m11, m21, m31, m51, xL1, rfl⟩, sax1, eCx1, tCx1, kCx1⟩
  have Y1 : XCls K C1 := ⟨O1, gax1, ggx1, hCx1, iCx1, cax1, cn, ct, cmx1⟩
  have O2 : OexC K C2 := ⟨⟨nm2, q2, N2, bs2, _, sn2, sub2, ab2, col2, dd2, m02, m12, m22, m32, m52, xL2, rfl⟩, sax2, eCx2, tCx2, kCx2⟩
  have Y2 : XCls K C2 := ⟨O2, gax2, ggx2, hCx2, iCx2, cax2, cn, ct, cmx2⟩
  have O3 : OexC K C3 := ⟨⟨nm3, q3, N3, bs3, _, sn3, sub3, ab3, col3, dd3, m03, m13, m23, m33, m53, xL3, rfl⟩, sax3, eCx3, tCx3, kCx3⟩
  have Y3 : XCls K C3 := ⟨O3, gax3, ggx3, hCx3, iCx3, cax3, cn, ct, cmx3⟩
  have ks : ∀ {t : Value} {C : Addr} {b : Bool}, PySem.W.subIn K (.ref C) (.ref C) = some true → PySem.W.isClsIn K C = true → PySem.W.typeIn K (.ref C) = some (.type "type") → PySem.W.subIn K t (.ref C) = some b → PySem.W.kitOne K t (.ref C) = some b := fun h1 h2 h3 h4 => kit_sub h1 h2 h3 h4
  have TE : TxtE K mg C1 C2 C3 CE := ⟨TC, (PySem.W.mg_none_of X G z_repr), (PySem.W.mg_none_of X G z_ValueError), (PySem.W.mg_of X G aCE), (ks s11 iCx1 tCx1 s11), (ks s22 iCx2 tCx2 s12), (ks s33 iCx3 tCx3 s13), (ks s11 iCx1 tCx1 s21), (ks s22 iCx2 tCx2 s22), (ks s33 iCx3 tCx3 s23), (ks s11 iCx1 tCx1 s31), (ks s22 iCx2 tCx2 s32), (ks s33 iCx3 tCx3 s33), (ks sCE iCE tCE sEx1), (ks sCE iCE tCE sEx2), (ks sCE iCE tCE sEx3), (kit_VE sVx1), (kit_VE sVx2), (kit_VE sVx3)⟩
  have TLw : TxtL K mg f_law_begun f_law_draw f_law_each_right CT := ⟨TC, (PySem.W.mg_of X G a_law_begun), (PySem.W.mg_of X G a_law_draw), (PySem.W.mg_of X G a_law_each_right), (PySem.W.mg_of X G aT)⟩
  have JT : IsTalk K CT := ⟨caT, cn, ct, cmT, ks sfT icT tyT sfT⟩
  have TK : TalkK K CT fTE := ⟨JT, a2T, i2T, neT, odd_all (ks sfT icT tyT u_NoneType) (ks sfT icT tyT u_int) (ks sfT icT tyT u_str) (ks sfT icT tyT u_list) (ks sfT icT tyT u_tuple) (ks sfT icT tyT u_dict), odd_all (w_NoneType) (w_int) (w_str) (w_list) (w_tuple) (w_dict), odd_all (decl_NoneType v_NoneType) (decl_int v_int) (decl_str v_str) (decl_list v_list) (decl_tuple v_tuple) (decl_dict v_dict)⟩
  refine ⟨PySem.W.fnOf "law" "law" (defArgs s_law) (defBody s_law) (defScope s_law) .none kV_law dc_law pm_law an_law cd_law ct_law, fun st u => .of_eq rfl, fun base KB GB0 => ?_⟩
  have E1 : XK1 P w K mg base "BadTalk" "place" C1 := ⟨Y1, (PySem.W.mg_of X G aC1), nbx1, fx1, _, a1x1, t1x1, ok_xBadTalk Fx1 O1 nbx1, bx1, fun a u st _ => .of_eq rfl⟩
  have E2 : XK1 P w K mg base "BadDoing" "value" C2 := ⟨Y2, (PySem.W.mg_of X G aC2), nbx2, fx2, _, a1x2, t1x2, ok_xBadDoing Fx2 O2 nbx2, bx2, fun a u st _ => .of_eq rfl⟩
  have E3 : XK1 P w K mg base "BadNumber" "value" C3 := ⟨Y3, (PySem.W.mg_of X G aC3), nbx3, fx3, _, a1x3, t1x3, ok_xBadNumber Fx3 O3 nbx3, bx3, fun a u st _ => .of_eq rfl⟩
  have GB : FnOk P w K mg base CX0 2 f_law_begun _ ["script"] (spBeg K) := ok_beg F_law_begun ⟨TB, (PySem.W.mg_of X G a_law_folded)⟩ F_law_folded b_law_folded
  have GD : FnOk P w K mg base CX0 2 f_law_draw _ ["m", "limit"] spDrw := ok_drw F_law_draw ⟨TB, (PySem.W.mg_of X G a_law_mixed)⟩ F_law_mixed b_law_mixed
  have GE : FnG P w K mg base CX0 3 f_law_each_right _ ["q"] (spEach K) := ok_each F_law_each_right TE E1 E2 E3
  have GI : FnOk P w K mg base CX0 2 f_is_index _ ["value", "many"] spIndex := ok_index F_is_index ⟨TC, (PySem.W.mg_of X G a_is_whole)⟩ F_is_whole b_is_whole
  have GO : FnOk P w K mg base CX0 3 f_is_doing _ ["value", "many"] spDoing := ok_doing F_is_doing ⟨TC, (PySem.W.mg_of X G a_is_couple), (PySem.W.mg_of X G a_is_index)⟩ F_is_couple b_is_couple F_is_index b_is_index GI
  have GP : FnOk P w K mg base CX0 4 f_found_places _ ["rows"] spPlaces := ok_places F_found_places ⟨TC, (PySem.W.mg_of X G a_is_doing), tL, (PySem.W.mg_of X G mL)⟩ F_is_doing b_is_doing GO
  have GC : FnOk P w K mg base CX0 2 f_copied_rows _ ["rows"] spCopy := ok_copy F_copied_rows ⟨TC, (PySem.W.mg_of X G a_is_listing), tH, (PySem.W.mg_of X G mH)⟩ F_is_listing b_is_listing
  have GK : ∀ Ck, FnOk P w K mg base CX0 4 f_found_clocks _ ["rows"] (spClocks Sl0 Ck) := fun Ck => (ok_clocks F_found_clocks ⟨TZ, (PySem.W.mg_of X G a_row_clocks)⟩ F_row_clocks b_row_clocks).mono (by decide)
  have GT : ∀ Ck, FnOk P w K mg base CX0 5 fTI _ ["self", "rows"] (spTInit CT Sl0 Ck) := fun Ck => ok_tinit FTI TT F_copied_rows b_copied_rows GC F_found_places b_found_places GP F_count_letters b_count_letters F_check_letters b_check_letters F_found_hands b_found_hands k_found_clocks b_found_clocks (GK Ck)
  have GQ : FnR P w K mg base CX0 1 fTE (spTEq K CT) := ((ok_teq FTE TT JT).raw bTE .nil).imp fun vs H Q E h => by rw [List.append_nil]; exact h
  exact ok_law F_law TLw F_law_begun b_law_begun GB F_law_draw b_law_draw GD F_law_each_right b_law_each_right GE ⟨mkT, a1T, i1T, kcT⟩ bTI GT TK GQ ⟨pgT, hdT, poT, saT⟩ n_rows
end Up

open PySem PySem.W PyProof.Rows
set_option maxRecDepth 100000 in
set_option maxHeartbeats 0 in
theorem PySem.Challenge.cw_uprightletters_k22_exceptions_of_the_fir_holds : PySem.Challenge.rw_uprightletters_k22_exceptions_of_the_fir.Holds := by
  w_on; o_law; k_head; (case hw => w_witness2)
  k_fill
  refine Up.walk_ofG (l := PySem.Challenge.rw_uprightletters_k22_exceptions_of_the_fir) (n := 63) (k := 7) (x := "script") (sp := fun K => Up.spLaw K) rfl (by decide) rfl ⟨rfl, by decide, by decide⟩ (fun w h Y => PySem.W.kIn_of Y) ?F (fun K H a ns hl hS => ⟨a, ns, rfl, hS, hl, fun _ => rfl⟩)
  case F =>
    intro w mg fa h KX G hmg
    refine' Up.all_mk KX G hmg ?z_int ?z_len ?z_range ?z_enumerate ?z_isinstance ?z_bool ?z_str ?z_list ?z_tuple ?z_max ?z_zip ?z_repr ?z_ValueError ?mH ?mL ?a_is_whole ?l_is_whole ?c_is_whole ?k_is_whole ?a_is_index ?l_is_index ?c_is_index ?k_is_index ?a_is_listing ?l_is_listing ?c_is_listing ?k_is_listing ?a_is_couple ?l_is_couple ?c_is_couple ?k_is_couple ?a_is_doing ?l_is_doing ?c_is_doing ?k_is_doing ?a_copied_rows ?l_copied_rows ?c_copied_rows ?k_copied_rows ?a_found_places ?l_found_places ?c_found_places ?k_found_places ?a_count_letters ?l_count_letters ?c_count_letters ?k_count_letters ?a_check_letters ?l_check_letters ?c_check_letters ?k_check_letters ?a_found_hands ?l_found_hands ?c_found_hands ?k_found_hands ?a_found_clocks ?l_found_clocks ?c_found_clocks ?k_found_clocks ?a_row_clocks ?l_row_clocks ?c_row_clocks ?k_row_clocks ?a_law_mixed ?l_law_mixed ?c_law_mixed ?k_law_mixed ?a_law_folded ?l_law_folded ?c_law_folded ?k_law_folded ?a_law_draw ?l_law_draw ?c_law_draw ?k_law_draw ?a_law_begun ?l_law_begun ?c_law_begun ?k_law_begun ?aCE ?iCE ?tCE ?sCE ?cn ?ct ?aC1 ?xL1 ?sax1 ?gax1 ?ggx1 ?nbx1 ?a1x1 ?t1x1 ?kCx1 ?eCx1 ?tCx1 ?hCx1 ?iCx1 ?cax1 ?cmx1 ?sEx1 ?sVx1 ?lx1 ?cx1 ?kx1 ?aC2 ?xL2 ?sax2 ?gax2 ?ggx2 ?nbx2 ?a1x2 ?t1x2 ?kCx2 ?eCx2 ?tCx2 ?hCx2 ?iCx2 ?cax2 ?cmx2 ?sEx2 ?sVx2 ?lx2 ?cx2 ?kx2 ?aC3 ?xL3 ?sax3 ?gax3 ?ggx3 ?nbx3 ?a1x3 ?t1x3 ?kCx3 ?eCx3 ?tCx3 ?hCx3 ?iCx3 ?cax3 ?cmx3 ?sEx3 ?sVx3 ?lx3 ?cx3 ?kx3 ?s11 ?s12 ?s13 ?s21 ?s22 ?s23 ?s31 ?s32 ?s33 ?aT ?pgT ?hdT ?poT ?saT ?mkT ?kcT ?caT ?cmT ?neT ?icT ?tyT ?sfT ?a1T ?i1T ?a2T ?i2T ?n_rows ?n_places ?n_many ?n_senders ?n_getters ?n_clocks ?lTI ?cTI ?kTI ?lTE ?cTE ?kTE ?u_NoneType ?v_NoneType ?w_NoneType ?u_int ?v_int ?w_int ?u_str ?v_str ?w_str ?u_list ?v_list ?w_list ?u_tuple ?v_tuple ?w_tuple ?u_dict ?v_dict ?w_dict ?a_law_each_right ?l_law_each_right ?c_law_each_right ?k_law_each_right ?a_law ?l_law ?c_law ?k_law
    (case z_int => k_is)
    (case z_len => k_is)
    (case z_range => k_is)
    (case z_enumerate => k_is)
    (case z_isinstance => k_is)
    (case z_bool => k_is)
    (case z_str => k_is)
    (case z_list => k_is)
    (case z_tuple => k_is)
    (case z_max => k_is)
    (case z_zip => k_is)
    (case z_repr => k_is)
    (case z_ValueError => k_is)
    (case mH => k_is)
    (case mL => k_is)
    (case a_is_whole => k_is)
    (case l_is_whole => k_is)
    (case c_is_whole => k_is)
    (case k_is_whole => k_is)
    (case a_is_index => k_is)
    (case l_is_index => k_is)
    (case c_is_index => k_is)
    (case k_is_index => k_is)
    (case a_is_listing => k_is)
    (case l_is_listing => k_is)
    (case c_is_listing => k_is)
    (case k_is_listing => k_is)
    (case a_is_couple => k_is)
    (case l_is_couple => k_is)
    (case c_is_couple => k_is)
    (case k_is_couple => k_is)
    (case a_is_doing => k_is)
    (case l_is_doing => k_is)
    (case c_is_doing => k_is)
    (case k_is_doing => k_is)
    (case a_copied_rows => k_is)
    (case l_copied_rows => k_is)
    (case c_copied_rows => k_is)
    (case k_copied_rows => k_is)
    (case a_found_places => k_is)
    (case l_found_places => k_is)
    (case c_found_places => k_is)
    (case k_found_places => k_is)
    (case a_count_letters => k_is)
    (case l_count_letters => k_is)
    (case c_count_letters => k_is)
    (case k_count_letters => k_is)
    (case a_check_letters => k_is)
    (case l_check_letters => k_is)
    (case c_check_letters => k_is)
    (case k_check_letters => k_is)
    (case a_found_hands => k_is)
    (case l_found_hands => k_is)
    (case c_found_hands => k_is)
    (case k_found_hands => k_is)
    (case a_found_clocks => k_is)
    (case l_found_clocks => k_is)
    (case c_found_clocks => k_is)
    (case k_found_clocks => k_is)
    (case a_row_clocks => k_is)
    (case l_row_clocks => k_is)
    (case c_row_clocks => k_is)
    (case k_row_clocks => k_is)
    (case a_law_mixed => k_is)
    (case l_law_mixed => k_is)
    (case c_law_mixed => k_is)
    (case k_law_mixed => k_is)
    (case a_law_folded => k_is)
    (case l_law_folded => k_is)
    (case c_law_folded => k_is)
    (case k_law_folded => k_is)
    (case a_law_draw => k_is)
    (case l_law_draw => k_is)
    (case c_law_draw => k_is)
    (case k_law_draw => k_is)
    (case a_law_begun => k_is)
    (case l_law_begun => k_is)
    (case c_law_begun => k_is)
    (case k_law_begun => k_is)
    (case aCE => k_is)
    (case iCE => k_is)
    (case tCE => k_is)
    (case sCE => k_is)
    (case cn => k_is)
    (case ct => k_is)
    (case aC1 => k_is)
    (case xL1 => k_is)
    (case sax1 => k_is)
    (case gax1 => k_is)
    (case ggx1 => k_is)
    (case nbx1 => k_is)
    (case a1x1 => k_is)
    (case t1x1 => k_is)
    (case kCx1 => k_is)
    (case eCx1 => k_is)
    (case tCx1 => k_is)
    (case hCx1 => k_is)
    (case iCx1 => k_is)
    (case cax1 => k_is)
    (case cmx1 => k_is)
    (case sEx1 => k_is)
    (case sVx1 => k_is)
    (case lx1 => k_is)
    (case cx1 => k_is)
    (case kx1 => k_is)
    (case aC2 => k_is)
    (case xL2 => k_is)
    (case sax2 => k_is)
    (case gax2 => k_is)
    (case ggx2 => k_is)
    (case nbx2 => k_is)
    (case a1x2 => k_is)
    (case t1x2 => k_is)
    (case kCx2 => k_is)
    (case eCx2 => k_is)
    (case tCx2 => k_is)
    (case hCx2 => k_is)
    (case iCx2 => k_is)
    (case cax2 => k_is)
    (case cmx2 => k_is)
    (case sEx2 => k_is)
    (case sVx2 => k_is)
    (case lx2 => k_is)
    (case cx2 => k_is)
    (case kx2 => k_is)
    (case aC3 => k_is)
    (case xL3 => k_is)
    (case sax3 => k_is)
    (case gax3 => k_is)
    (case ggx3 => k_is)
    (case nbx3 => k_is)
    (case a1x3 => k_is)
    (case t1x3 => k_is)
    (case kCx3 => k_is)
    (case eCx3 => k_is)
    (case tCx3 => k_is)
    (case hCx3 => k_is)
    (case iCx3 => k_is)
    (case cax3 => k_is)
    (case cmx3 => k_is)
    (case sEx3 => k_is)
    (case sVx3 => k_is)
    (case lx3 => k_is)
    (case cx3 => k_is)
    (case kx3 => k_is)
    (case s11 => k_is)
    (case s12 => k_is)
    (case s13 => k_is)
    (case s21 => k_is)
    (case s22 => k_is)
    (case s23 => k_is)
    (case s31 => k_is)
    (case s32 => k_is)
    (case s33 => k_is)
    (case aT => k_is)
    (case pgT => k_is)
    (case hdT => k_is)
    (case poT => k_is)
    (case saT => k_is)
    (case mkT => k_is)
    (case kcT => k_is)
    (case caT => k_is)
    (case cmT => k_is)
    (case neT => k_is)
    (case icT => k_is)
    (case tyT => k_is)
    (case sfT => k_is)
    (case a1T => k_is)
    (case i1T => k_is)
    (case a2T => k_is)
    (case i2T => k_is)
    (case n_rows => k_is)
    (case n_places => k_is)
    (case n_many => k_is)
    (case n_senders => k_is)
    (case n_getters => k_is)
    (case n_clocks => k_is)
    (case lTI => k_is)
    (case cTI => k_is)
    (case kTI => k_is)
    (case lTE => k_is)
    (case cTE => k_is)
    (case kTE => k_is)
    (case u_NoneType => k_is)
    (case v_NoneType => k_is)
    (case w_NoneType => k_is)
    (case u_int => k_is)
    (case v_int => k_is)
    (case w_int => k_is)
    (case u_str => k_is)
    (case v_str => k_is)
    (case w_str => k_is)
    (case u_list => k_is)
    (case v_list => k_is)
    (case w_list => k_is)
    (case u_tuple => k_is)
    (case v_tuple => k_is)
    (case w_tuple => k_is)
    (case u_dict => k_is)
    (case v_dict => k_is)
    (case w_dict => k_is)
    (case a_law_each_right => k_is)
    (case l_law_each_right => k_is)
    (case c_law_each_right => k_is)
    (case k_law_each_right => k_is)
    (case a_law => k_is)
    (case l_law => k_is)
    (case c_law => k_is)
    (case k_law => k_is)
#print axioms PySem.Challenge.cw_uprightletters_k22_exceptions_of_the_fir_holds
