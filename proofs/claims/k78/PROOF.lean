import PyProof.Rows.All
import Wide.All
import OpenK.AllK
import Wide.FinOn
import HandS.ForMost
import HandS.Walk
import HandS.Zip
import HandS.List
import KE.GoesEnum
import KE.GoesZip
import KE.GoesMore
import PySem.Challenge.RW_uprightletters_k78_exceptions_of_both_pa
import HandS.IsInst
import HandS.SortKw
import PyProof.ReprRoads
import KE.DatumOrd
import HandS.ForExc
import HandS.ExcInit
import HandS.ExcValue
import KE.KExcIs
import HandS.Codes
import HandS.TupLen
import PyProof.EqKinds
import PyProof.InstEq
import HandS.OwnEq
import HandS.More
import HandS.SlotsOwn
import HandS.DictTup
import HandS.Strs
import HandS.TupAny
import HandS.Star
import HandS.TupSets
import KE.KSetDisp
import KE.GoesSet
import HandS.SetFor
import HandS.MakeKwOnly
import HandS.TupLe
import HandS.New
import KE.KExcInit
import HandS.Ends
set_option Elab.async false
set_option linter.all false
set_option maxRecDepth 100000
set_option maxHeartbeats 4000000
/-! rules of my own: enumerate of a tuple, zip of a list and a tuple -/
namespace PySem
namespace UpR
set_option maxHeartbeats 2000000 in
/-- what enumerate's maker meets when it is handed one thing that begins to be walked -/
theorem enum1_meets {v : Value} {o : Obj} {G : Heap → Prop} (B : Begins v o G) :
    Meets (Builtin.«enumerate.__new__» ⟨[.type "enumerate", v], []⟩) (fun _ R st => G st.heap ∧
      R (.ok (.ret (.ref (st.heap.push o).objs.size)))
        { st with heap := (st.heap.push o).push { cls := .type "enumerate", data := .fields #[.none, .bool false, .ref st.heap.objs.size, rawInt 0, .none, .none] } }) :=
  .of_wp fun prog w A R st hh => by
    obtain ⟨p0, gn, dw, tok, fs⟩ := st
    obtain ⟨hG, hR⟩ := hh
    have sub1 := sub_enumerate
    have it1 : ∀ {A' : Around} {E : Value → Shared → Prop} {Q : Value → Shared → Prop}, Q (.ref p0.objs.size) ⟨p0.push o, gn, dw, tok, fs⟩ → wpAny (model prog w) A' (pyIter v) Q E ⟨p0, gn, dw, tok, fs⟩ :=
      fun hq => B.iter prog w _ _ ⟨p0, gn, dw, tok, fs⟩ _ hG hq
    wp_walk using it1
    refine wpAny_stack_any fun stk => wpAny_pure ?_
    split
    · rename_i cc _ _ _ _ _
      cases (cc == Value.type "enumerate")
      all_goals
        wp_walk using it1
        exact ⟨_, rfl, hR⟩
    · wp_walk using it1
      exact ⟨_, rfl, hR⟩
theorem enum1_begins {prog : Program} {w : World} {A : Around} {E : Value → Shared → Prop} {st : Shared} {v : Value} {o : Obj} {G : Heap → Prop} {Q : Value → Shared → Prop} (B : Begins v o G) (hG : G st.heap)
    (hh : ∀ h', IsEnum h' (st.heap.objs.size + 1) st.heap.objs.size 0 .none → h'.get? st.heap.objs.size = some o → h'.objs.size = st.heap.objs.size + 2 →
      (∀ b u, st.heap.get? b = some u → h'.get? b = some u) → Q (.ref (st.heap.objs.size + 1)) { st with heap := h' }) :
    wpAny (model prog w) A (call (.type "enumerate") [v]) Q E st := by
  refine callType_new F.called_enumerate (by decide) (F.typeCall_enumerate_1 _) (F.newCall_enumerate_1 _) (fun obj => F.args_object_init_2 obj _) F.entry_enumerate_new (enum1_meets B) ⟨hG, ?_⟩
  have sz : (st.heap.push o).objs.size = st.heap.objs.size + 1 := Heap.size_push ..
  show _ ∧ _
  rw [sz]
  have en : IsEnum ((st.heap.push o).push { cls := .type "enumerate", data := .fields #[.none, .bool false, .ref st.heap.objs.size, rawInt 0, .none, .none] }) (st.heap.objs.size + 1) st.heap.objs.size 0 .none := by
    have t := Heap.get?_push_size (st.heap.push o) (o := { cls := .type "enumerate", data := .fields #[.none, .bool false, .ref st.heap.objs.size, rawInt 0, .none, .none] }) rfl
    rw [sz] at t
    exact t
  exact ⟨⟨_, en, rfl⟩, hh _ en (Heap.get?_push_of_some _ (Heap.get?_push_size _ B.free)) (by rw [Heap.size_push, sz]) fun b u e => Heap.get?_push_of_some _ (Heap.get?_push_of_some _ e)⟩
end UpR
end PySem
namespace Up
open PySem PySem.Spec PyProof.Rows L2
/-- the tuple at a, each item in a new pair behind its number -/
def IeT (K : PySem.W.Frag) (a : Addr) : It :=
  ⟨fun i H => ∃ (xs : List V) (x : V), SqT K H a xs ∧ xs[i]? = some x,
   fun i H v H' => ∃ U x, v = .ref U ∧ H U = none ∧ H' = upd H U (.tup [.int (i : Nat), x]) ∧ ∀ xs, SqT K H a xs → xs[i]? = some x,
   fun i H => ∃ xs : List V, SqT K H a xs ∧ xs.length = i⟩
theorem turn_eT {P : Program} {w : World} {K : PySem.W.Frag} {elts : List Expr} {kk : Nat} {tp : Pos} (a e it : Addr) :
    Turn P w K (.Tuple elts kk tp) (IeT K a) [e, it] e (fun i h => (∃ old, IsEnum h e it ((i : Nat) : Int) old) ∧ h.IsTupleIter it a i ∧ e ≠ it ∧ e ≠ a ∧ a ≠ it) where
  mem := List.mem_cons_self ..
  obj := fun i h st b hb => by
    obtain ⟨⟨old, he⟩, ⟨o, ho, _, hd⟩, _⟩ := st
    rcases (show b = e ∨ b = it by simpa using hb) with z | z
    · rw [z]
      exact ⟨_, he, fun v q => nomatch q⟩
    · rw [z]
      exact ⟨o, ho, fun v q => by rw [hd] at q; cases q⟩
  keep := fun i h h' st k => by
    obtain ⟨⟨old, he⟩, hi, ne⟩ := st
    exact ⟨⟨old, k e (by simp) _ he⟩, hi.at fun o q => k it (by simp) o q, ne⟩
  item := by
    intro X hP hw hK hc i pins s σ H E I hf st hg
    subst hP hw hK
    obtain ⟨⟨old, he⟩, hit, nei, nea, nai⟩ := st
    obtain ⟨xs, x, hq, hx⟩ := hg
    obtain ⟨its, rv, p, _⟩ := I.tuple hq
    obtain ⟨u, hu, ru⟩ := rv.get hx
    have hlt : i < its.toArray.size := by
      rcases Nat.lt_or_ge i its.toArray.size with z | z
      · exact z
      · simp at z
        rw [List.getElem?_eq_none z] at hu
        cases hu
    have el : e < s.heap.objs.size := Heap.lt_size he
    have il : it < s.heap.objs.size := by
      obtain ⟨_, q, _⟩ := hit
      exact Heap.lt_size q
    refine wpAny_pyNext_enum_itemD (Draws.tuple (A := X.A.in1) (I.ok.hd hc) it a nai its.toArray) he ⟨hit, p⟩ hlt nei (by simp [nei, nea]) fun x2 h' tk hx2 ho hit' hU hsz hk => ?_
    have ex2 : x2 = u := by
      have z : its[i]? = some x2 := by simpa using hx2
      exact Option.some.inj (z.symm.trans hu)
    subst ex2
    refine ⟨_, rfl, wpAny_letOwnedTupleGo_enum (s := { s with heap := h', toks := tk + 1 }) ho fun h2 he2 sb => ?_⟩
    have hU2 : h2.get? s.heap.objs.size = some { cls := .type "tuple", data := .seq #[.int i tk, x2] } := (sb.2 _ (Nat.ne_of_gt el)).trans hU
    have new : ObjOk X.prog X.w (upd H s.heap.objs.size (.tup [.int (i : Nat), x])) h2 s.heap.objs.size (.tup [.int (i : Nat), x]) :=
      ⟨by show 2 ≤ sizeLine; decide, [.int i tk, x2], .cons ⟨_, rfl⟩ (.cons ru .nil), ⟨_, hU2, rfl, _, rfl⟩⟩
    have J : Inv X pins σ (upd H s.heap.objs.size (.tup [.int (i : Nat), x])) { s with heap := h2, toks := tk + 1 } :=
      I.turnedNew (ch := [e, it]) (fun b ob hb q => (sb.2 b (fun z => hb (by simp [z]))).trans (hk b ob (fun z => hb (by simp [z])) (fun z => hb (by simp [z])) q)) hf (Nat.le_refl _) new
    refine ⟨.ref s.heap.objs.size, _, J, rfl, ⟨_, x, rfl, I.hok.fresh (Nat.le_refl _), rfl, fun ys hy => by rw [I.tuple_inj hy hq]; exact hx⟩, ⟨⟨x2, ?_⟩, hit'.1.at fun o q => (sb.2 it nei.symm).trans q, nei, nea, nai⟩, fun b hb => ?_⟩
    · have e1 : ((i + 1 : Nat) : Int) = (i : Int) + 1 := by omega
      rw [e1]
      exact he2
    · have lb : b < s.heap.objs.size := by
        rcases (show b = e ∨ b = it by simpa using hb) with z | z
        · exact z ▸ el
        · exact z ▸ il
      rw [upd_ne (Nat.ne_of_lt lb)]
      exact (hf b hb).1
  done := by
    intro X hP hw hK hc i pins s σ H E I hf st hg
    subst hP hw hK
    obtain ⟨⟨old, he⟩, hit, nei, nea, nai⟩ := st
    obtain ⟨xs, hq, hx⟩ := hg
    obtain ⟨its, rv, p, _⟩ := I.tuple hq
    obtain ⟨f0, f1, f2, f3, f4, f5⟩ := hf it (by simp)
    have hl := rv.length
    have sz : its.toArray.size = i := by
      rw [List.size_toArray]
      omega
    exact wpAny_pyNext_enum_endD (Draws.tuple (A := X.A.in1) (I.ok.hd hc) it a nai its.toArray) he (by rw [sz]; exact ⟨hit, p⟩) fun h' eb => ⟨rfl, I.turned (t' := s.toks) (fun b o hb q => eb b o hb q) f0 f1 f3 f4 f5⟩
  self := fun A i s Q E st h => let ⟨⟨_, he⟩, _⟩ := st; wpAny_pyIter_enum he h
def iEnT (K : PySem.W.Frag) (ta : TA) : TI := fun σ H R => ta σ H fun vs H1 => ∃ a xs, vs = [.ref a] ∧ SqT K H1 a xs ∧ R (IeT K a) H1
theorem pi_enT {X : Cx} {e : Expr} {ta : TA} {p pos tp : Pos} {elts : List Expr} {kk : Nat} (hg : Gl X "enumerate") (hm : X.mg "enumerate" = none) (ha : PA X [e] ta) (hs : starEach [e] X.env = [(false, eval e X.env)] := by rfl) :
    PI X (.Tuple elts kk tp) (.Call (.Name "enumerate" p) [e] [] pos) (iEnT X.K ta) := by
  refine ⟨fun pins s σ H R I h => ?_⟩
  refine Call_ (ld_blt I hg hm boot_enumerate (PyProof.Rows.callWith_type1 (thn (ha.run pos pins s σ H _ I h) fun us s1 ⟨vs, H1, I1, r1, q1⟩ => ?_) hs rfl))
  obtain ⟨a, xs, rfl, hq, q⟩ := q1
  cases r1 with
  | cons r rr =>
    cases rr
    cases r
    obtain ⟨its, rv, pt, _⟩ := I1.tuple hq
    have la : a < s1.heap.objs.size := by
      obtain ⟨o, ho, _⟩ := id pt
      exact Heap.lt_size ho
    refine PySem.UpR.enum1_begins (begins_tuple a its.toArray) pt fun h' he hit hsz hk => wpAny_pyIter_enum he ?_
    have I2 : Inv X pins σ H1 { s1 with heap := h' } := I1.kept (t' := s1.toks) hk
    refine ⟨s1.heap.objs.size + 1, [s1.heap.objs.size + 1, s1.heap.objs.size], _, _, H1, rfl, I2, turn_eT a (s1.heap.objs.size + 1) s1.heap.objs.size, ⟨⟨.none, he⟩, ⟨_, hit, rfl, rfl⟩, Nat.succ_ne_self _, ?_, ?_⟩, fun b hb => ?_, q⟩
    · exact Nat.ne_of_gt (Nat.lt_succ_of_lt la)
    · exact Nat.ne_of_lt la
    · have hle : s1.heap.objs.size ≤ b := by
        rcases (show b = s1.heap.objs.size + 1 ∨ b = s1.heap.objs.size by simpa using hb) with z | z
        · rw [z]
          exact Nat.le_succ _
        · exact Nat.le_of_eq z.symm
      exact I1.fpOk hle (I1.hok.fresh hle)
/-- a list at a beside a tuple at b, the items in new pairs -/
def IzM (K : PySem.W.Frag) (a b : Addr) : It :=
  ⟨fun i H => ∃ (xs ys : List V) (x y : V), SqL K H a xs ∧ SqT K H b ys ∧ xs[i]? = some x ∧ ys[i]? = some y,
   fun i H v H' => ∃ U x y, v = .ref U ∧ H U = none ∧ H' = upd H U (.tup [x, y]) ∧ (∀ xs, SqL K H a xs → xs[i]? = some x) ∧ ∀ ys, SqT K H b ys → ys[i]? = some y,
   fun i H => ∃ xs ys : List V, SqL K H a xs ∧ SqT K H b ys ∧ i ≤ xs.length ∧ i ≤ ys.length ∧ (i = xs.length ∨ i = ys.length)⟩
theorem no2 {x y z : Addr} (h1 : x ≠ y) (h2 : x ≠ z) : x ∉ ([y, z] : List Addr) := by simp [h1, h2]
theorem nij (n i j : Nat) (h : i ≠ j) : n + i ≠ n + j := by omega
theorem ni0 (n i : Nat) (h : i ≠ 0) : n + i ≠ n := by omega
theorem nik (n i k : Nat) (h : k < n) : n + i ≠ k := by omega
theorem n0j (n j : Nat) (h : j ≠ 0) : n ≠ n + j := by omega
theorem n0k (n k : Nat) (h : k < n) : n ≠ k := by omega
theorem sep_num (n k l : Nat) (h1 : k < n) (h2 : l < n) : ZipSep2 (n + 4) (n + 2) (n + 3) n (n + 1) [n, k] [n + 1, l] where
  TIz := nij n 2 4 (by decide)
  TOz := nij n 3 4 (by decide)
  TITO := nij n 2 3 (by decide)
  TIi1 := ni0 n 2 (by decide)
  mem1 := List.mem_cons_self ..
  zf1 := no2 (ni0 n 4 (by decide)) (nik n 4 k h1)
  Tf1 := no2 (ni0 n 3 (by decide)) (nik n 3 k h1)
  TIi2 := nij n 2 1 (by decide)
  mem2 := List.mem_cons_self ..
  zf2 := no2 (nij n 4 1 (by decide)) (nik n 4 l h2)
  Tf2 := no2 (nij n 3 1 (by decide)) (nik n 3 l h2)
  sep1_2 := no2 (n0j n 1 (by decide)) (n0k n l h2)
  sep2_1 := no2 (ni0 n 1 (by decide)) (nik n 1 k h1)
theorem turn_zM {P : Program} {w : World} {K : PySem.W.Frag} {elts : List Expr} {kk : Nat} {tp : Pos} {a b z TI TO i1 i2 : Addr} (S : ZipSep2 z TI TO i1 i2 [i1, a] [i2, b]) :
    Turn P w K (.Tuple elts kk tp) (IzM K a b) [z, TI, TO, i1, i2] z (fun i h => IsZip h z TI TO .none ∧ IsTupOf2 h TI (.ref i1) (.ref i2) ∧ (∃ x y, IsTupOf2 h TO x y) ∧ h.IsListIter i1 a i ∧ h.IsTupleIter i2 b i ∧ a ≠ i1 ∧ b ≠ i2) where
  mem := List.mem_cons_self ..
  obj := fun i h st c hc => by
    obtain ⟨hz, hTI, ⟨x, y, hTO⟩, ⟨o1, e1, _, d1⟩, ⟨o2, e2, _, d2⟩, _⟩ := st
    rcases (show c = z ∨ c = TI ∨ c = TO ∨ c = i1 ∨ c = i2 by simpa using hc) with q | q | q | q | q <;> rw [q]
    · exact ⟨_, hz, fun v q => nomatch q⟩
    · exact ⟨_, hTI, fun v q => nomatch q⟩
    · exact ⟨_, hTO, fun v q => nomatch q⟩
    · exact ⟨o1, e1, fun v q => by rw [d1] at q; cases q⟩
    · exact ⟨o2, e2, fun v q => by rw [d2] at q; cases q⟩
  keep := fun i h h' st k => by
    obtain ⟨hz, hTI, ⟨x, y, hTO⟩, h1, h2, ne⟩ := st
    exact ⟨k z (by simp) _ hz, k TI (by simp) _ hTI, ⟨x, y, k TO (by simp) _ hTO⟩, h1.at fun o q => k i1 (by simp) o q, h2.at fun o q => k i2 (by simp) o q, ne⟩
  item := by
    intro X hP hw hK hc i pins s σ H E I hf st hg
    subst hP hw hK
    obtain ⟨hz, hTI, ⟨x0, y0, hTO⟩, h1, h2, na, nb⟩ := st
    obtain ⟨xs, ys, x, y, qx, qy, ex, ey⟩ := hg
    obtain ⟨its, rv, p, _⟩ := I.list qx
    obtain ⟨jts, rw2, p2, _⟩ := I.tuple qy
    obtain ⟨u, hu, ru⟩ := rv.get ex
    obtain ⟨v, hv, rvv⟩ := rw2.get ey
    have l1 : i < its.toArray.size := by
      rw [List.size_toArray]
      exact (List.getElem?_eq_some_iff.mp hu).1
    have l2 : i < jts.toArray.size := by
      rw [List.size_toArray]
      exact (List.getElem?_eq_some_iff.mp hv).1
    have lz : z < s.heap.objs.size := Heap.lt_size hz
    have hd1 : X.A.in1.handled = none := I.ok.hd hc
    refine wpAny_pyNext_zipD2_item S (Draws.list (A := X.A.in1) hd1 i1 a na its.toArray) (Draws.tuple (A := X.A.in1) hd1 i2 b nb jts.toArray) hz hTI hTO ⟨h1, p.isList⟩ ⟨h2, p2⟩ l1 l2 fun u2 v2 h' tk eu ev z' TO' g1 g2 hU hsz hk => ?_
    have eu2 : u2 = u := by
      have t : its[i]? = some u2 := by simpa using eu
      exact Option.some.inj (t.symm.trans hu)
    have ev2 : v2 = v := by
      have t : jts[i]? = some v2 := by simpa using ev
      exact Option.some.inj (t.symm.trans hv)
    subst eu2 ev2
    refine ⟨_, rfl, wpAny_letOwnedTupleGo_zip (s := { s with heap := h', toks := tk }) z' fun k2 z2 sb => ?_⟩
    have hU2 : k2.get? s.heap.objs.size = some { cls := .type "tuple", data := .seq #[u2, v2] } := (sb.2 _ (Nat.ne_of_gt lz)).trans hU
    have new : ObjOk X.prog X.w (upd H s.heap.objs.size (.tup [x, y])) k2 s.heap.objs.size (.tup [x, y]) :=
      ⟨by show 2 ≤ sizeLine; decide, [u2, v2], .cons ru (.cons rvv .nil), ⟨_, hU2, rfl, _, rfl⟩⟩
    have J : Inv X pins σ (upd H s.heap.objs.size (.tup [x, y])) { s with heap := k2, toks := tk } :=
      I.turnedNew (ch := [z, TI, TO, i1, i2]) (fun c o hb q => (sb.2 c (fun t => hb (by simp [t]))).trans (hk c o (fun t => hb (by simp [t])) (fun t => hb (by simp [t])) (fun t => hb (by simp [t])) (fun t => hb (by simp [t])) q)) hf (Nat.le_refl _) new
    refine ⟨.ref s.heap.objs.size, _, J, rfl, ⟨_, x, y, rfl, I.hok.fresh (Nat.le_refl _), rfl, fun l hl => by rw [I.list_inj hl qx]; exact ex, fun l hl => by rw [I.tuple_inj hl qy]; exact ey⟩, ⟨z2, ?_, ⟨u2, v2, ?_⟩, ?_, ?_, na, nb⟩, fun c hcm => ?_⟩
    · exact (sb.2 _ S.TIz).trans (hk _ _ S.TIz S.TITO S.TIi1 S.TIi2 hTI)
    · exact (sb.2 _ S.TOz).trans TO'
    · exact g1.1.at fun o q => (sb.2 _ S.zi1.symm).trans q
    · exact g2.1.at fun o q => (sb.2 _ S.zi2.symm).trans q
    · have lt : c < s.heap.objs.size := by
        rcases (show c = z ∨ c = TI ∨ c = TO ∨ c = i1 ∨ c = i2 by simpa using hcm) with q | q | q | q | q <;> rw [q]
        · exact lz
        · exact Heap.lt_size hTI
        · exact Heap.lt_size hTO
        · obtain ⟨_, e1, _⟩ := h1
          exact Heap.lt_size e1
        · obtain ⟨_, e2, _⟩ := h2
          exact Heap.lt_size e2
      rw [upd_ne (Nat.ne_of_lt lt)]
      exact (hf c hcm).1
  done := by
    intro X hP hw hK hc i pins s σ H E I hf st hg
    subst hP hw hK
    obtain ⟨hz, hTI, ⟨x0, y0, hTO⟩, h1, h2, na, nb⟩ := st
    obtain ⟨xs, ys, qx, qy, le1, le2, hend⟩ := hg
    obtain ⟨its, rv, p, _⟩ := I.list qx
    obtain ⟨jts, rw2, p2, _⟩ := I.tuple qy
    have hd1 : X.A.in1.handled = none := I.ok.hd hc
    have s1 : its.toArray.size = xs.length := by rw [List.size_toArray, rv.length]
    have s2 : jts.toArray.size = ys.length := by rw [List.size_toArray, rw2.length]
    exact wpAny_pyNext_zipD2_end S (Draws.list (A := X.A.in1) hd1 i1 a na its.toArray) (Draws.tuple (A := X.A.in1) hd1 i2 b nb jts.toArray) hz hTI hTO ⟨h1, p.isList⟩ ⟨h2, p2⟩ (by omega) (by omega) (by omega) fun h' tk hk =>
      ⟨rfl, I.turnedL (ch := [z, TI, TO, i1, i2]) (fun c o hb q => hk c o (fun t => hb (by simp [t])) (fun t => hb (by simp [t])) (fun t => hb (by simp [t])) (fun t => hb (by simp [t])) q) hf⟩
  self := fun A i s Q E st h => wpAny_pyIter_zip st.1 h
def iZpM (K : PySem.W.Frag) (ta : TA) : TI := fun σ H R => ta σ H fun vs H1 => ∃ a b xs ys, vs = [.ref a, .ref b] ∧ SqL K H1 a xs ∧ SqT K H1 b ys ∧ R (IzM K a b) H1
theorem pi_zpM {X : Cx} {e e2 : Expr} {ta : TA} {p pos tp : Pos} {elts : List Expr} {kk : Nat} (hg : Gl X "zip") (hm : X.mg "zip" = none) (ha : PA X [e, e2] ta)
    (hs : starEach [e, e2] X.env = (false, eval e X.env) :: starEach [e2] X.env := by rfl) (hpl : (backTo pos (starEach [e2] X.env)).any (·.1) = false := by rfl) :
    PI X (.Tuple elts kk tp) (.Call (.Name "zip" p) [e, e2] [] pos) (iZpM X.K ta) := by
  refine ⟨fun pins s σ H R I h => ?_⟩
  refine Call_ (ld_blt I hg hm PyProof.Rows.boot_zip (PyProof.Rows.callWith_type1 (thn (ha.run pos pins s σ H _ I h) fun us s1 ⟨vs, H1, I1, r1, q1⟩ => ?_) hs hpl))
  obtain ⟨a, b, xs, ys, rfl, qx, qy, q⟩ := q1
  cases r1 with
  | cons r rr =>
    cases rr with
    | cons r' rr =>
      cases rr
      cases r
      cases r'
      obtain ⟨its, rv, p1, _⟩ := I1.list qx
      obtain ⟨jts, rw2, p2, _⟩ := I1.tuple qy
      have la : a < s1.heap.objs.size := p1.lt
      have lb : b < s1.heap.objs.size := by
        obtain ⟨o2, ho2, _⟩ := id p2
        exact Heap.lt_size ho2
      refine zip_begins2 (begins_list a its.toArray) (begins_tuple b jts.toArray) p1.isList p2 fun h' hz hTI hTO g1 g2 hsz hk => wpAny_pyIter_zip hz ?_
      have I2 : Inv X pins σ H1 { s1 with heap := h' } := I1.kept (t' := s1.toks) hk
      refine ⟨s1.heap.objs.size + 4, [s1.heap.objs.size + 4, s1.heap.objs.size + 2, s1.heap.objs.size + 3, s1.heap.objs.size, s1.heap.objs.size + 1], _, _, H1, rfl, I2, turn_zM (sep_num _ _ _ la lb), ⟨hz, hTI, ⟨_, _, hTO⟩, ⟨_, g1, rfl, rfl⟩, ⟨_, g2, rfl, rfl⟩, Nat.ne_of_lt la, Nat.ne_of_lt (Nat.lt_succ_of_lt lb)⟩, fun c hcm => ?_, q⟩
      have hle : s1.heap.objs.size ≤ c := by
        rcases (show c = s1.heap.objs.size + 4 ∨ c = s1.heap.objs.size + 2 ∨ c = s1.heap.objs.size + 3 ∨ c = s1.heap.objs.size ∨ c = s1.heap.objs.size + 1 by simpa using hcm) with t | t | t | t | t <;> rw [t]
        · exact Nat.le_add_right _ _
        · exact Nat.le_add_right _ _
        · exact Nat.le_add_right _ _
        · exact Nat.le_refl _
        · exact Nat.le_add_right _ _
      exact I1.fpOk hle (I1.hok.fresh hle)
theorem walk_zM {K : PySem.W.Frag} {a b : Addr} {xs ys : List V} {n : Nat} (hn : n = min xs.length ys.length) : Walk (IzM K a b) n (fun H => SqL K H a xs ∧ SqT K H b ys) (YPair (fun i => xs[i]?) (fun i => ys[i]?)) := by
  subst hn
  refine ⟨fun i _ hi q => ?_, fun _ q => ⟨xs, ys, q.1, q.2, by omega, by omega, by omega⟩, fun i H v H' _ q y => ?_⟩
  · have g1 : i < xs.length := by omega
    have g2 : i < ys.length := by omega
    exact ⟨xs, ys, xs[i], ys[i], q.1, q.2, by simp [g1], by simp [g2]⟩
  · obtain ⟨U, x, z, h1, h2, h3, h4, h5⟩ := y
    exact ⟨U, x, z, h1, h2, h3, h4 xs q.1, h5 ys q.2⟩
theorem walk_enT {K : PySem.W.Frag} {a : Addr} {xs : List V} : Walk (IeT K a) xs.length (fun H => SqT K H a xs) (YPair (fun i => some (.int (i : Nat))) (fun i => xs[i]?)) := by
  refine ⟨fun i _ hi q => ⟨xs, xs[i], q, by simp [hi]⟩, fun _ q => ⟨xs, q, rfl⟩, fun i H v H' _ q y => ?_⟩
  obtain ⟨U, x, h1, h2, h3, h4⟩ := y
  exact ⟨U, .int (i : Nat), x, h1, h2, h3, rfl, h4 xs q⟩
/-- a list or a tuple at a -/
def LTa (K : PySem.W.Frag) (H : Hp) (a : Addr) (xs : List V) : Prop := SqL K H a xs ∨ SqT K H a xs
def SeqW (K : PySem.W.Frag) (H : Hp) (a : Addr) (R : It → Hp → Prop) : Prop := (∃ xs, SqL K H a xs ∧ R (Itl K a) H) ∨ ∃ xs, SqT K H a xs ∧ R (Itt K a) H
def iSeq (K : PySem.W.Frag) (tl : TE) : TI := fun σ H R => tl σ H fun x H1 => ∃ a, x = .ref a ∧ SeqW K H1 a R
/-- what is walked is a list or a tuple -/
theorem pi_seq {X : Cx} {tg l : Expr} {tl : TE} (hl : PE X l tl) : PI X tg l (iSeq X.K tl) := by
  refine ⟨fun pins s σ H R I h => thn (hl.run pins s σ H _ I h) fun v s1 ⟨x, H1, I1, r1, a, e, q1⟩ => ?_⟩
  subst e
  cases r1
  have fp1 : ∀ b ∈ [s1.heap.objs.size], FpOk X pins H1 b := fun b hb => by
    obtain rfl : b = s1.heap.objs.size := by simpa using hb
    exact I1.fpOk (Nat.le_refl _) (I1.hok.fresh (Nat.le_refl _))
  rcases q1 with ⟨xs, hq, q⟩ | ⟨xs, hq, q⟩
  · obtain ⟨its, rv, p, _⟩ := I1.list hq
    exact wpAny_pyIter_list p.isList ⟨s1.heap.objs.size, [s1.heap.objs.size], _, _, H1, rfl, I1.kept (t' := s1.toks) fun b o e => Heap.get?_push_of_some _ e, turn_list a _, ⟨_, Heap.get?_push_size _ rfl, rfl, rfl⟩, fp1, q⟩
  · obtain ⟨its, rv, p, _⟩ := I1.tuple hq
    exact wpAny_pyIter_tuple (show s1.heap.IsTuple a its.toArray from p) ⟨s1.heap.objs.size, [s1.heap.objs.size], _, _, H1, rfl, I1.kept (t' := s1.toks) fun b o e => Heap.get?_push_of_some _ e, turn_tuple a _, ⟨_, Heap.get?_push_size _ rfl, rfl, rfl⟩, fp1, q⟩
theorem seqT_same {K : PySem.W.Frag} {H H' : Hp} {a : Addr} {xs : List V} (e : Same H H') (h : SqT K H a xs) : SqT K H' a xs := by
  rcases h with (h | ⟨o, h⟩) | h
  · exact .inl (.inl (e _ _ h))
  · exact .inl (.inr ⟨o, e _ _ h⟩)
  · exact .inr h
theorem LTa.same {K : PySem.W.Frag} {H H' : Hp} {a : Addr} {xs : List V} (e : Same H H') (h : LTa K H a xs) : LTa K H' a xs := h.imp e.seq (seqT_same e)
/-- its walk, whichever it is: G stands while nothing that is tracked changes -/
theorem seq_of {K : PySem.W.Frag} {H : Hp} {a : Addr} {xs : List V} {R : It → Hp → Prop} (h : LTa K H a xs)
    (k : ∀ (J : It) (G : Hp → Prop), Walk J xs.length G (YAt xs) → (∀ H', Same H H' → G H') → R J H) : SeqW K H a R := by
  rcases h with h | h
  · exact .inl ⟨xs, h, k _ _ walk_list fun H' e => e.seq h⟩
  · exact .inr ⟨xs, h, k _ _ walk_tup fun H' e => seqT_same e h⟩
/-! ### rules where the written part is named: within a comprehension -/
theorem bt_int : bootBuiltins "int" = some (.type "int") := by decide +kernel
theorem bt_bool : bootBuiltins "bool" = some (.type "bool") := by decide +kernel
theorem bt_str : bootBuiltins "str" = some (.type "str") := by decide +kernel
theorem bt_list : bootBuiltins "list" = some (.type "list") := by decide +kernel
theorem bt_tuple : bootBuiltins "tuple" = some (.type "tuple") := by decide +kernel
theorem bb_isinstance : bootBuiltins "isinstance" = some (.builtin "isinstance") := by decide +kernel
theorem bb_max : bootBuiltins "max" = some (.builtin "max") := by decide +kernel
theorem bb_min : bootBuiltins "min" = some (.builtin "min") := by decide +kernel
theorem bb_repr : bootBuiltins "repr" = some (.builtin "repr") := by decide +kernel
section
variable {X : Cx} {K : PySem.W.Frag}
def rTupOf (K : PySem.W.Frag) : List V → Hp → VK → Prop := fun xs H Q => ∃ p ys, xs = [.ref p] ∧ ((SqL K H p ys ∧ ∀ l, H l = none → Q (.ref l) (upd H l (.tup ys))) ∨ (SqT K H p ys ∧ Q (.ref p) H))
theorem call_tupK (e : X.K = K) : CallR X (.type "tuple") (rTupOf K) := e ▸ (call_tuple_of (X := X))
def rLenSq (K : PySem.W.Frag) : List V → Hp → VK → Prop := fun xs H Q => ∃ p ys, xs = [.ref p] ∧ (SqL K H p ys ∨ SqT K H p ys) ∧ Q (.int ys.length) H
theorem call_lenK (e : X.K = K) : CallR X (.builtin "len") (rLenSq K) := e ▸ (call_len_seq (X := X))
theorem ix_listK (e : X.K = K) : IxR X (rIxL K) := e ▸ (ix_list (X := X))
theorem ix_tupK (e : X.K = K) : IxR X (rIxT K) := e ▸ (ix_tup (X := X))
theorem op_inK (e : X.K = K) : OpR X (compareOp .In) (rIn K false) := e ▸ (op_in_seq (X := X))
theorem op_notInK (e : X.K = K) : OpR X (compareOp .NotIn) (rIn K true) := e ▸ (op_notIn_seq (X := X))
theorem op_eqDK (e : X.K = K) (hu : X.A.units + 64 < cLine) : OpR X (compareOp .Eq) (rEqD K) := e ▸ (op_eqD (X := X) hu)
theorem op_neDK (e : X.K = K) (hu : X.A.units + 64 < cLine) : OpR X (compareOp .NotEq) (rNeD K) := e ▸ (op_neD (X := X) hu)
theorem pg_tupK {ts : List Expr} {k n : Nat} {pos : Pos} {t : TGs} (e : X.K = K) (hc : X.calm = true) (h : PGs X ts t)
    (hn : (assignEach ts X.env).length = n := by rfl) (hs : (assignEach ts X.env).findIdx? (·.1) = none := by rfl) : PG X (.Tuple ts k pos) (gTup K n t) := e ▸ (pg_tup hc h hn hs)
end
end Up

set_option Elab.async false
set_option linter.all false
set_option maxRecDepth 100000
set_option maxHeartbeats 2000000
/-! the draws: what a law's own drawing does to the heap -/
namespace Up
open PySem PySem.Spec PyProof.Rows L2
def topS (i : Nat) : Stmt := PySem.Challenge.pw_uprightletters_k78_exceptions_of_both_pa.main.body.getD i (.Pass ⟨0, 0, 0, 0⟩)
abbrev sMix : Stmt := (topS 30)
abbrev sFol : Stmt := (topS 31)
abbrev sDrw : Stmt := (topS 32)
abbrev sBeg : Stmt := (topS 33)
theorem scM : FnScope ["cell", "n", "blend"] ["cell", "n"] (defScope sMix) := ⟨rfl, rfl, rfl, by decide +kernel, rfl, by decide +kernel, by decide +kernel⟩
theorem scF : FnScope ["script", "n", "found", "cell"] ["script"] (defScope sFol) := ⟨rfl, rfl, rfl, by decide +kernel, rfl, by decide +kernel, by decide +kernel⟩
theorem scD : FnScope ["m", "limit", "n", "lot", "here", "cell"] ["m", "limit"] (defScope sDrw) := ⟨rfl, rfl, rfl, by decide +kernel, rfl, by decide +kernel, by decide +kernel⟩
theorem scB : FnScope ["script", "m", "cell"] ["script"] (defScope sBeg) := ⟨rfl, rfl, rfl, by decide +kernel, rfl, by decide +kernel, by decide +kernel⟩
/-- built-in names that stand as they are; the drawing's own defs -/
structure TxtB (mg : Str → Option Value) : Prop where
  int : mg "int" = none
  len : mg "len" = none
  range : mg "range" = none
  enumerate : mg "enumerate" = none
section
variable {P : Program} {w : World} {K : PySem.W.Frag} {mg : Str → Option Value} {base : Heap}
/-! ### _law_mixed -/
def spMix : Sp := fun vs H Q _ => ∃ (c n : Int), vs = [.int c, .int n] ∧ -(2 ^ 62) < n ∧ n < 2 ^ 62 ∧ ∀ r : Int, Q (.int r) H
theorem ok_mix {f : Addr} {fd : FuncData} (F : Fun K "_law_mixed" "_law_mixed" sMix f fd) (T : TxtB mg) : FnOk P w K mg base CX0 1 f fd ["cell", "n"] spMix := by
  refine F.ok scM (fun vs H Q E h => ?_) (fun cdv A outer s H vs Q E hr h => ?_)
  · obtain ⟨c, n, rfl, _⟩ := h
    rfl
  · obtain ⟨c, n, rfl, lo, hi, q⟩ := h
    refine ⟨_, (pss_cons (ps_set (i := 2) scM.nd rfl (Or.inl rfl) (pe_op op_add (pe_op op_add (pe_op op_mod (pe_callTy call_int1 (by rfl) T.int bt_int (pa_cons (pe_op op_mul (pe_op op_mul (pv 0) (pe_op op_add pe_int (pe_op op_mul pe_int (pv 1)))) pe_int) pa_nil)) pe_int) (pe_op op_mul (pe_op op_mul pe_int (pv 1)) (pv 1))) (pe_op op_mul pe_int (pv 1)))) (pss_one (ps_ret (pe_op op_fdiv (pe_op op_mod (pe_callTy call_int1 (by rfl) T.int bt_int (pa_cons (pe_op op_mul (pv 2) pe_int) pa_nil)) pe_int) pe_int)))), ?_⟩
    refine ⟨_, rfl, _, rfl, _, _, rfl, rfl, .inl ⟨by decide, by decide⟩, _, _, rfl, rfl, _, _, rfl, rfl, .inr ⟨by omega, by omega⟩, _, _, rfl, rfl, .inr ⟨by decide, by decide⟩, .inl ⟨_, rfl, ?_⟩⟩
    refine ⟨_, _, rfl, rfl, (by show (0 : Int) < 2147483647; decide), ?_⟩
    refine ⟨_, rfl, _, _, rfl, rfl, .inl ⟨by decide, by decide⟩, _, rfl, _, _, rfl, rfl, .inr ⟨by omega, by omega⟩, _, _, rfl, rfl, ?_⟩
    refine ⟨_, rfl, _, _, rfl, rfl, .inl ⟨by decide, by decide⟩, _, _, rfl, rfl, ?_⟩
    refine ⟨_, rfl, _, _, rfl, rfl, .inr ⟨by decide, by decide⟩, .inl ⟨_, rfl, ?_⟩⟩
    refine ⟨_, _, rfl, rfl, (by show (0 : Int) < 2147483629; decide), _, _, rfl, rfl, ⟨by decide, by decide⟩, ?_⟩
    exact q _

/-! ### small lemmas -/
abbrev iL (ns : List Int) : List V := ns.map V.int
theorem same_new {H : Hp} {p : Addr} {o : HO} (h : H p = none) : Same H (upd H p o) := fun b x e => by
  rw [upd_ne (ne_of_none e h)]
  exact e
theorem ix_at {n : Nat} {k : Int} {j : Nat} (e : k = (j : Int)) (h : j < n) : ixN n k = some j := by
  subst e
  unfold ixN
  rw [if_pos (by omega), if_pos (by omega)]
  simp
theorem iL_get {ns : List Int} {j : Nat} (h : j < ns.length) : (iL ns)[j]? = some (.int ns[j]) := by
  rw [List.getElem?_map, List.getElem?_eq_getElem h]
  rfl
theorem iL_at {ns : List Int} {k : Int} {j : Nat} (e : k = (j : Int)) (h : j < ns.length) : atI (iL ns) k = some (.int ns[j]) := at_of e (iL_get h)
theorem iL_set (ns : List Int) (j : Nat) (z : Int) : (iL ns).set j (.int z) = iL (ns.set j z) := List.map_set.symm
theorem iL_app (ns : List Int) (z : Int) : iL ns ++ [V.int z] = iL (ns ++ [z]) := (List.map_append (l₁ := ns) (l₂ := [z]) (f := V.int)).symm
theorem iL_put {H : Hp} {D : Addr} {cs : List Int} {j : Nat} {z : Int} : upd H D (.lst ((iL cs).set j (.int z))) D = some (.lst (iL (cs.set j z))) := by
  rw [upd_same, iL_set]
/-! ### _law_folded -/
def spFol (K : PySem.W.Frag) : Sp := fun vs H Q _ => ∃ (a : Addr) (ns : List Int), vs = [.ref a] ∧ SqL K H a (iL ns) ∧ ns.length ≤ 63 ∧
  ∀ (H' : Hp) (p : Addr) (cs : List Int), Same H H' → H p = none → H' p = some (.lst (iL cs)) → cs.length = 64 → Q (.ref p) H'
theorem ok_fol {f : Addr} {fd : FuncData} (F : Fun K "_law_folded" "_law_folded" sFol f fd) (T : TxtB mg) : FnOk P w K mg base CX0 1 f fd ["script"] (spFol K) := by
  refine F.ok scF (fun vs H Q E h => ?_) (fun cdv A outer s H vs Q E hr h => ?_)
  · obtain ⟨a, ns, rfl, _⟩ := h
    rfl
  · obtain ⟨a, ns, rfl, hS, hlen, q⟩ := h
    refine ⟨_, (pss_cons (ps_setLc (i := 2) (own := [("n", 1)]) (tt := tYes) rfl scF.nd rfl rfl (sw_true rfl rfl rfl (by decide +kernel)) (pi_range1 (by rfl) T.range (pa_cons pe_int pa_nil)) (blkOk_by (own := [("n", 1)]) (N := ["script", "n", "found", "cell"]) (sc := defScope sFol) (by decide +kernel)) (fun _ _ _ _ _ => (pg_name (i := 1) scF.nd rfl (Or.inl rfl))) (fun _ _ _ _ _ => pts_nil) (fun _ _ _ _ _ => (pe_op op_add pe_int (pv 1)))) (pss_cons (ps_for PassesOwn.never rfl (pi_enum (by rfl) T.enumerate (pa_cons (pv 0) pa_nil)) (pg_tup (by rfl) (pgs_cons (pg_name (i := 1) scF.nd rfl (Or.inl rfl)) (pgs_cons (pg_name (i := 3) scF.nd rfl (Or.inl rfl)) pgs_nil))) (pss_one (ps_asg (pe_op op_mod (pe_callTy call_int1 (by rfl) T.int bt_int (pa_cons (pe_op op_add (pe_op op_mul (pe_ix ix_list (pv 2) (pe_op op_mod (pe_callTy call_int1 (by rfl) T.int bt_int (pa_cons (pv 1) pa_nil)) pe_int) (fun _ _ => rfl)) pe_int) (pv 3)) pa_nil)) pe_int) (pg_sub (pv 2) (pe_op op_mod (pe_callTy call_int1 (by rfl) T.int bt_int (pa_cons (pv 1) pa_nil)) pe_int) set_list)))) (pss_cons (ps_for PassesOwn.never rfl (pi_range2 (by rfl) T.range (pa_cons pe_int (pa_cons pe_int pa_nil))) (pg_name (i := 1) scF.nd rfl (Or.inl rfl)) (pss_one (ps_asg (pe_op op_mod (pe_callTy call_int1 (by rfl) T.int bt_int (pa_cons (pe_op op_add (pe_ix ix_list (pv 2) (pv 1) (fun _ _ => rfl)) (pe_op op_mul (pe_ix ix_list (pv 2) (pe_op op_sub (pv 1) pe_int) (fun _ _ => rfl)) pe_int)) pa_nil)) pe_int) (pg_sub (pv 2) (pv 1) set_list)))) (pss_one (ps_ret (pv 2)))))), ?_⟩
    -- found = [17 + n for n in range(64)]
    refine ⟨64, rfl, by decide, by decide, fun D nD => lc_range (lo := 0) (n := 64) (fun i H2 => ∃ cs : List Int, cs.length = i ∧ H2 D = some (.lst (iL cs)) ∧ Same H H2) ⟨[], rfl, upd_same, same_new nD⟩ ?_ ?_⟩
    · rintro i H2 hi ⟨cs, hl, hD, sm⟩
      refine ⟨rfl, ?_⟩
      refine ⟨_, rfl, _, _, rfl, rfl, _, hD, ?_, cs ++ [17 + (0 + (i : Int))], ?_, ?_, fun b o e => ?_⟩
      · rw [List.length_map]
        exact small1000 (by omega)
      · rw [List.length_append, hl]
        rfl
      · rw [upd_same, iL_app]
      · rw [upd_ne (ne_of_none e nD)]
        exact sm b o e
    · rintro H2 ⟨cs, hl, hD, sm⟩
      -- for n, cell in enumerate(script)
      refine ⟨_, rfl, a, _, rfl, sm.seq hS, for_it walk_enum (fun i σ H3 => ∃ (v1 v3 : Option V) (cs : List Int), σ = [some (.ref a), v1, some (.ref D), v3] ∧ cs.length = 64 ∧ H3 D = some (.lst (iL cs)) ∧ Same H H3) ⟨_, _, cs, rfl, hl, hD, sm⟩ (fun i σ H3 _ ⟨_, _, _, _, _, _, sm'⟩ => sm'.seq hS) ?_ ?_⟩
      · rintro i x σ H3 H4 hi ⟨v1, v3, cs, rfl, hl, hD, sm⟩ ⟨U, x1, x2, rfl, nU, rfl, e1, e2⟩
        have hin : i < ns.length := by rw [List.length_map] at hi; exact hi
        have ex1 : x1 = .int (i : Int) := (Option.some.inj e1).symm
        have ex2 : x2 = .int ns[i] := Option.some.inj (e2.symm.trans (iL_get hin))
        subst ex1 ex2
        have hD4 : (upd H3 U (.tup [.int (i : Int), .int ns[i]])) D = some (.lst (iL cs)) := by rw [upd_ne (ne_of_none hD nU)]; exact hD
        have hj : i % 64 < cs.length := by omega
        refine ⟨U, _, rfl, .inl (.inl upd_same), rfl, _, _, rfl, _, _, rfl, rfl, ?_⟩
        refine ⟨_, rfl, _, rfl, .inl ⟨_, rfl, ?_⟩⟩
        refine ⟨_, _, rfl, rfl, (by show (0 : Int) < 64; decide), D, iL cs, _, .int cs[i % 64], rfl, rfl, .inl (.inl hD4), iL_at (by omega) hj, ?_⟩
        refine ⟨_, _, rfl, rfl, .inr ⟨by decide, by decide⟩, _, rfl, _, _, rfl, rfl, .inl ⟨_, rfl, ?_⟩⟩
        refine ⟨_, _, rfl, rfl, (by show (0 : Int) < 2147483647; decide), ?_⟩
        refine ⟨_, rfl, _, rfl, .inl ⟨_, rfl, ?_⟩⟩
        refine ⟨_, _, rfl, rfl, (by show (0 : Int) < 64; decide), D, iL cs, _, i % 64, rfl, rfl, hD4, ix_at (by omega) (by rw [List.length_map]; exact hj), ?_⟩
        refine ⟨_, _, _, rfl, by rw [List.length_set]; exact hl, iL_put, fun b o e => ?_⟩
        · rw [upd_ne (ne_of_none e nD), upd_ne (ne_of_none (sm b o e) nU)]
          exact sm b o e
      · rintro σ H3 ⟨v1, v3, cs, rfl, hl, hD, sm⟩
        -- for n in range(1, 64)
        refine ⟨1, 64, rfl, ⟨by decide, by decide, by decide, by decide⟩, for_range (lo := 1) (n := 63) (fun i σ H3 => ∃ (v1 v3 : Option V) (cs : List Int), σ = [some (.ref a), v1, some (.ref D), v3] ∧ cs.length = 64 ∧ H3 D = some (.lst (iL cs)) ∧ Same H H3) ⟨_, _, cs, rfl, hl, hD, sm⟩ ?_ ?_⟩
        · rintro i σ H3 hi ⟨v1, v3, cs, rfl, hl, hD, sm⟩
          have h1 : i + 1 < cs.length := by omega
          have h0 : i < cs.length := by omega
          refine ⟨_, rfl, _, rfl, D, iL cs, _, .int cs[i + 1], rfl, rfl, .inl (.inl hD), iL_at (by omega) h1, ?_⟩
          refine ⟨_, rfl, _, rfl, _, _, rfl, rfl, D, iL cs, _, .int cs[i], rfl, rfl, .inl (.inl hD), iL_at (by omega) h0, ?_⟩
          refine ⟨_, _, rfl, rfl, .inr ⟨by decide, by decide⟩, _, _, rfl, rfl, .inl ⟨_, rfl, ?_⟩⟩
          refine ⟨_, _, rfl, rfl, (by show (0 : Int) < 2147483647; decide), ?_⟩
          refine ⟨_, rfl, _, rfl, D, iL cs, _, i + 1, rfl, rfl, hD, ix_at (by omega) (by rw [List.length_map]; exact h1), ?_⟩
          refine ⟨_, _, _, rfl, by rw [List.length_set]; exact hl, iL_put, fun b o e => ?_⟩
          · rw [upd_ne (ne_of_none e nD)]
            exact sm b o e
        · rintro σ H3 ⟨v1, v3, cs, rfl, hl, hD, sm⟩
          exact ⟨_, rfl, q H3 D cs sm nD hD hl⟩

/-! ### the drawing's state: m, a dict of two lists and a number -/
abbrev kCe : Key := .inr "cells"
abbrev kGr : Key := .inr "great"
abbrev kSp : Key := .inr "spot"
def mkM (c g : Addr) (n : Int) : List (Key × V) := [(kCe, .ref c), (kGr, .ref g), (kSp, .int n)]
theorem val_ce (c g : Addr) (n : Int) : valV (mkM c g n) kCe = some (.ref c) := by rfl
theorem val_gr (c g : Addr) (n : Int) : valV (mkM c g n) kGr = some (.ref g) := by rfl
theorem val_sp (c g : Addr) (n : Int) : valV (mkM c g n) kSp = some (.int n) := by rfl
theorem put_sp (c g : Addr) (n z : Int) : putK (mkM c g n) kSp (.int z) = mkM c g z := by rfl
theorem put_gr (c g g2 : Addr) (n : Int) : putK (mkM c g n) kGr (.ref g2) = mkM c g2 n := by rfl
theorem merge_m (c g : Addr) (n : Int) : mergeK [] (mkM c g n) = mkM c g n := by rfl
/-- m at m, its list of great numbers at g, at most b draws done -/
structure MAt (H : Hp) (m g : Addr) (b : Nat) : Prop where
  ex : ∃ (c : Addr) (cs gs : List Int) (n : Nat), H m = some (.dK (mkM c g n)) ∧ H c = some (.lst (iL cs)) ∧ cs.length = 64 ∧ H g = some (.lst (iL gs)) ∧ gs.length ≤ 63 ∧ n ≤ b
theorem MAt.mono {H : Hp} {m g : Addr} {a b : Nat} (M : MAt H m g a) (h : a ≤ b) : MAt H m g b := by
  obtain ⟨c, cs, gs, n, h1, h2, h3, h4, h5, h6⟩ := M.ex
  exact ⟨c, cs, gs, n, h1, h2, h3, h4, h5, Nat.le_trans h6 h⟩
theorem MAt.same {H H' : Hp} {m g : Addr} {b : Nat} (M : MAt H m g b) (s : Same H H') : MAt H' m g b := by
  obtain ⟨c, cs, gs, n, h1, h2, h3, h4, h5, h6⟩ := M.ex
  exact ⟨c, cs, gs, n, s _ _ h1, s _ _ h2, h3, s _ _ h4, h5, h6⟩
theorem MAt.m_some {H : Hp} {m g : Addr} {b : Nat} (M : MAt H m g b) : H m ≠ none := by
  obtain ⟨c, cs, gs, n, h1, _⟩ := M.ex
  rw [h1]
  exact fun z => nomatch z
theorem MAt.g_some {H : Hp} {m g : Addr} {b : Nat} (M : MAt H m g b) : H g ≠ none := by
  obtain ⟨c, cs, gs, n, h1, h2, h3, h4, _⟩ := M.ex
  rw [h4]
  exact fun z => nomatch z
/-- all but m and its list stand as they stood -/
def But (m g : Addr) (H H' : Hp) : Prop := ∀ b o, H b = some o → b ≠ m → b ≠ g → H' b = some o
theorem But.trans {m g : Addr} {H H1 H2 : Hp} (a : But m g H H1) (b : But m g H1 H2) : But m g H H2 := fun c o e n1 n2 => b c o (a c o e n1 n2) n1 n2
theorem But.of {m g : Addr} {H H' : Hp} (s : Same H H') : But m g H H' := fun b o e _ _ => s b o e
theorem But.free {m g : Addr} {H H' : Hp} {b : Nat} (s : But m g H H') (M : MAt H' m g b) {a : Addr} (h : H' a = none) : H a = none := by
  cases e : H a with
  | none => rfl
  | some o =>
    by_cases h1 : a = m
    · rw [h1] at h
      exact (M.m_some h).elim
    by_cases h2 : a = g
    · rw [h2] at h
      exact (M.g_some h).elim
    · rw [s a o e h1 h2] at h
      cases h
def spDrw : Sp := fun vs H Q _ => ∃ (m g : Addr) (lim : Int) (b : Nat), vs = [.ref m, .int lim] ∧ 0 < lim ∧ lim < 1000000 ∧ b < 1000000 ∧ MAt H m g b ∧
  ∀ (d : Int) (H' : Hp), 0 ≤ d → d < lim → MAt H' m g (b + 1) → But m g H H' → Q (.int d) H'
theorem dp_iL {K : PySem.W.Frag} {H : Hp} : ∀ ns : List Int, DpAll K H (iL ns) (ns.map PyData.int)
  | [] => .nil
  | n :: ns => .cons (.int n) (dp_iL ns)
theorem eqv_nil : ∀ ns : List Int, PyData.eqv (.list (ns.map PyData.int)) (.list []) = ns.isEmpty
  | [] => rfl
  | _ :: _ => rfl
theorem depth_ints : ∀ ns : List Int, PyData.depthAll (ns.map PyData.int) ≤ 1
  | [] => by decide
  | n :: ns => by
    have h := depth_ints ns
    have e : PyData.depth (.int n) = 0 := by rw [PyData.depth]
    rw [List.map_cons, PyData.depthAll, e]
    omega
theorem lay_ints : ∀ ns : List Int, PyData.canLayAll0 (ns.map PyData.int) = true
  | [] => rfl
  | n :: ns => by
    rw [List.map_cons, PyData.canLayAll0, lay_ints ns, PyData.canLay0]
    rfl
theorem shaped_ints (ns : List Int) : SeqAt.shaped (.list (ns.map PyData.int)) = true := by
  have h := depth_ints ns
  have h3 : PyData.depth (.list (ns.map PyData.int)) ≤ 64 := by
    rw [PyData.depth]
    omega
  unfold SeqAt.shaped
  rw [PyData.canLay0, lay_ints ns, decide_eq_true h3]
  rfl
structure TxtD (K : PySem.W.Frag) (mg : Str → Option Value) (fM : Addr) : Prop extends TxtB mg where
  mix : mg "_law_mixed" = some (.ref fM)
theorem ok_drw {f fM : Addr} {fd fdM : FuncData} (F : Fun K "_law_draw" "_law_draw" sDrw f fd) (T : TxtD K mg fM) (FM : Fun K "_law_mixed" "_law_mixed" sMix fM fdM) (bM : Binds K fdM ["cell", "n"] []) : FnOk P w K mg base CX0 2 f fd ["m", "limit"] spDrw := by
  have GM : FnOk P w K mg base CX0 1 fM fdM ["cell", "n"] spMix := ok_mix FM T.toTxtB
  refine F.ok scD (fun vs H Q E h => ?_) (fun cdv A outer s H vs Q E hr h => ?_)
  · obtain ⟨m, g, lim, b, rfl, _⟩ := h
    rfl
  · obtain ⟨m, g, lim, b, rfl, l0, l1, hb, M, q⟩ := h
    have hu := hu_of hr
    have hr1 : Room 1 _ := hr.mono (by decide)
    obtain ⟨c, cs, gs, n, hm, hc, lc, hg, lg, hn⟩ := M.ex
    have nmc : m ≠ c := ne_of hm hc (by intro z; cases z)
    have nmg : m ≠ g := ne_of hm hg (by intro z; cases z)
    have ncg : c ≠ g := fun z => by
      subst z
      have e2 : iL cs = iL gs := HO.lst.inj (Option.some.inj (hc.symm.trans hg))
      have e3 := congrArg List.length e2
      simp only [List.length_map] at e3
      omega
    refine ⟨_, (pss_cons (ps_set (i := 2) scD.nd rfl (Or.inl rfl) (pe_dget hu (pv 0) pe_str (fun _ _ => rfl))) (pss_cons (ps_dput hu (pv 0) pe_str (pe_op op_add (pv 2) pe_int) rfl) (pss_cons (ps_if (pt_cmpR (op_neD hr.units) (pe_dget hu (pv 0) pe_str (fun _ _ => rfl)) (pe_lst pa_nil) (nomark _)) (pss_cons (ps_set (i := 3) scD.nd rfl (Or.inl rfl) (pe_dget hu (pv 0) pe_str (fun _ _ => rfl))) (pss_cons (ps_set (i := 4) scD.nd rfl (Or.inl rfl) (pe_op op_mod (pe_callTy call_int1 (by rfl) T.int bt_int (pa_cons (pv 2) pa_nil)) (pe_callB call_len_seq (by rfl) T.len PySem.boot_len (pa_cons (pv 3) pa_nil)))) (pss_cons (ps_set (i := 5) scD.nd rfl (Or.inl rfl) (pe_ix ix_list (pv 3) (pv 4) (fun _ _ => rfl))) (pss_one (ps_if (pt_cmpR op_gt (pv 5) pe_int (nomark _)) (pss_cons (ps_asg (pe_op op_fdivN (pv 5) (pv 1)) (pg_sub (pv 3) (pv 4) set_list)) (pss_one (ps_ret (pe_op op_mod (pe_callTy call_int1 (by rfl) T.int bt_int (pa_cons (pv 5) pa_nil)) (pv 1))))) pss_nil))))) pss_nil) (pss_cons (ps_set (i := 3) scD.nd rfl (Or.inl rfl) (pe_dget hu (pv 0) pe_str (fun _ _ => rfl))) (pss_one (ps_ret (pe_op op_mod (pe_callTy call_int1 (by rfl) T.int bt_int (pa_cons (pe_call GM hr1 (by rfl) T.mix FM.kp bM .nil pass0 (pa_cons (pe_call GM hr1 (by rfl) T.mix FM.kp bM .nil pass0 (pa_cons (pe_op op_add (pe_ix ix_list (pv 3) (pe_op op_mod (pe_callTy call_int1 (by rfl) T.int bt_int (pa_cons (pv 2) pa_nil)) pe_int) (fun _ _ => rfl)) (pe_op op_mul pe_int (pe_op op_fdiv (pv 2) pe_int))) (pa_cons (pv 2) pa_nil))) (pa_cons (pe_op op_add (pv 2) pe_int) pa_nil))) pa_nil)) (pv 1)))))))), ?_⟩
    -- n = m['spot']; m['spot'] = n + 1
    refine ⟨_, rfl, m, _, rfl, DGet.k (k := kSp) hm, ?_⟩
    refine ⟨_, rfl, _, _, rfl, rfl, _, rfl, m, _, rfl, DPut.k (k := kSp) hm (by show 3 < sizeLine; decide), ?_⟩
    rw [put_sp]
    have hm1 : (upd H m (.dK (mkM c g ((n : Int) + 1)))) m = some (.dK (mkM c g ((n : Int) + 1))) := upd_same
    have hc1 : (upd H m (.dK (mkM c g ((n : Int) + 1)))) c = some (.lst (iL cs)) := by rw [upd_ne nmc.symm]; exact hc
    have hg1 : (upd H m (.dK (mkM c g ((n : Int) + 1)))) g = some (.lst (iL gs)) := by rw [upd_ne nmg.symm]; exact hg
    have k1 : ∀ b o, H b = some o → b ≠ m → (upd H m (.dK (mkM c g ((n : Int) + 1)))) b = some o := fun b o e h => by rw [upd_ne h]; exact e
    revert hm1 hc1 hg1 k1
    generalize upd H m (.dK (mkM c g ((n : Int) + 1))) = H1
    intro hm1 hc1 hg1 k1
    -- if m['great'] != []
    refine ⟨_, rfl, m, _, rfl, DGet.k (k := kGr) hm1, (by show 0 ≤ sizeLine; decide), fun p np => ?_⟩
    have k2 : Same H1 (upd H1 p (.lst [])) := same_new np
    have hm2 := k2 _ _ hm1
    have hc2 := k2 _ _ hc1
    have hg2 := k2 _ _ hg1
    have hp2 : (upd H1 p (.lst [])) p = some (.lst []) := upd_same
    have k3 : ∀ b o, H b = some o → b ≠ m → (upd H1 p (.lst [])) b = some o := fun b o e h => k2 b o (k1 b o e h)
    revert hm2 hc2 hg2 hp2 k3
    generalize upd H1 p (.lst []) = H2
    intro hm2 hc2 hg2 hp2 k3
    refine ⟨_, _, .lst (.inl (.inl hg2)) (dp_iL gs), .lst (.inl (.inl hp2)) .nil, shaped_ints gs, rfl, _, rfl, ?_⟩
    -- lot = m['cells'], and the rest: whichever way it is reached
    have mat : ∀ (H3 : Hp) (gs' : List Int), H3 m = some (.dK (mkM c g ((n : Int) + 1))) → H3 c = some (.lst (iL cs)) → H3 g = some (.lst (iL gs')) → gs'.length ≤ 63 → MAt H3 m g (b + 1) := fun H3 gs' e1 e2 e3 e4 => ⟨c, cs, gs', n + 1, e1, e2, lc, e3, e4, by omega⟩
    have fin : ∀ z : Int, 0 ≤ z % lim ∧ z % lim < lim := fun z => ⟨Int.emod_nonneg _ (by omega), Int.emod_lt_of_pos _ l0⟩
    cases gs with
    | cons z gs =>
      have hl1 : n % (gs.length + 1) < (z :: gs).length := by
        rw [List.length_cons]
        exact Nat.mod_lt _ (Nat.succ_pos _)
      have elen : ((iL (z :: gs)).length : Int) = ((gs.length + 1 : Nat) : Int) := by rw [List.length_map, List.length_cons]
      refine ⟨_, rfl, m, _, rfl, DGet.k (k := kGr) hm2, ?_⟩
      refine ⟨_, rfl, .inl ⟨_, rfl, _, rfl, g, _, rfl, .inl (.inl (.inl hg2)), _, _, rfl, rfl, (by show (0 : Int) < ((iL (z :: gs)).length : Int); rw [elen]; omega), ?_⟩⟩
      refine ⟨_, rfl, _, rfl, g, _, _, .int (z :: gs)[n % (gs.length + 1)], rfl, rfl, .inl (.inl hg2), iL_at (j := n % (gs.length + 1)) (by rw [elen]; exact (Int.natCast_emod n (gs.length + 1)).symm) hl1, ?_⟩
      refine ⟨_, rfl, _, _, rfl, rfl, _, rfl, ite2 (fun cz => ?_) (fun cz => ?_)⟩
      · refine ⟨_, rfl, _, rfl, _, _, rfl, rfl, ⟨by omega, by omega⟩, _, rfl, _, rfl, g, _, _, n % (gs.length + 1), rfl, rfl, hg2, ix_at (by rw [elen]; exact (Int.natCast_emod n (gs.length + 1)).symm) (by rw [List.length_map]; exact hl1), ?_⟩
        refine ⟨_, rfl, .inl ⟨_, rfl, _, rfl, _, _, rfl, rfl, l0, ?_⟩⟩
        refine q _ _ (fin _).1 (fin _).2 (mat _ _ (by rw [upd_ne nmg]; exact hm2) (by rw [upd_ne ncg]; exact hc2) iL_put (by rw [List.length_set]; exact lg)) fun b o e h1 h2 => ?_
        rw [upd_ne h2]
        exact k3 b o e h1
      · have hj : n % 64 < cs.length := by omega
        refine ⟨_, rfl, m, _, rfl, DGet.k (k := kCe) hm2, ?_⟩
        refine ⟨_, rfl, _, rfl, .inl ⟨_, rfl, _, _, rfl, rfl, (by show (0 : Int) < 64; decide), c, iL cs, _, .int cs[n % 64], rfl, rfl, .inl (.inl hc2), iL_at (by omega) hj, ?_⟩⟩
        refine ⟨_, rfl, _, _, rfl, rfl, ⟨by decide, by decide⟩, _, _, rfl, rfl, .inl ⟨by decide, by decide⟩, _, _, rfl, rfl, _, rfl, ?_⟩
        refine ⟨_, _, rfl, by omega, by omega, fun r => ?_⟩
        refine ⟨_, rfl, _, _, rfl, rfl, ?_⟩
        refine ⟨_, _, rfl, by omega, by omega, fun r2 => .inl ⟨_, rfl, ?_⟩⟩
        refine ⟨_, rfl, _, _, rfl, rfl, l0, ?_⟩
        exact q _ _ (fin _).1 (fin _).2 (mat _ _ hm2 hc2 hg2 lg) fun b o e h1 h2 => k3 b o e h1
    | nil =>
      have hj : n % 64 < cs.length := by omega
      refine ⟨_, rfl, m, _, rfl, DGet.k (k := kCe) hm2, ?_⟩
      refine ⟨_, rfl, _, rfl, .inl ⟨_, rfl, _, _, rfl, rfl, (by show (0 : Int) < 64; decide), c, iL cs, _, .int cs[n % 64], rfl, rfl, .inl (.inl hc2), iL_at (by omega) hj, ?_⟩⟩
      refine ⟨_, rfl, _, _, rfl, rfl, ⟨by decide, by decide⟩, _, _, rfl, rfl, .inl ⟨by decide, by decide⟩, _, _, rfl, rfl, _, rfl, ?_⟩
      refine ⟨_, _, rfl, by omega, by omega, fun r => ?_⟩
      refine ⟨_, rfl, _, _, rfl, rfl, ?_⟩
      refine ⟨_, _, rfl, by omega, by omega, fun r2 => .inl ⟨_, rfl, ?_⟩⟩
      refine ⟨_, rfl, _, _, rfl, rfl, l0, ?_⟩
      exact q _ _ (fin _).1 (fin _).2 (mat _ _ hm2 hc2 hg2 lg) fun b o e h1 h2 => k3 b o e h1

/-! ### _law_begun -/
def spBeg (K : PySem.W.Frag) : Sp := fun vs H Q _ => ∃ (a : Addr) (ns : List Int), vs = [.ref a] ∧ SqL K H a (iL ns) ∧ ns.length ≤ 63 ∧
  ∀ (H' : Hp) (m g : Addr), Same H H' → MAt H' m g 0 → Q (.ref m) H'
structure TxtG (K : PySem.W.Frag) (mg : Str → Option Value) (fF : Addr) : Prop extends TxtB mg where
  fol : mg "_law_folded" = some (.ref fF)
theorem ok_beg {f fF : Addr} {fd fdF : FuncData} (F : Fun K "_law_begun" "_law_begun" sBeg f fd) (T : TxtG K mg fF) (FF : Fun K "_law_folded" "_law_folded" sFol fF fdF) (bF : Binds K fdF ["script"] []) : FnOk P w K mg base CX0 2 f fd ["script"] (spBeg K) := by
  have GF : FnOk P w K mg base CX0 1 fF fdF ["script"] (spFol K) := ok_fol FF T.toTxtB
  refine F.ok scB (fun vs H Q E h => ?_) (fun cdv A outer s H vs Q E hr h => ?_)
  · obtain ⟨a, ns, rfl, _⟩ := h
    rfl
  · obtain ⟨a, ns, rfl, hS, hlen, q⟩ := h
    have hu := hu_of hr
    have hr1 : Room 1 _ := hr.mono (by decide)
    refine ⟨_, (pss_cons (ps_set (i := 1) scB.nd rfl (Or.inl rfl) (pe_disp (pps_cons pe_str (pe_call GF hr1 (by rfl) T.fol FF.kp bF .nil pass0 (pa_cons (pv 0) pa_nil)) (pps_cons pe_str (pe_lst pa_nil) (pps_cons pe_str pe_int pps_nil))) (by rfl) (by rfl) (fun z => by cases z) (by decide))) (pss_cons (ps_dput hu (pv 1) pe_str (pe_lc (own := [("cell", 2)]) (tt := tYes) rfl scB.nd (pi_list (pv 0)) (blkOk_by (own := [("cell", 2)]) (N := ["script", "m", "cell"]) (sc := defScope sBeg) (by decide +kernel)) (fun _ _ _ _ _ => (pg_name (i := 2) scB.nd rfl (Or.inl rfl))) (fun _ _ _ _ _ => pts_nil) (fun _ _ _ _ _ => (pe_ifExp (pt_cmpR op_ge (pv 2) (pe_op op_pow pe_int pe_int) (nomark _)) (pv 2) pe_int))) rfl) (pss_one (ps_ret (pv 1))))), ?_⟩
    intro m nm
    have s0 : Same H (upd H m (.dK [])) := same_new nm
    refine ⟨_, rfl, a, ns, rfl, s0.seq hS, hlen, fun H1 c cs s1 nc hc lc => ⟨(by show 0 ≤ sizeLine; decide), fun g0 ng0 => ?_⟩⟩
    have s2 : Same H1 (upd H1 g0 (.lst [])) := same_new ng0
    have hm1 : H1 m = some (.dK []) := s1 _ _ upd_same
    have nmc : c ≠ m := ne_of hc hm1 (by intro z; cases z)
    refine ⟨s2 _ _ hm1, mkM c g0 0, rfl, (by show 3 ≤ 15; decide), ?_⟩
    have hm3 : (upd (upd H1 g0 (.lst [])) m (.dK (mergeK [] (mkM c g0 0)))) m = some (.dK (mkM c g0 0)) := by rw [upd_same, merge_m]
    have hc3 : (upd (upd H1 g0 (.lst [])) m (.dK (mergeK [] (mkM c g0 0)))) c = some (.lst (iL cs)) := by rw [upd_ne nmc]; exact s2 _ _ hc
    have s3 : Same H (upd (upd H1 g0 (.lst [])) m (.dK (mergeK [] (mkM c g0 0)))) := fun b o e => by
      rw [upd_ne (ne_of_none e nm)]
      exact s2 _ _ (s1 _ _ (s0 _ _ e))
    revert hm3 hc3 s3
    generalize upd (upd H1 g0 (.lst [])) m (.dK (mergeK [] (mkM c g0 0))) = H3
    intro hm3 hc3 s3
    refine ⟨_, rfl, a, rfl, ⟨_, s3.seq hS⟩, fun D nD => lc_list (K := K) (a := a) (xs := iL ns) (fun i H4 => ∃ gs : List Int, gs.length = i ∧ H4 D = some (.lst (iL gs)) ∧ Same H3 H4) ⟨[], rfl, upd_same, same_new nD⟩ (fun i H4 _ ⟨_, _, _, sm⟩ => sm.seq (s3.seq hS)) ?_ ?_⟩
    · rintro i x H4 hi ⟨gs, hl, hD, sm⟩
      have hin : i < ns.length := by
        have h := (List.getElem?_eq_some_iff.mp hi).1
        rw [List.length_map] at h
        exact h
      obtain rfl : x = .int ns[i] := Option.some.inj (hi.symm.trans (iL_get hin))
      have step : ∀ z : Int, ∃ acc : List V, H4 D = some (.lst acc) ∧ acc.length < sizeLine ∧ ∃ gs : List Int, gs.length = i + 1 ∧ (upd H4 D (.lst (acc ++ [V.int z]))) D = some (.lst (iL gs)) ∧ Same H3 (upd H4 D (.lst (acc ++ [V.int z]))) := fun z =>
        ⟨_, hD, by rw [List.length_map]; exact small1000 (by omega), gs ++ [z], by rw [List.length_append, hl]; rfl, by rw [upd_same, iL_app], fun b o e => by rw [upd_ne (ne_of_none e nD)]; exact sm b o e⟩
      refine ⟨rfl, ?_⟩
      refine ⟨_, rfl, _, _, rfl, rfl, ⟨by decide, by decide, by decide⟩, _, _, rfl, rfl, _, rfl, ite2 (fun _ => ?_) (fun _ => ?_)⟩
      · exact ⟨_, rfl, step _⟩
      · exact step 0
    · rintro H4 ⟨gs, hl, hD, sm⟩
      rw [List.length_map] at hl
      have hm4 := sm _ _ hm3
      have nDm : D ≠ m := ne_of hD hm4 (by intro z; cases z)
      refine ⟨_, rfl, m, _, rfl, DPut.k (k := kGr) hm4 (by show 3 < sizeLine; decide), _, rfl, ?_⟩
      rw [put_gr]
      refine q _ m D (fun b o e => ?_) ⟨c, cs, gs, 0, upd_same, by rw [upd_ne nmc]; exact sm _ _ hc3, lc, by rw [upd_ne nDm]; exact hD, by omega, Nat.le_refl _⟩
      rw [upd_ne (ne_of_none e nm)]
      exact sm _ _ (s3 _ _ e)
end
end Up

/-! the checks of values, over data of any kind -/
namespace Up
open PySem PySem.Spec PyProof.Rows L2
abbrev s_is_whole : Stmt := (topS 13)
abbrev s_is_index : Stmt := (topS 14)
abbrev s_is_listing : Stmt := (topS 15)
abbrev s_is_couple : Stmt := (topS 16)
abbrev s_is_doing : Stmt := (topS 17)
theorem sc_is_whole : FnScope ["value"] ["value"] (defScope s_is_whole) := ⟨rfl, rfl, rfl, by decide +kernel, rfl, by decide +kernel, by decide +kernel⟩
theorem sc_is_index : FnScope ["value", "many"] ["value", "many"] (defScope s_is_index) := ⟨rfl, rfl, rfl, by decide +kernel, rfl, by decide +kernel, by decide +kernel⟩
theorem sc_is_listing : FnScope ["value", "most"] ["value", "most"] (defScope s_is_listing) := ⟨rfl, rfl, rfl, by decide +kernel, rfl, by decide +kernel, by decide +kernel⟩
theorem sc_is_couple : FnScope ["value"] ["value"] (defScope s_is_couple) := ⟨rfl, rfl, rfl, by decide +kernel, rfl, by decide +kernel, by decide +kernel⟩
theorem sc_is_doing : FnScope ["value", "many", "word", "letter"] ["value", "many"] (defScope s_is_doing) := ⟨rfl, rfl, rfl, by decide +kernel, rfl, by decide +kernel, by decide +kernel⟩
/-- what a passed value may be: None, a bool, an int, a text, a list, a tuple, a dict -/
inductive Kd (H : Hp) : V → Type where
  | non : Kd H .non
  | bl (b : Bool) : Kd H (.bl b)
  | int (i : Int) : Kd H (.int i)
  | str (x : Str) : Kd H (.str x)
  | lst (a : Addr) (xs : List V) (h : H a = some (.lst xs)) : Kd H (.ref a)
  | tup (a : Addr) (xs : List V) (h : H a = some (.tup xs)) : Kd H (.ref a)
  | dct (a : Addr) (kvs : List (Key × V)) (h : H a = some (.dK kvs)) : Kd H (.ref a)
def Kd.ty {H : Hp} {v : V} : Kd H v → String
  | .non => "NoneType"
  | .bl _ => "bool"
  | .int _ => "int"
  | .str _ => "str"
  | .lst .. => "list"
  | .tup .. => "tuple"
  | .dct .. => "dict"
theorem Kd.tyx {K : PySem.W.Frag} {H : Hp} {v : V} (k : Kd H v) : TyX K H v (.type k.ty) := by
  cases k with
  | non => exact .base .non
  | bl b => exact .base (.bl b)
  | int i => exact .base (.int i)
  | str x => exact .base (.str x)
  | lst a xs h => exact .base (.lst h)
  | tup a xs h => exact .base (.tup h)
  | dct a kvs h => exact .base (.dK h)
def Kd.is {H : Hp} {v : V} (k : Kd H v) (t : String) : Bool := (kitB k.ty t).getD false
theorem Kd.kit {K : PySem.W.Frag} {H : Hp} {v : V} (k : Kd H v) {t : String} (ht : t ∈ ["int", "bool", "str", "list", "tuple"]) : PySem.W.kitOne K (.type k.ty) (.type t) = some (k.is t) := by
  simp only [List.mem_cons, List.not_mem_nil, or_false] at ht
  refine kit_ty ?_
  unfold Kd.is
  cases k <;> rcases ht with rfl | rfl | rfl | rfl | rfl <;> (dsimp only [Kd.ty]; decide +kernel)
theorem Kd.same {H H' : Hp} {v : V} (k : Kd H v) (s : Same H H') : Nonempty (Kd H' v) := by
  cases k with
  | non => exact ⟨.non⟩
  | bl b => exact ⟨.bl b⟩
  | int i => exact ⟨.int i⟩
  | str x => exact ⟨.str x⟩
  | lst a xs h => exact ⟨.lst a xs (s _ _ h)⟩
  | tup a xs h => exact ⟨.tup a xs (s _ _ h)⟩
  | dct a kvs h => exact ⟨.dct a kvs (s _ _ h)⟩
/-- the built-in names that the program's checks use -/
structure TxtC (mg : Str → Option Value) : Prop extends TxtB mg where
  isinstance : mg "isinstance" = none
  bool : mg "bool" = none
  str : mg "str" = none
  list : mg "list" = none
  tuple : mg "tuple" = none
/-- an integer as the program counts -/
def wholeV : V → Bool
  | .int _ => true
  | _ => false
def spWhole : Sp := fun vs H Q _ => ∃ (v : V) (k : Kd H v), vs = [v] ∧ Q (.bl (wholeV v)) H
section
variable {P : Program} {w : World} {K : PySem.W.Frag} {mg : Str → Option Value} {base : Heap}
theorem ok_whole {f : Addr} {fd : FuncData} (F : Fun K "is_whole" "is_whole" s_is_whole f fd) (T : TxtC mg) : FnOk P w K mg base CX0 1 f fd ["value"] spWhole := by
  refine F.ok sc_is_whole (fun vs H Q E h => ?_) (fun cdv A outer s H vs Q E hr h => ?_)
  · obtain ⟨v, k, rfl, _⟩ := h
    rfl
  · obtain ⟨v, k, rfl, q⟩ := h
    refine ⟨_, (pss_one (ps_ret (pe_and (pe_callB call_isi (by rfl) T.isinstance bb_isinstance (pa_cons (pv 0) (pa_cons (pe_bltn (v := .ty "int") (by rfl) T.int bt_int rfl) pa_nil))) (pe_one (pe_not (pe_callB call_isi (by rfl) T.isinstance bb_isinstance (pa_cons (pv 0) (pa_cons (pe_bltn (v := .ty "bool") (by rfl) T.bool bt_bool rfl) pa_nil)))))))), ?_⟩
    refine ⟨_, rfl, v, .ty "int", _, _, _, rfl, .ty _, k.tyx, k.kit (by decide), _, rfl, ?_⟩
    have e1 : (if k.is "int" = true then Q (.bl (!k.is "bool")) H else Q (.bl false) H) := by
      cases k <;> exact q
    by_cases c : k.is "int" = true
    · rw [if_pos c] at e1 ⊢
      exact ⟨_, rfl, v, .ty "bool", _, _, _, rfl, .ty _, k.tyx, k.kit (by decide), _, rfl, e1⟩
    · rw [if_neg c] at e1 ⊢
      exact e1
/-- is_index(value, many): an integer from 0 to many - 1 -/
def indexV (v : V) (many : Int) : Bool := match v with
  | .int i => decide (0 ≤ i) && decide (i < many)
  | _ => false
def spIndex : Sp := fun vs H Q _ => ∃ (v : V) (k : Kd H v) (many : Int), vs = [v, .int many] ∧ Q (.bl (indexV v many)) H
structure TxtI (K : PySem.W.Frag) (mg : Str → Option Value) (fW : Addr) : Prop extends TxtC mg where
  g_is_whole : mg "is_whole" = some (.ref fW)
theorem ok_index {f fW : Addr} {fd fdW : FuncData} (F : Fun K "is_index" "is_index" s_is_index f fd) (T : TxtI K mg fW) (F_is_whole : Fun K "is_whole" "is_whole" s_is_whole fW fdW) (b_is_whole : Binds K fdW ["value"] []) : FnOk P w K mg base CX0 2 f fd ["value", "many"] spIndex := by
  have G_is_whole : FnOk P w K mg base CX0 1 fW fdW ["value"] spWhole := ok_whole F_is_whole T.toTxtC
  refine F.ok sc_is_index (fun vs H Q E h => ?_) (fun cdv A outer s H vs Q E hr h => ?_)
  · obtain ⟨v, k, many, rfl, _⟩ := h
    rfl
  · obtain ⟨v, k, many, rfl, q⟩ := h
    have hr_is_whole : Room 1 _ := hr.mono (by decide)
    refine ⟨_, (pss_one (ps_ret (pe_and (pe_call G_is_whole hr_is_whole (by rfl) T.g_is_whole F_is_whole.kp b_is_whole .nil pass0 (pa_cons (pv 0) pa_nil)) (pe_one (pe_chain op_le op_lt pe_int (pv 0) (pv 1)))))), ?_⟩
    refine ⟨_, rfl, v, k, rfl, _, rfl, ?_⟩
    cases k with
    | int i =>
      refine ⟨_, rfl, _, _, rfl, rfl, _, rfl, ?_⟩
      by_cases c : 0 ≤ i
      · rw [decide_eq_true c]
        refine ⟨_, rfl, _, _, rfl, rfl, ?_⟩
        have e : indexV (.int i) many = decide (i < many) := by
          show (decide (0 ≤ i) && decide (i < many)) = _
          rw [decide_eq_true c]
          rfl
        show Q (.bl (decide (i < many))) H
        rw [← e]
        exact q
      · rw [decide_eq_false c]
        have e : indexV (.int i) many = false := by
          show (decide (0 ≤ i) && decide (i < many)) = _
          rw [decide_eq_false c]
          rfl
        rw [e] at q
        exact q
    | _ => exact q
/-- a tuple of two, as it stands in the heap -/
def Kd.couple {H : Hp} {v : V} : Kd H v → Option (V × V)
  | .tup _ [x, y] _ => some (x, y)
  | _ => none
def spCouple : Sp := fun vs H Q _ => ∃ (v : V) (k : Kd H v), vs = [v] ∧ Q (.bl k.couple.isSome) H
theorem ok_couple {f : Addr} {fd : FuncData} (F : Fun K "is_couple" "is_couple" s_is_couple f fd) (T : TxtC mg) : FnOk P w K mg base CX0 1 f fd ["value"] spCouple := by
  refine F.ok sc_is_couple (fun vs H Q E h => ?_) (fun cdv A outer s H vs Q E hr h => ?_)
  · obtain ⟨v, k, rfl, _⟩ := h
    rfl
  · obtain ⟨v, k, rfl, q⟩ := h
    refine ⟨_, (pss_one (ps_ret (pe_and (pe_callB call_isi (by rfl) T.isinstance bb_isinstance (pa_cons (pv 0) (pa_cons (pe_bltn (v := .ty "tuple") (by rfl) T.tuple bt_tuple rfl) pa_nil))) (pe_one (pe_cmpR op_eq (pe_callB call_len_seq (by rfl) T.len PySem.boot_len (pa_cons (pv 0) pa_nil)) pe_int (nomark _)))))), ?_⟩
    refine ⟨_, rfl, v, .ty "tuple", _, _, _, rfl, .ty _, k.tyx, k.kit (by decide), _, rfl, ?_⟩
    cases k with
    | tup a xs h =>
      refine ⟨_, rfl, a, xs, rfl, .inr (.inl (.inl h)), rfl, ?_⟩
      match xs, h, q with
      | [], h, q => exact q
      | [_], h, q => exact q
      | [_, _], h, q => exact q
      | x :: y :: z :: r, h, q =>
        have e : decide (V.int ((x :: y :: z :: r).length : Int) = V.int 2) = false := by
          refine decide_eq_false fun c => ?_
          have c2 := V.int.inj c
          simp only [List.length_cons] at c2
          omega
        show Q (.bl (decide (V.int ((x :: y :: z :: r).length : Int) = V.int 2))) H
        rw [e]
        exact q
    | _ => exact q
/-- ("send", L) or ("get", L), L from 0 to many - 1 -/
def wordV (x : V) : Bool := match x with
  | .str z => inV (.str z) [.str "send", .str "get"]
  | _ => false
def Kd.doing {H : Hp} {v : V} (k : Kd H v) (many : Int) : Bool := match k.couple with
  | some (x, y) => wordV x && indexV y many
  | none => false
def spDoing : Sp := fun vs H Q _ => ∃ (v : V) (k : Kd H v) (many : Int), vs = [v, .int many] ∧ (∀ x y, k.couple = some (x, y) → Nonempty (Kd H x) ∧ Nonempty (Kd H y)) ∧ ∀ H', Same H H' → Q (.bl (k.doing many)) H'
structure TxtDo (K : PySem.W.Frag) (mg : Str → Option Value) (fC fI : Addr) : Prop extends TxtC mg where
  g_is_couple : mg "is_couple" = some (.ref fC)
  g_is_index : mg "is_index" = some (.ref fI)
theorem ok_doing {f fC fI : Addr} {fd fdC fdI : FuncData} (F : Fun K "is_doing" "is_doing" s_is_doing f fd) (T : TxtDo K mg fC fI) (F_is_couple : Fun K "is_couple" "is_couple" s_is_couple fC fdC) (b_is_couple : Binds K fdC ["value"] [])
    (F_is_index : Fun K "is_index" "is_index" s_is_index fI fdI) (b_is_index : Binds K fdI ["value", "many"] []) (G_is_index : FnOk P w K mg base CX0 2 fI fdI ["value", "many"] spIndex) : FnOk P w K mg base CX0 3 f fd ["value", "many"] spDoing := by
  have G_is_couple : FnOk P w K mg base CX0 1 fC fdC ["value"] spCouple := ok_couple F_is_couple T.toTxtC
  refine F.ok sc_is_doing (fun vs H Q E h => ?_) (fun cdv A outer s H vs Q E hr h => ?_)
  · obtain ⟨v, k, many, rfl, _⟩ := h
    rfl
  · obtain ⟨v, k, many, rfl, hk, q⟩ := h
    have hr_is_couple : Room 1 _ := hr.mono (by decide)
    have hr_is_index : Room 2 _ := hr.mono (by decide)
    refine ⟨_, (pss_cons (ps_if (pt_not (pt_val (pe_call G_is_couple hr_is_couple (by rfl) T.g_is_couple F_is_couple.kp b_is_couple .nil pass0 (pa_cons (pv 0) pa_nil)))) (pss_one (ps_ret pe_bl)) pss_nil) (pss_cons (ps_asg (pv 0) (pg_tup (by rfl) (pgs_cons (pg_name (i := 2) sc_is_doing.nd rfl (Or.inl rfl)) (pgs_cons (pg_name (i := 3) sc_is_doing.nd rfl (Or.inl rfl)) pgs_nil)))) (pss_one (ps_ret (pe_and (pe_callB call_isi (by rfl) T.isinstance bb_isinstance (pa_cons (pv 2) (pa_cons (pe_bltn (v := .ty "str") (by rfl) T.str bt_str rfl) pa_nil))) (pe_and (pe_cmpR op_in_seq (pv 2) (pe_tup (pa_cons pe_str (pa_cons pe_str pa_nil))) (by rfl)) (pe_one (pe_call G_is_index hr_is_index (by rfl) T.g_is_index F_is_index.kp b_is_index .nil pass0 (pa_cons (pv 3) (pa_cons (pv 1) pa_nil)))))))))), ?_⟩
    refine ⟨_, rfl, v, k, rfl, _, rfl, ?_⟩
    have q0 := q
    unfold Kd.doing at q
    cases e : k.couple with
    | none =>
      rw [e] at q
      exact q H (Same.refl H)
    | some p =>
      obtain ⟨x, y⟩ := p
      rw [e] at q
      obtain ⟨⟨kx⟩, ⟨ky⟩⟩ := hk x y e
      obtain ⟨a, rfl, ha⟩ : ∃ a, v = .ref a ∧ H a = some (.tup [x, y]) := by
        cases k with
        | tup a xs h =>
          match xs, h, e with
          | [x', y'], h, e =>
            have e2 := Option.some.inj e
            cases e2
            exact ⟨a, rfl, h⟩
        | _ => cases e
      refine ⟨_, rfl, a, [x, y], rfl, .inl (.inl ha), rfl, x, [y], rfl, y, [], rfl, rfl, ?_⟩
      refine ⟨_, rfl, x, .ty "str", _, _, _, rfl, .ty _, kx.tyx, kx.kit (by decide), _, rfl, ?_⟩
      cases kx with
      | str z =>
        refine ⟨_, rfl, (by show 2 ≤ sizeLine; decide), fun p np => ?_⟩
        have s1 : Same H (upd H p (.tup [.str "send", .str "get"])) := same_new np
        refine ⟨p, [.str "send", .str "get"], rfl, .inr (.inl (.inl upd_same)), rfl, rfl, _, rfl, ?_⟩
        obtain ⟨ky2⟩ := ky.same s1
        have q2 : Q (.bl (wordV (.str z) && indexV y many)) _ := q _ s1
        by_cases c : inV (.str z) [.str "send", .str "get"] = true
        · have e2 : wordV (.str z) = true := c
          rw [e2] at q2
          refine Eq.mpr (if_pos c) ?_
          exact ⟨_, rfl, _, rfl, y, ky2, many, rfl, q2⟩
        · have e3 : inV (.str z) [.str "send", .str "get"] = false := by simpa using c
          have e2 : wordV (.str z) = false := e3
          rw [e2] at q2
          exact Eq.mpr (if_neg c) q2
      | _ => exact q H (Same.refl H)
end
end Up

set_option Elab.async false
set_option linter.all false
set_option maxRecDepth 100000
set_option maxHeartbeats 4000000
/-! defs that are run where nothing is being shown (so that what they make may be shown), and what repr and max tell -/
namespace Up
open PySem PySem.Spec PyProof.Rows L2
/-- no repr is under way -/
def Quiet (A : Around) : Prop := A.guards = some []
/-- as FnOk, where no repr is under way -/
structure FnG (P : Program) (w : World) (K : PySem.W.Frag) (mg : Str → Option Value) (base : Heap) (CX : CXT) (k : Nat) (f : Addr) (fd : FuncData) (ps : List Str) (sp : Sp) : Prop where
  cnt : ∀ vs H Q E, sp vs H Q E → vs.length = ps.length
  go : ∀ (A : Around) (out : List Env) (st : Shared) (H : Hp) (ar : Args) (us : List Value) (vs : List V) (Q : VK) (E : XK), Quiet A → Room k A → Env0 P w K mg base A out st H → BindsTo st fd ar (ps.zip us) → Vals vs us → sp vs H Q E →
    codeAny (model P w) A (.call (.ref f) ar) (CR CX out P w H st Q E) st
theorem FnG.of {P : Program} {w : World} {K : PySem.W.Frag} {mg : Str → Option Value} {base : Heap} {CX : CXT} {k : Nat} {f : Addr} {fd : FuncData} {ps : List Str} {sp : Sp} (F : FnOk P w K mg base CX k f fd ps sp) : FnG P w K mg base CX k f fd ps sp :=
  ⟨F.len, fun A out st H ar us vs Q E _ => F.run A out st H ar us vs Q E⟩
section
variable {X : Cx} {CX : CXT} {k : Nat} {f : Addr} {fd : FuncData} {ps : List Str} {sp : Sp} {dvs : List V} {ds : List Value} {E : XK} {x : Str} {p pos : Pos} {e : Expr} {es : List Expr} {t : TA}
theorem runG {pins : List (Addr × Obj)} {σ : L2.St} {H : Hp} {st : Shared} {Q : VK} {us : List Value} {vs : List V} (hQ : Quiet X.A) (F : FnG X.prog X.w X.K X.mg X.base CX k f fd ps sp) (hr : Room k X.A) (hb : Binds X.K fd ps ds) (hd : Vals dvs ds) (hx : Passes CX X E)
    (I : Inv X pins σ H st) (rv : Vals vs us) (h : sp (vs ++ dvs) H Q E) : wpAny (model X.prog X.w) X.A (call (.ref f) us) (EP X pins σ Q) X.xe st := by
  have rw2 : Vals (vs ++ dvs) (us ++ ds) := rv.append hd
  have ln : (us ++ ds).length = ps.length := rw2.length.symm.trans (F.cnt _ _ _ _ h)
  refine wpAny_call (codeAny_mono (F.go X.A X.stack st H ⟨us, []⟩ (us ++ ds) (vs ++ dvs) Q E hQ hr I.env0 (hb st us I.kIn ln) rw2 h) fun res st2 hq => ?_)
  match res, hq with
  | .error er, hq => exact hx pins σ H st er st2 I hq
  | .ok (.ret u), hq => exact I.after hq
/-- f(..), f a def that is to run where no repr is under way -/
theorem pe_callG (hQ : Quiet X.A) (F : FnG X.prog X.w X.K X.mg X.base CX k f fd ps sp) (hr : Room k X.A) (hg : Gl X x) (hm : X.mg x = some (.ref f)) (hk : PySem.W.keepIn X.K (.ref f) = true) (hb : Binds X.K fd ps ds) (hd : Vals dvs ds) (hx : Passes CX X E)
    (ha : PA X (e :: es) t) (hdb : (x == ("__debug__" : Str)) = false := by decide) (he : starEach (e :: es) X.env = (false, eval e X.env) :: starEach es X.env := by rfl) (hpl : (backTo pos (starEach es X.env)).any (·.1) = false := by rfl) :
    PE X (.Call (.Name x p) (e :: es) [] pos) (tCall sp dvs E t) := by
  refine ⟨fun pins st σ H Q I hh => ?_⟩
  refine wpAny_Call_Name_kw (ld_glob I hg hm ?_ hdb)
  exact PySem.W.callWith_K (h₀ := X.base) I.ok.mod.kin hk (thn (ha.run pos pins st σ H _ I hh) fun us st1 ⟨vs, H1, I1, rv, q⟩ => ⟨I1.kIn, runG hQ F hr hb hd hx I1 rv q⟩) he hpl
end
/-- a def's body, where no repr is under way -/
theorem fn_ofG {CX : CXT} {P : Program} {w : World} {K : PySem.W.Frag} {mg : Str → Option Value} {base : Heap} {k : Nat} {f : Addr} {nm qual : Str} {params : Arguments} {body : List Stmt} {sc : Scope} {dV kV doc pm cdv ct oc : Value} {an od : Option Addr}
    {osl : Array (Option Value)} {N ps : List Str} {sp : Sp} (lk : K.lookup f = some ⟨oc, od, .func (PySem.W.fnOf nm qual params body sc dV kV doc pm an cdv ct), osl⟩) (hcd : PySem.W.codeIn K cdv qual = true) (S : FnScope N ps sc)
    (cnt : ∀ vs H Q E, sp vs H Q E → vs.length = ps.length)
    (hbody : ∀ (A : Around) (out : List Env) (st : Shared) (H : Hp) (vs : List V) (Q : VK) (E : XK), Quiet (A.deeper (envOfC qual sc st.heap.objs.size f cdv)) → Room k (A.deeper (envOfC qual sc st.heap.objs.size f cdv)) → sp vs H Q E →
      ∃ t, PSs (cxOf CX P w K mg base N qual sc f cdv A out st H E) body t ∧ t { nx := fun _ H' => Q .non H', rt := Q } (start N vs) H) :
    FnG P w K mg base CX (k + 1) f (PySem.W.fnOf nm qual params body sc dV kV doc pm an cdv ct) ps sp := by
  refine ⟨cnt, fun A out st H ar us vs Q E hQ hr e0 hb rv hsp => ?_⟩
  have ln := cnt _ _ _ _ hsp
  have KX : K.In st.heap := e0.mod.kin.keeps fun b o e => (e0.bs b o e).1
  have nl : st.heap.NoLimit := e0.mod.nolimit.keeps fun b o e => (e0.bs b o e).1
  have kinds : ∀ y ∈ ps.zip us, sc.names.lookup y.1 = some .local ∨ (sc.names.lookup y.1 = some .cell ∧ ((cellsFrom (st.heap.objs.size + 1) sc.names []).lookup y.1).isSome = true) := fun ⟨n, v⟩ hy =>
    (S.par n (List.of_mem_zip hy).1).imp id fun q => ⟨q, PySem.W.cellsFrom_some _ _ _ (.inl q)⟩
  refine codeAny_call_function hr.depth (KX _ _ lk) rfl S.co S.gen rfl (PySem.W.codeRec_of KX hcd) (hb _ _ _ _ (wpAny_newFunctionEnv_cells S.kind kinds fun env he s1 xc => ?_))
  subst he
  obtain ⟨t, ht, hq⟩ := hbody A out st H vs Q E hQ (hr.deeper _) hsp
  have I : Inv (cxOf CX P w K mg base N qual sc f cdv A out st H E) [] (start N vs) H s1 := inv_start S hr.hd e0 ln rv xc
  refine ⟨nl.keeps xc.toInCall.keep, codeAny_func (wpAny_mono (ht.run [] s1 (start N vs) H _ I hq) (fun fl s' hs => ?_) fun _ _ z => z)⟩
  match fl, hs with
  | .ret u, ⟨v, σ', H', J, rv', q⟩ => exact ⟨v, H', J.os, J.bare, J.base, J.hok, rv', q⟩
  | .next, ⟨σ', H', J, q⟩ => exact ⟨V.non, H', J.os, J.bare, J.base, J.hok, rfl, q⟩
  | .brk, ⟨_, _, _, q⟩ => exact q.elim
  | .cont, ⟨_, _, _, q⟩ => exact q.elim
section
variable {P : Program} {w : World} {K : PySem.W.Frag} {mg : Str → Option Value} {base : Heap}
theorem okG {x qual : Str} {st : Stmt} {f : Addr} {fd : FuncData} {N ps : List Str} {k : Nat} {sp : Sp} (F : Fun K x qual st f fd) (S : FnScope N ps (defScope st)) (cnt : ∀ vs H Q E, sp vs H Q E → vs.length = ps.length)
    (hbody : ∀ (cdv : Value) (A : Around) (out : List Env) (s : Shared) (H : Hp) (vs : List V) (Q : VK) (E : XK), Quiet (A.deeper (envOfC qual (defScope st) s.heap.objs.size f cdv)) → Room k (A.deeper (envOfC qual (defScope st) s.heap.objs.size f cdv)) → sp vs H Q E →
      ∃ t, PSs (cxOf CX0 P w K mg base N qual (defScope st) f cdv A out s H E).nox (defBody st) t ∧ t { nx := fun _ H' => Q .non H', rt := Q } (start N vs) H) : FnG P w K mg base CX0 (k + 1) f fd ps sp := by
  obtain ⟨oc, od, kV, doc, pm, an, cdv, ct, osl, rfl, lk, hcd⟩ := F.ex
  refine fn_ofG lk hcd S cnt fun A out s H vs Q E hQ hr hsp => ?_
  obtain ⟨t, h, q⟩ := hbody cdv A out s H vs Q E hQ hr hsp
  exact ⟨t, h.nox, q⟩
end
/-! ### the law's end, where no repr is under way -/
theorem quiet_top : Quiet callerA := rfl
theorem law_callG {P : Program} {w : World} {K : PySem.W.Frag} {mg mb : Str → Option Value} {k : Nat} {fa a : Addr} {fd : FuncData} {x : Str} {sp : Sp} {s0 : Shared} {vs : List Value} {ns : List Int}
    (KX : K.In s0.heap) (hns : s0.heap.Ns mainGlobals mg) (hb : s0.heap.Ns builtinsNs mb) (hbb : ∀ y : Str, y ≠ "__name__" → mb y = bootBuiltins y) (hlim : s0.heap.NoLimit) (hg : s0.gens = #[])
    (ha : s0.heap.get? a = some { cls := .type "list", data := .seq vs.toArray }) (hi : IntsAre vs ns) (hl : ns.length ≤ sizeLine) (hr : Room k callerA)
    (F : ∀ base : Heap, K.In base → base.Ns mainGlobals mg → FnG P w K mg base CX0 k fa fd [x] sp) (hbind : ∀ (st : Shared) (u : Value), BindsTo st fd ⟨[u], []⟩ [(x, u)])
    (hsp : ∀ H : Hp, SqL K H a (ns.map V.int) → sp [.ref a] H (fun v _ => v = .bl true) fun _ _ _ => False) :
    codeAny (model P w) callerA (.call (.ref fa) ⟨[.ref a], []⟩) (fun res s' => res = .ok (.ret (.bool true)) ∧ OldK s0.heap s'.heap ∧ s'.os = s0.os ∧ AllBare s'.gens) s0 := by
  have rv := vals_ints hi
  have lnV := hi.length
  have mid : ∀ H : Hp, Only H → SqL K H a (ns.map V.int) → HOk P w H s0.heap → (∀ b, H b ≠ none → b = a) → (H a ≠ none → K.lookup a = none) →
      codeAny (model P w) callerA (.call (.ref fa) ⟨[.ref a], []⟩) (fun res s' => res = .ok (.ret (.bool true)) ∧ OldK s0.heap s'.heap ∧ s'.os = s0.os ∧ AllBare s'.gens) s0 := by
    intro H hO hS hok hA hK
    have toBase : ∀ {b : Addr} {o : Obj}, s0.heap.get? b = some o → H b = none → (hidT s0.heap H).get? b = some o := fun e n => hidT_get e n
    have noDict : ∀ {b : Addr} {o : Obj} {es : Array DictEntry} {ep : Nat}, s0.heap.get? b = some o → o.data = .dict es ep → H b = none := fun {b o es ep} e d => by
      cases t : H b with
      | none => rfl
      | some u =>
        obtain rfl : b = a := hA b (by rw [t]; simp)
        cases e.symm.trans ha
        exact nomatch (show Data.seq vs.toArray _ = Data.dict es ep from d)
    have nsB : ∀ {b : Addr} {m : Str → Option Value}, s0.heap.Ns b m → (hidT s0.heap H).Ns b m := fun {b m} ⟨o, es, ep, e, d, r⟩ => ⟨o, es, ep, toBase e (noDict e d), d, r⟩
    have kinB : K.In (hidT s0.heap H) := fun b o e => toBase (KX b o e) (by
      cases t : H b with
      | none => rfl
      | some u =>
        obtain rfl : b = a := hA b (by rw [t]; simp)
        cases e.symm.trans (hK (by rw [t]; simp)))
    have modB : Mod K mg (hidT s0.heap H) := ⟨kinB, nsB hns, ⟨mb, nsB hb, hbb⟩, let ⟨mc, h1, h2⟩ := hlim; ⟨mc, nsB h1, h2⟩⟩
    have e0 : Env0 P w K mg (hidT s0.heap H) callerA [] s0 H := ⟨rfl, modB, fun b o e => of_hidT e, Nat.le_of_eq (hidT_size _ _), trivial, fun b hm => (List.not_mem_nil hm).elim, hok, .of_eq hg⟩
    refine codeAny_mono ((F _ kinB (nsB hns)).go callerA [] s0 H ⟨[.ref a], []⟩ [.ref a] [.ref a] _ _ quiet_top hr e0 (hbind s0 (.ref a)) (.cons rfl .nil) (hsp H hS)) fun res s' h => ?_
    match res, h with
    | .ok (.ret u), ⟨v, H', os, bare, un, hok', rr, q⟩ =>
      obtain rfl : v = .bl true := q
      obtain rfl : u = Value.bool true := rr
      refine ⟨rfl, OldK.of_keep fun b o e => ?_, os, bare⟩
      cases t : H b with
      | none => exact un.keep b o e t List.not_mem_nil List.not_mem_nil
      | some u =>
        rcases hO b with z | ⟨ob, xs, z⟩
        · exact nomatch z.symm.trans t
        · have e1 := (hok b _ z).1
          have e2 := (hok' b _ (un.frzs b ob _ z)).1
          rw [e] at e1
          cases e1
          exact e2
  cases hk : K.lookup a with
  | some o =>
    have e := KX a o hk
    rw [ha] at e
    cases e
    exact mid (fun _ => none) (fun _ => .inl rfl) (.inr ⟨_, vs.toArray, _, hk, rfl, rfl, rfl, by rw [List.size_toArray, lnV]; exact hl, by simpa using rv⟩) (fun b u z => nomatch (show (none : Option HO) = some u from z)) (fun b z => absurd rfl z) fun z => absurd rfl z
  | none =>
    have isA : ∀ {b : Addr} {u : HO}, (if b = a then some (HO.frz { cls := .type "list", data := .seq vs.toArray } (.lst (ns.map V.int))) else none) = some u → b = a := fun {b u} z => by
      by_cases t : b = a
      · exact t
      · rw [if_neg t] at z
        cases z
    refine mid (fun b => if b = a then some (.frz { cls := .type "list", data := .seq vs.toArray } (.lst (ns.map V.int))) else none) (fun b => ?_) (.inl (.inr ⟨{ cls := .type "list", data := .seq vs.toArray }, if_pos rfl⟩)) (fun b u z => ?_) (fun b z => ?_) fun _ => hk
    · by_cases t : b = a
      · exact .inr ⟨_, _, if_pos t⟩
      · exact .inl (if_neg t)
    · have t := isA z
      subst t
      cases (if_pos rfl).symm.trans z
      exact ⟨ha, by rw [List.length_map]; exact hl, vs, _, rv, ha⟩
    · by_cases t : b = a
      · exact t
      · exact absurd (if_neg t) z
theorem walk_ofG {l : PySem.W.OpenLaw} {n k : Nat} {q : Program} {loose : List Str} {XP : (Str → Option Value) → Heap → Prop} {YP : World → Heap → Prop} {d : DefRec} {K : Params → PySem.W.Frag} {sp : PySem.W.Frag → Sp} {x : Str}
    (hn : l.most = some n) (hn2 : n ≤ sizeLine) (hdf : d.params.defaults = []) (hr : Room k callerA)
    (hY : ∀ (w : World) (h : Heap), YP w h → (K w.params).In h)
    (F : ∀ (w : World) (mg : Str → Option Value) (fa : Addr) (h : Heap), (K w.params).In h → h.Ns mainGlobals mg → mg d.name = some (.ref fa) →
      ∃ fd : FuncData, (∀ (st : Shared) (u : Value), BindsTo st fd ⟨[u], []⟩ [(x, u)]) ∧
        ∀ base : Heap, (K w.params).In base → base.Ns mainGlobals mg → FnG l.prog w (K w.params) mg base CX0 k fa fd [x] (sp (K w.params)))
    (hsp : ∀ (K : PySem.W.Frag) (H : Hp) (a : Addr) (ns : List Int), ns.length ≤ n → SqL K H a (ns.map V.int) → sp K [.ref a] H (fun v _ => v = .bl true) fun _ _ _ => False) :
    PySem.W.WalkO q loose XP YP l.row.toRowW d [] (fun f vs => PySem.call f vs) := by
  refine Att.attach_call hn hdf fun w st st1 mg mb fa o pm cd doc a vs ns G Y ho hd hcd hmg hobj hints hlen hg => ?_
  have KX := hY w _ Y
  obtain ⟨fd, hb, hF⟩ := F w mg fa _ KX G.T.g hmg
  exact law_callG KX G.T.g G.T.b G.T.builtins G.T.nolimit hg hobj hints (Nat.le_trans hlen hn2) hr hF hb fun H hS => hsp (K w.params) H a ns hlen hS
/-! ### repr of data: the text hangs on the data alone -/
mutual
/-- data of any depth; as: where its lists and dicts stand -/
inductive Dq (K : PySem.W.Frag) (H : Hp) : V → PyData → List Addr → Prop
  | non : Dq K H .non .none []
  | bl (b : Bool) : Dq K H (.bl b) (.bool b) []
  | int (i : Int) : Dq K H (.int i) (.int i) []
  | str (x : Str) : Dq K H (.str x) (.str x) []
  | lst {a : Addr} {xs : List V} {ds : List PyData} {as : List Addr} : SqL K H a xs → DqAll K H xs ds as → Dq K H (.ref a) (.list ds) (a :: as)
  | tup {a : Addr} {xs : List V} {ds : List PyData} {as : List Addr} : SqT K H a xs → DqAll K H xs ds as → Dq K H (.ref a) (.tuple ds) as
  | dct {a : Addr} : H a = some (.dK []) → Dq K H (.ref a) (.dict []) [a]
inductive DqAll (K : PySem.W.Frag) (H : Hp) : List V → List PyData → List Addr → Prop
  | nil : DqAll K H [] [] []
  | cons {v : V} {vs : List V} {d : PyData} {ds : List PyData} {as bs : List Addr} : Dq K H v d as → DqAll K H vs ds bs → DqAll K H (v :: vs) (d :: ds) (as ++ bs)
end
section
variable {X : Cx} {pins : List (Addr × Obj)} {σ : L2.St} {H : Hp} {s : Shared}
mutual
theorem Dq.reads (I : Inv X pins σ H s) : ∀ (d : PyData) (v : V) (as : List Addr) (u : Value), Dq X.K H v d as → RelV v u → Reads s.heap u d as
  | .none, _, _, _, h, r => by
    cases h
    cases r
    exact Reads.none
  | .bool b, _, _, _, h, r => by
    cases h
    cases r
    exact Reads.bool b
  | .int i, _, _, _, h, r => by
    cases h
    obtain ⟨t, rfl⟩ := r
    exact Reads.int i t
  | .str x, _, _, _, h, r => by
    cases h
    obtain ⟨t, rfl⟩ := r
    exact Reads.str x t
  | .list ds, _, _, _, h, r => by
    cases h with
    | lst hs ha =>
      cases r
      obtain ⟨its, rv, ⟨o, n, ho, hc, _, hd⟩, _⟩ := I.list hs
      exact Reads.list ho hc hd (Dq.readsAll I ds _ _ its ha rv)
  | .tuple ds, _, _, _, h, r => by
    cases h with
    | tup hs ha =>
      cases r
      obtain ⟨its, rv, ⟨o, ho, hc, n, hd⟩, _⟩ := I.tuple hs
      exact Reads.tuple ho hc hd (Dq.readsAll I ds _ _ its ha rv)
  | .dict _, _, _, _, h, r => by
    cases h with
    | dct ha =>
      cases r
      obtain ⟨_, _, vs, kv, o, es, ep, ho, hx, hd, _, he, _⟩ := (show ObjOk X.prog X.w H s.heap _ (.dK []) from I.hok _ _ ha)
      cases kv
      have e0 : es.toList = [] := by
        cases t : es.toList with
        | nil => rfl
        | cons x r =>
          rw [t] at he
          cases he
      refine Reads.dict (as := []) (bs := []) ho hx.1 hd ?_ ?_ <;> rw [e0] <;> exact ReadsAll.nil
theorem Dq.readsAll (I : Inv X pins σ H s) : ∀ (ds : List PyData) (vs : List V) (as : List Addr) (us : List Value), DqAll X.K H vs ds as → Vals vs us → ReadsAll s.heap us ds as
  | [], _, _, _, h, r => by
    cases h
    cases r
    exact ReadsAll.nil
  | d :: ds, _, _, _, h, r => by
    cases h with
    | cons h1 h2 =>
      cases r with
      | cons r1 r2 => exact ReadsAll.cons (Dq.reads I d _ _ _ h1 r1) (Dq.readsAll I ds _ _ _ h2 r2)
end
end
section
variable {X : Cx}
/-- what repr asks: data that may be shown, of no great depth and length; its dicts, if any, are no module table -/
def rRepr (K : PySem.W.Frag) : List V → Hp → VK → Prop := fun xs H Q => ∃ (v : V) (d : PyData) (as : List Addr), xs = [v] ∧ Dq K H v d as ∧ d.showable = true ∧ (d.hasDict = true → ∀ b ∈ as, b ≠ sysModules ∨ ∃ kvs, H b = some (.dK kvs)) ∧
  d.depth ≤ 60 ∧ d.shown.length ≤ sizeLine ∧ Q (.str d.shown) H
theorem call_reprD (hQ : Quiet X.A) (hu : X.A.units + 64 < cLine) : CallR X (.builtin "repr") (rRepr X.K) := by
  intro pins s σ H xs us Q I r h
  obtain ⟨v, d, as, rfl, hd, hs, hm, hp, hz, q⟩ := h
  obtain ⟨u, rfl, ru⟩ := vals1 r
  have fin : ∀ h' u2 tk, (∀ b o, s.heap.get? b = some o → h'.get? b = some o) → EP X pins σ Q (.str d.shown u2) { s with heap := h', toks := tk } := fun h' u2 tk hk => ⟨.str _, H, I.kept hk, ⟨_, rfl⟩, q⟩
  have rd := Dq.reads I d v as u hd ru
  have nos : d.hasDict = true → sysModules ∉ as := fun c hmem => by
    rcases hm c _ hmem with z | ⟨kvs, z⟩
    · exact z rfl
    · obtain ⟨_, nz, _⟩ := (show ObjOk X.prog X.w H s.heap sysModules (.dK kvs) from I.hok _ _ z)
      exact absurd nz (by decide)
  cases hd with
  | non =>
    cases ru
    exact PySem.P.repr_of_none (fin s.heap _ _ fun _ _ e => e)
  | bl b =>
    cases ru
    exact PySem.P.repr_of_bool (by cases b <;> exact (fin s.heap _ _ fun _ _ e => e))
  | int i =>
    obtain ⟨t, rfl⟩ := ru
    exact PySem.P.repr_of_int (by simpa [PyData.showable] using hs) (fin s.heap _ _ fun _ _ e => e)
  | str x =>
    obtain ⟨t, rfl⟩ := ru
    exact PySem.P.repr_of_str (fin s.heap _ _ fun _ _ e => e) (by simpa [PyData.shown] using hz)
  | lst _ _ =>
    cases ru
    exact repr_of_reads' rd hs nos hQ (by omega) (fun _ _ e => e) fin hz
  | tup _ _ =>
    cases ru
    exact repr_of_reads' rd hs nos hQ (by omega) (fun _ _ e => e) fin hz
  | dct _ =>
    cases ru
    exact repr_of_reads' rd hs nos hQ (by omega) (fun _ _ e => e) fin hz
/-- max(xs, default=d) of a list of ints -/
def rMaxD (K : PySem.W.Frag) : List V → List V → Hp → VK → Prop := fun xs zs H Q => ∃ (p : Addr) (ns : List Int) (d : Int), xs = [.ref p] ∧ zs = [.int d] ∧ SqL K H p (ns.map V.int) ∧
  (ns = [] → Q (.int d) H) ∧ ∀ m, m ∈ ns → (∀ a ∈ ns, a ≤ m) → Q (.int m) H
theorem maxOf_ints : ∀ (ys : List Int) (y : Int), PySem.W.maxOf y ys ∈ y :: ys ∧ ∀ a ∈ y :: ys, a ≤ PySem.W.maxOf y ys
  | [], y => ⟨List.mem_cons_self .., fun a h => by
    rcases List.mem_cons.mp h with z | z
    · exact Int.le_of_eq z
    · cases z⟩
  | z :: ys, y => by
    have e : PySem.W.maxOf y (z :: ys) = PySem.W.maxOf (if y < z then z else y) ys := by
      unfold PySem.W.maxOf
      rw [List.foldl_cons]
      congr 1
      show (if decide (y < z) = true then z else y) = _
      by_cases c : y < z <;> simp [c]
    have k : y ≤ (if y < z then z else y) ∧ z ≤ (if y < z then z else y) ∧ ((if y < z then z else y) = y ∨ (if y < z then z else y) = z) := by
      by_cases c : y < z
      · rw [if_pos c]
        exact ⟨by omega, Int.le_refl _, .inr rfl⟩
      · rw [if_neg c]
        exact ⟨Int.le_refl _, by omega, .inl rfl⟩
    rw [e]
    revert k
    generalize (if y < z then z else y) = t
    intro ⟨k1, k2, k3⟩
    obtain ⟨h1, h2⟩ := maxOf_ints ys t
    have hw := h2 _ (List.mem_cons_self ..)
    refine ⟨?_, fun a ha => ?_⟩
    · rcases List.mem_cons.mp h1 with c | c
      · rw [c]
        rcases k3 with c | c <;> rw [c] <;> simp
      · exact List.mem_cons_of_mem _ (List.mem_cons_of_mem _ c)
    · rcases List.mem_cons.mp ha with c | c
      · rw [c]
        exact Int.le_trans k1 hw
      · rcases List.mem_cons.mp c with c | c
        · rw [c]
          exact Int.le_trans k2 hw
        · exact h2 _ (List.mem_cons_of_mem _ c)
theorem call_maxD (hc : X.calm = true) (hu : X.A.units + 64 < cLine) : CallRK X (.builtin "max") ["default"] (rMaxD X.K) := by
  intro pins s σ H xs zs us ws Q I r rz h
  obtain ⟨p, ns, d, rfl, rfl, hq, h0, h1⟩ := h
  obtain ⟨u, rfl, ru⟩ := vals1 r
  obtain ⟨u2, rfl, ru2⟩ := vals1 rz
  cases ru
  obtain ⟨its, rv, pl, _⟩ := I.list hq
  have hold : PySem.W.HoldAll s.heap its.toArray.toList ns := PySem.W.HoldAll.of_ints (by simpa using rv.ints)
  refine PySem.W.max_list_datum_default (α := Int) (I.ok.hd hc) pl.isList hold (by show X.A.units + 1 + 0 < cLine; omega) (fun e h' tk hk => ⟨.int d, H, I.kept hk, ru2, h0 e⟩) fun y ys i v h' tk e hi hv hk => ?_
  have hm := maxOf_ints ys y
  rw [← e] at hm
  refine ⟨.int (PySem.W.maxOf y ys), H, I.kept hk, ?_, h1 _ hm.1 hm.2⟩
  obtain ⟨as, rd⟩ := hv
  cases rd with
  | int i t => exact ⟨t, rfl⟩
end
end Up

set_option Elab.async false
set_option linter.all false
set_option maxRecDepth 100000
set_option maxHeartbeats 4000000
/-! an own exception class with one field, made as a value, by position or by name -/
namespace PySem
namespace UpX
open PySem.W PySem.Calls PyProof.Rows PySem.HandSPX
section
variable {prog : Program} {w : World} {A : Around} {E : Value → Shared → Prop} {R : Result → Shared → Prop} {hp : Heap} {gn : Array GenState} {dw : Drawn} {tk : Nat} {fs : OsState}
variable {nm q : Str} {C N : Addr} {bs bm bmB : List Value} {hdct : Bool} {sn : List Str} {sub : List Value} {ab : Bool} {col : Option Bool} {dd : Option Addr} {k0 k1 k2 k3 k5 : Option Value} {B newId initId : String}
theorem chk_new (F : ExcBaseFacts B newId initId bmB) (hT : ∀ X : String, bm.contains (.type X) = bmB.contains (.type X)) {rest : List Value} {kw : List (Str × Value)} {Q : Unit → Shared → Prop}
    (hC : hp.get? C = some (excClassObj nm q C N bs bm hdct sn sub ab col dd k0 k1 k2 k3 k5 newId)) (hq : Q () ⟨hp, gn, dw, tk, fs⟩) : wpAny (model prog w) A (checkBuiltinCall newId ⟨.ref C :: rest, kw⟩) Q E ⟨hp, gn, dw, tk, fs⟩ := by
  have cB : (Value.ref C :: bm).contains (.type B) = true := by rw [List.contains_cons, hT, F.hasB, Bool.or_true]
  have nst := F.noStar
  simp only [checkBuiltinCall, F.newKind, F.newSplit, F.newRow]
  repeat (first | refine wpAny_loadPart_at hC ?_ | (refine wpAny_isSubtype_exc hC ?_; rw [cB]) | refine wpAny_staticBase_exc hC ?_ | refine wpAny_madeBy_exc hC ?_ | simp only [bne_self_eq_false, Bool.false_eq_true, if_false] | wp_step)
  exact hq
theorem new_kw (F : ExcBaseFacts B newId initId bmB) (hT : ∀ X : String, bm.contains (.type X) = bmB.contains (.type X)) {rest : List Value} {kw : List (Str × Value)}
    (hC : hp.get? C = some (excClassObj nm q C N bs bm hdct sn sub ab col dd k0 k1 k2 k3 k5 newId))
    (hq : R (.ok (.ret (.ref (hp.objs.size + 1)))) ⟨(hp.push (W.kdv_tup rest)).push (excO C hp.objs.size), gn, dw, tk, fs⟩) (hrest : rest.length ≤ sizeLine) :
    codeAny (model prog w) A (.builtin newId ⟨.ref C :: rest, kw⟩) R ⟨hp, gn, dw, tk, fs⟩ := by
  have fe := F.ends
  have cB : (Value.ref C :: bm).contains (.type B) = true := by rw [List.contains_cons, hT, F.hasB, Bool.or_true]
  have cA : (Value.ref C :: bm).contains (.type "AttributeError") = false := by rw [List.contains_cons, hT, F.noAttr]; rfl
  have cN : (Value.ref C :: bm).contains (.type "NameError") = false := by rw [List.contains_cons, hT, F.noName]; rfl
  refine codeAny_builtinAt F.entry ?_
  unfold Builtin.«BaseException.__new__»
  refine wpAt_bind ?_
  show wpAt _ _ _ (stack >>= _) _ _ _
  refine wpAt_bind (wpAt_stack fun p below => wpAt_of_wpAny ?_)
  wp_walk
  refine wpAt_of_wpAny ?_
  rw [F.owner]
  repeat (first | with_reducible refine wpAny_madeHere_exc F.canon hC ?_ | with_reducible refine wpAny_loadPart_at hC ?_ | (with_reducible refine wpAny_isSubtype_exc hC ?_; first | rw [cB] | rw [cA] | rw [cN]) | wp_step)
  show R _ _
  rw [Heap.size_push]
  exact hq
theorem type_kw (F : ExcBaseFacts B newId initId bmB) (hT : ∀ X : String, bm.contains (.type X) = bmB.contains (.type X)) {rest : List Value} {kw : List (Str × Value)} {fI : Addr} {Q : Fin → Shared → Prop}
    (hC : hp.get? C = some (excClassObj nm q C N bs bm hdct sn sub ab col dd k0 k1 k2 k3 k5 newId))
    (hi : W.Looks (model prog w) hp (typeLookup (.ref C) "__init__") (some (.ref fI))) (hb : ∀ self, W.Looks (model prog w) hp (bindSpecial (.ref fI) self) (.ref fI, [self])) (hrest : rest.length ≤ sizeLine)
    (hq : codeAny (model prog w) A (.call (.ref fI) ⟨.ref (hp.objs.size + 1) :: rest, kw⟩)
      (fun r s' => match r with | .ok (.ret v) => v = .none ∧ Q (.done (.ret (.ref (hp.objs.size + 1)))) s' | .ok _ => False | .error e => E e s')
      ⟨(hp.push (W.kdv_tup rest)).push (excO C hp.objs.size), gn, dw, tk, fs⟩) :
    wpAny (model prog w) A (Builtin.«type.__call__» ⟨.ref C :: rest, kw⟩) Q E ⟨hp, gn, dw, tk, fs⟩ := by
  repeat (first | with_reducible refine wpAny_loadPart_at hC ?_ | with_reducible refine wpAny_madeBy_exc hC ?_ | wp_step)
  refine codeAny_call_builtin_code (Code.quiet_builtin _ F.quiet) (chk_new F hT hC (new_kw F hT hC ?_ hrest))
  show wpAny _ _ _ _ _ _
  have kk : ∀ b o, hp.get? b = some o → ((hp.push (W.kdv_tup rest)).push (excO C hp.objs.size)).get? b = some o := fun b o e => Heap.get?_push_of_some _ (Heap.get?_push_of_some _ e)
  have hC1 := kk _ _ hC
  have he : ((hp.push (W.kdv_tup rest)).push (excO C hp.objs.size)).get? (hp.objs.size + 1) = some (excO C hp.objs.size) := by heap_get
  have selfC : (Value.ref C :: bm).contains (.ref C) = true := by simp
  have i1 := hi.keeps kk
  have b1 := (hb (.ref (hp.objs.size + 1))).keeps kk
  unfold isInstance
  repeat (first | with_reducible refine wpAny_loadPart_at he ?_ | (with_reducible refine wpAny_isSubtype_exc hC1 ?_; rw [selfC]) | wp_step)
  show wpAny _ _ (typeLookup (.ref C) _) _ _ _
  refine i1.at (wpAny_holding (wpAny_bind (b1.at (wpAny_bind (wpAny_call (codeAny_mono hq fun r s' z => ?_))))))
  rcases r with e | (v | _ | _ | _) <;> first | exact z | exact z.elim | skip
  obtain ⟨rfl, z⟩ := z
  first
    | exact wpAny_pure (wpAny_pure z)
    | (wp_walk; exact z)
theorem call_kw (F : ExcBaseFacts B newId initId bmB) (hT : ∀ X : String, bm.contains (.type X) = bmB.contains (.type X)) {rest : List Value} {kw : List (Str × Value)} {fI : Addr}
    (hC : hp.get? C = some (excClassObj nm q C N bs bm hdct sn sub ab col dd k0 k1 k2 k3 k5 newId))
    (hi : W.Looks (model prog w) hp (typeLookup (.ref C) "__init__") (some (.ref fI))) (hb : ∀ self, W.Looks (model prog w) hp (bindSpecial (.ref fI) self) (.ref fI, [self])) (hrest : rest.length ≤ sizeLine)
    (hq : codeAny (model prog w) (A.under (.builtin "type.__call__" ⟨.ref C :: rest, kw⟩)) (.call (.ref fI) ⟨.ref (hp.objs.size + 1) :: rest, kw⟩) (W.InitBack (hp.objs.size + 1) R)
      ⟨(hp.push (W.kdv_tup rest)).push (excO C hp.objs.size), gn, dw, tk, fs⟩) :
    codeAny (model prog w) A (.call (.ref C) ⟨rest, kw⟩) R ⟨hp, gn, dw, tk, fs⟩ := by
  have f1 := tc_lookup
  have f2 := tc_bind (.ref C)
  have ty : (⟨hp, gn, dw, tk, fs⟩ : Shared).TypeIs (.ref C) "type" := ⟨_, hC, rfl⟩
  refine codeAny_of_tree ?_
  show wpAny _ _ (callAny (.ref C) _) _ _ _
  repeat (any_goals (first | assumption | with_reducible refine wpAny_loadPart_at hC ?_ | wp_step))
  refine ⟨rfl, codeAny_call_builtin_at (Code.quiet_builtin _ (by decide +kernel)) entry_typeCall (wpAny_check_type_call_sub hC (type_kw F hT hC hi hb hrest (codeAny_mono hq fun r s' z => ?_)))⟩
  rcases r with e | (v | _ | _ | _) <;> exact z
end
end UpX
end PySem
namespace Up
open PySem PySem.Spec PyProof.Rows L2
/-- what the written part says of such a class -/
structure XCls (K : PySem.W.Frag) (C : Addr) : Prop where
  oex : OexC K C
  ga : PySem.W.findIn K (.ref C) "__getattribute__" = some (some (.builtin "BaseException.__getattribute__"))
  gg : PySem.W.findIn K (.ref C) "__getattr__" = some none
  hd : PySem.W.hasDictIn K C = true
  cl : (PySem.W.clsIn K C).isSome = true
  ca : PySem.W.findIn K (.ref C) "__class__" = some (some (.builtin "object.__class__"))
  cn : PySem.W.specialIn K (.builtin "object.__class__") "__get__" = some (some (.builtin "getset_descriptor.__get__"))
  ct : PySem.W.takesIn K (.builtin "object.__class__") = some true
  cm : PySem.W.mroIn K C (.type "object") = some true
/-- a made exception at a: its class, its one field -/
structure XAt (H : Hp) (a C : Addr) (f : Str) (v : V) : Prop where
  ex : ∃ d, H a = some (exo a C (some d)) ∧ H d = some (exd d [(f, v)])
theorem XAt.same {H H' : Hp} {a C : Addr} {f : Str} {v : V} (x : XAt H a C f v) (s : Same H H') : XAt H' a C f v := by
  obtain ⟨d, h1, h2⟩ := x.ex
  exact ⟨d, s _ _ h1, s _ _ h2⟩
/-- __init__(self, field): self.field = field -/
def spXInit (C : Addr) (f : Str) : Sp := fun vs H Q _ => ∃ (a : Addr) (v : V), vs = [.ref a, v] ∧ H a = some (exo a C none) ∧ ∀ d, H d = none → d ≠ a → Q .non (upd (upd H d (exd d [(f, v)])) a (exo a C (some d)))
section
variable {X : Cx} {e : Expr} {es : List Expr} {ta te : TE} {t tk : TA} {p pos : Pos} {kws : List Keyword}
/-- C(e) as a value -/
def tXV (C : Addr) (sp : Sp) (t : TA) : TE := fun σ H Q => t σ H fun vs H1 => vs.length ≤ 1000 ∧ ∀ a, H1 a = none → sp (.ref a :: vs) (upd H1 a (exo a C none)) (fun v H2 => v = .non ∧ Q (.ref a) H2) fun _ _ _ => False
theorem made {pins : List (Addr × Obj)} {σ : L2.St} {H1 : Hp} {s1 : Shared} {Q : VK} {CX : CXT} {C fI : Addr} {k : Nat} {fd : FuncData} {ps : List Str} {sp : Sp} {us : List Value} {kw : List (Str × Value)} {bs : List Value} {vs : List V} (T : OexC X.K C)
    (iC : PySem.W.findIn X.K (.ref C) "__init__" = some (some (.ref fI))) (tI : PySem.W.typeIn X.K (.ref fI) = some (.type "function")) (F1 : FnOk X.prog X.w X.K X.mg X.base CX k fI fd ps sp) (hr : Room (k + 1) X.A) (hx : Passes CX X (fun _ _ _ => False))
    (I1 : Inv X pins σ H1 s1) (hus : us.length ≤ sizeLine) (hb : ∀ (a : Addr) (st : Shared), X.K.In st.heap → BindsTo st fd ⟨.ref a :: us, kw⟩ (ps.zip (.ref a :: bs))) (rv : Vals vs bs)
    (h : ∀ a, H1 a = none → sp (.ref a :: vs) (upd H1 a (exo a C none)) (fun v H2 => v = .non ∧ Q (.ref a) H2) fun _ _ _ => False) :
    wpAny (model X.prog X.w) X.A (call (.ref C) us kw) (EP X pins σ Q) X.xe s1 := by
  obtain ⟨nm, q, N, bs', bm, sn, sub, ab, col, dd, k0, k1, k2, k3, k5, hC, hbm⟩ := T.cls
  obtain ⟨hp, gn, dw, tk, fs⟩ := s1
  have le : hp.objs.size ≤ hp.objs.size + 1 := Nat.le_succ _
  have hn : H1 (hp.objs.size + 1) = none := I1.hok.fresh le
  have hq := h (hp.objs.size + 1) hn
  have kk : ∀ b o, hp.get? b = some o → ((hp.push (PySem.W.kdv_tup us)).push (PySem.HandSPX.excO C hp.objs.size)).get? b = some o := fun b o t => Heap.get?_push_of_some _ (Heap.get?_push_of_some _ t)
  have he : ((hp.push (PySem.W.kdv_tup us)).push (PySem.HandSPX.excO C hp.objs.size)).get? (hp.objs.size + 1) = some (PySem.HandSPX.excO C hp.objs.size) := by heap_get
  have I2 : Inv X pins σ (upd H1 (hp.objs.size + 1) (exo (hp.objs.size + 1) C none)) ⟨(hp.push (PySem.W.kdv_tup us)).push (PySem.HandSPX.excO C hp.objs.size), gn, dw, tk, fs⟩ :=
    I1.laid (t' := tk) (a := hp.objs.size + 1) (o := exo (hp.objs.size + 1) C none) (h' := (hp.push (PySem.W.kdv_tup us)).push (PySem.HandSPX.excO C hp.objs.size)) kk le (exo_ok he)
  refine wpAny_call (PySem.UpX.call_kw PySem.F.excBase_ValueError (fun Y => PySem.HandSPX.refsVE_contains Y bm hbm) (I1.kIn _ _ hC) (PySem.W.looks_findIn I1.kIn iC) (fun self => PySem.W.bind_fn I1.kIn self tI) hus
    (codeAny_mono (F1.run _ X.stack _ _ ⟨Value.ref (hp.objs.size + 1) :: us, kw⟩ (Value.ref (hp.objs.size + 1) :: bs) _ _ (fun _ _ _ => False) (hr.make C us kw) (I2.env0.make C us kw) (hb _ _ I2.kIn) (show Vals (V.ref (hp.objs.size + 1) :: vs) (Value.ref (hp.objs.size + 1) :: bs) from .cons rfl rv) hq) fun r s' hq' => ?_))
  match r, hq' with
  | .error er, hq' => exact hx pins σ _ _ er s' I2 hq'
  | .ok (.ret u), hq' =>
    obtain ⟨v, H2, J, rr, ev, q2⟩ := I2.after hq'
    subst ev
    exact ⟨rr, .ref (hp.objs.size + 1), H2, J, rfl, q2⟩
theorem pe_xv {CX : CXT} {x : Str} {C fI : Addr} {k : Nat} {fd : FuncData} {ps : List Str} {sp : Sp} (T : OexC X.K C) (iC : PySem.W.findIn X.K (.ref C) "__init__" = some (some (.ref fI))) (tI : PySem.W.typeIn X.K (.ref fI) = some (.type "function"))
    (F1 : FnOk X.prog X.w X.K X.mg X.base CX k fI fd ps sp) (hr : Room (k + 1) X.A) (hb : Binds X.K fd ps []) (hx : Passes CX X (fun _ _ _ => False)) (hg : Gl X x) (hm : X.mg x = some (.ref C)) (ha : PA X (e :: es) t)
    (hdb : (x == ("__debug__" : Str)) = false := by decide) (he : starEach (e :: es) X.env = (false, eval e X.env) :: starEach es X.env := by rfl) (hpl : (backTo pos (starEach es X.env)).any (·.1) = false := by rfl) :
    PE X (.Call (.Name x p) (e :: es) [] pos) (tXV C sp t) := by
  refine ⟨fun pins s σ H Q I h => ?_⟩
  refine wpAny_Call_Name_kw (ld_glob I hg hm ?_ hdb)
  refine PySem.W.callWith_K (h₀ := X.base) I.ok.mod.kin T.kC (thn (ha.run pos pins s σ H _ I h) fun us s1 ⟨vs, H1, I1, r1, hz, q1⟩ => ⟨I1.kIn, ?_⟩) he hpl
  have hus : us.length ≤ sizeLine := by
    rw [← Paired.length r1, sizeLine_eq]
    omega
  refine made (bs := us) (kw := []) T iC tI F1 hr hx I1 hus (fun a st hK => ?_) r1 q1
  have ln : (Value.ref a :: us ++ []).length = ps.length := by
    have hq := q1 (s1.heap.objs.size + 1) (I1.hok.fresh (Nat.le_succ _))
    have e1 := F1.len _ _ _ _ hq
    rw [List.append_nil, ← e1, List.length_cons, List.length_cons, Paired.length r1]
  have hb2 := hb st (.ref a :: us) hK ln
  rw [List.append_nil] at hb2
  exact hb2
/-- C(field=e) as a value -/
def tXK (C : Addr) (sp : Sp) (te : TE) : TE := fun σ H Q => te σ H fun v H1 => ∀ a, H1 a = none → sp [.ref a, v] (upd H1 a (exo a C none)) (fun z H2 => z = .non ∧ Q (.ref a) H2) fun _ _ _ => False
theorem pe_xk {CX : CXT} {x f : Str} {C fI : Addr} {k : Nat} {fd : FuncData} {ps : List Str} {sp : Sp} (T : OexC X.K C) (iC : PySem.W.findIn X.K (.ref C) "__init__" = some (some (.ref fI))) (tI : PySem.W.typeIn X.K (.ref fI) = some (.type "function"))
    (F1 : FnOk X.prog X.w X.K X.mg X.base CX k fI fd ps sp) (hr : Room (k + 1) X.A) (hb : ∀ (a : Addr) (u : Value) (st : Shared), X.K.In st.heap → BindsTo st fd ⟨[.ref a], [(f, u)]⟩ (ps.zip [.ref a, u])) (hx : Passes CX X (fun _ _ _ => False)) (hg : Gl X x) (hm : X.mg x = some (.ref C)) (hk : PK X kws (tCons te tNil))
    (hall : (backToKw pos (keywordEach kws X.env)).all (·.1.isSome) = true := by rfl) (hks : (backToKw pos (keywordEach kws X.env)).filterMap (·.1) = [f] := by rfl) (hdb : (x == ("__debug__" : Str)) = false := by decide)
    (hpl : ((backTo pos (starEach [] X.env)).any (·.1) || (backToKw pos (keywordEach kws X.env)).any (·.1.isNone)) = false := by rfl) :
    PE X (.Call (.Name x p) [] kws pos) (tXK C sp te) := by
  refine ⟨fun pins s σ H Q I h => ?_⟩
  refine wpAny_Call_Name_kw (ld_glob I hg hm ?_ hdb)
  have h2 : (tCons te tNil) σ H fun vs H1 => ∃ v, vs = [v] ∧ ∀ a, H1 a = none → sp [.ref a, v] (upd H1 a (exo a C none)) (fun z H2 => z = .non ∧ Q (.ref a) H2) fun _ _ _ => False := by
    have e : (fun (v : V) (H1 : Hp) => ∃ v', [v] = [v'] ∧ ∀ a, H1 a = none → sp [.ref a, v'] (upd H1 a (exo a C none)) (fun z H2 => z = .non ∧ Q (.ref a) H2) fun _ _ _ => False) = fun v H1 => ∀ a, H1 a = none → sp [.ref a, v] (upd H1 a (exo a C none)) (fun z H2 => z = .non ∧ Q (.ref a) H2) fun _ _ _ => False := by
      funext v H1
      refine propext ⟨fun ⟨v', e, q⟩ => ?_, fun q => ⟨v, rfl, q⟩⟩
      cases e
      exact q
    show te σ H (fun (v : V) (H1 : Hp) => ∃ v', [v] = [v'] ∧ ∀ a, H1 a = none → sp [.ref a, v'] (upd H1 a (exo a C none)) (fun z H2 => z = .non ∧ Q (.ref a) H2) fun _ _ _ => False)
    rw [e]
    exact h
  refine PySem.W.callWith_KW0 (h₀ := X.base) I.ok.mod.kin T.kC hall (thn (hk.run pos pins s σ H _ I h2) fun ws s1 ⟨zs, H1, I1, rz, v, ez, q⟩ => ⟨I1.kIn, ?_⟩) hpl
  subst ez
  cases rz with
  | @cons _ u _ _ ru rn =>
    cases rn
    rw [hks]
    exact made (us := []) (bs := [u]) (kw := [(f, u)]) T iC tI F1 hr hx I1 (Nat.zero_le _) (fun a st hK => hb a u st hK) (.cons ru .nil) q
/-- the field of such a value -/
def tXF (K : PySem.W.Frag) (f : Str) (te : TE) : TE := fun σ H Q => te σ H fun x H1 => ∃ (a C : Addr) (v : V), x = .ref a ∧ XCls K C ∧ PySem.W.findIn K (.ref C) f = some none ∧ XAt H1 a C f v ∧ Q v H1
theorem pe_xf {f : Str} (he : PE X e te) (hb : attributeBase e f X.env (eval e X.env) = eval e X.env := by rfl) : PE X (.Attribute e f pos) (tXF X.K f te) := by
  refine ⟨fun pins s σ H Q I h => ?_⟩
  refine attr_of hb (thn (he.run pins s σ H _ I h) fun u s1 hh => ?_)
  obtain ⟨x, H1, I1, rx, a, C, v, ex, T, noF, ⟨d, ha, hd⟩, q⟩ := hh
  subst ex
  obtain rfl : u = Value.ref a := rx
  obtain ⟨t1, ho⟩ := exo_at I1.hok ha
  obtain ⟨mA, hns, hr⟩ := exd_at I1.hok hd
  obtain ⟨od, hod, hl⟩ := lookIn_ns hns
  have lk : List.lookup f [(f, v)] = some v := by simp [List.lookup]
  obtain ⟨u, hu, ru⟩ := RelO.some_of (v := v) (o := mA f) (by rw [← lk]; exact hr f)
  have J : PySem.W.InstAt s1.heap a { cls := .ref C, dict := some d, data := .fields #[.ref t1, .none, .none, .none, .bool false, .none] } C (some od) := ⟨ho, rfl, by unfold PySem.W.notCls; rfl, hod⟩
  exact PySem.HandSPX.exc_get I1.kIn J T.ga T.gg T.oex.exC (PySem.W.findObj_own T.hd noF rfl (by rw [hl, hu])) (handed_of ru) ⟨v, H1, I1.tok _, ru, q⟩
/-- isinstance of such a value -/
def rIsX (K : PySem.W.Frag) : List V → Hp → VK → Prop := fun xs H Q => ∃ (a C : Addr) (d : Option Addr) (fs : List (Str × V)) (c : V) (u : Value) (b : Bool), xs = [.ref a, c] ∧ ClsV c u ∧ XCls K C ∧ H a = some (exo a C d) ∧ (∀ d', d = some d' → H d' = some (exd d' fs)) ∧ PySem.W.kitOne K (.ref C) u = some b ∧ Q (.bl b) H
theorem call_isX : CallR X (.builtin "isinstance") (rIsX X.K) := by
  intro pins s σ H xs us Q I r h
  obtain ⟨a, C, d, fs, c, u, b, rfl, k, T, ha, hd, e, q⟩ := h
  obtain ⟨u1, u2, rfl, r1, r2⟩ := vals2 r
  have e2 := k.eq r2
  subst e2
  obtain rfl : u1 = Value.ref a := r1
  obtain ⟨t1, ho⟩ := exo_at I.hok ha
  have fin : ∀ tk, EP X pins σ Q (.bool b) { s with toks := tk } := fun tk => ⟨.bl b, H, I.tok tk, rfl, q⟩
  cases d with
  | none => exact PySem.W.kia_one (PySem.W.kitx_exc (od := none) T.cl T.ga T.gg T.oex.exC T.ca T.cn T.ct T.cm) I.kIn ⟨ho, rfl, by unfold PySem.W.notCls; rfl, True.intro⟩ e (fun z => nomatch z) fin
  | some d' =>
    obtain ⟨mA, ⟨od, es, ep, hod, hr⟩, _⟩ := exd_at I.hok (hd d' rfl)
    exact PySem.W.kia_one (PySem.W.kitx_exc (od := some od) T.cl T.ga T.gg T.oex.exC T.ca T.cn T.ct T.cm) I.kIn ⟨ho, rfl, by unfold PySem.W.notCls; rfl, hod⟩ e (fun z => nomatch z) fin
end
section
variable {P : Program} {w : World} {K : PySem.W.Frag} {mg : Str → Option Value} {base : Heap}
end
end Up

/-! rows are copied -/
namespace Up
open PySem PySem.Spec PyProof.Rows L2
abbrev s_copied_rows : Stmt := (topS 22)
theorem sc_copied_rows : FnScope ["rows", "row"] ["rows"] (defScope s_copied_rows) := ⟨rfl, rfl, rfl, by decide +kernel, rfl, by decide +kernel, by decide +kernel⟩
def Kd.up {H H' : Hp} {v : V} (s : Same H H') : Kd H v → Kd H' v
  | .non => .non
  | .bl b => .bl b
  | .int i => .int i
  | .str x => .str x
  | .lst a xs h => .lst a xs (s _ _ h)
  | .tup a xs h => .tup a xs (s _ _ h)
  | .dct a kvs h => .dct a kvs (s _ _ h)
theorem Kd.up_ty {H H' : Hp} {v : V} (s : Same H H') (k : Kd H v) : (k.up s).ty = k.ty := by cases k <;> rfl
def Kd.list? {H : Hp} {v : V} : Kd H v → Option (List V)
  | .lst _ xs _ => some xs
  | .tup _ xs _ => some xs
  | _ => none
theorem Kd.kitLT {K : PySem.W.Frag} {H : Hp} {v : V} (k : Kd H v) : PySem.W.kitAny K (.type k.ty) [.type "list", .type "tuple"] = some k.list?.isSome := by
  have h1 := k.kit (K := K) (t := "list") (by decide)
  have h2 := k.kit (K := K) (t := "tuple") (by decide)
  unfold PySem.W.kitAny
  rw [h1]
  cases k <;> first
    | rfl
    | (unfold PySem.W.kitAny; exact (by rw [h2] <;> rfl))
/-- a list or a tuple, made by the program -/
def LT (H : Hp) (a : Addr) (xs : List V) : Prop := H a = some (.lst xs) ∨ H a = some (.tup xs)
theorem LT.ta {K : PySem.W.Frag} {H : Hp} {a : Addr} {xs : List V} (h : LT H a xs) : LTa K H a xs := h.imp (fun h => .inl (.inl h)) fun h => .inl (.inl h)
theorem LT.same {H H' : Hp} {a : Addr} {xs : List V} (s : Same H H') (h : LT H a xs) : LT H' a xs := h.imp (s _ _) (s _ _)
theorem LT.kd {H : Hp} {a : Addr} {xs : List V} (h : LT H a xs) : ∃ k : Kd H (.ref a), k.list? = some xs := by
  rcases h with h | h
  · exact ⟨.lst a xs h, rfl⟩
  · exact ⟨.tup a xs h, rfl⟩
section
variable {P : Program} {w : World} {K : PySem.W.Frag} {mg : Str → Option Value} {base : Heap}
def listingV {H : Hp} {v : V} (k : Kd H v) (most : Int) : Bool := match k.list? with
  | some xs => decide ((xs.length : Int) ≤ most)
  | none => false
def spListing : Sp := fun vs H Q _ => ∃ (v : V) (k : Kd H v) (most : Int), vs = [v, .int most] ∧ ∀ H', Same H H' → Q (.bl (listingV k most)) H'
theorem ok_listing {f : Addr} {fd : FuncData} (F : Fun K "is_listing" "is_listing" s_is_listing f fd) (T : TxtC mg) : FnOk P w K mg base CX0 1 f fd ["value", "most"] spListing := by
  refine F.ok sc_is_listing (fun vs H Q E h => ?_) (fun cdv A outer s H vs Q E hr h => ?_)
  · obtain ⟨v, k, most, rfl, _⟩ := h
    rfl
  · obtain ⟨v, k, most, rfl, q⟩ := h
    refine ⟨_, (pss_one (ps_ret (pe_and (pe_callB call_isiT (by rfl) T.isinstance bb_isinstance (pa_cons (pv 0) (pa_cons (pe_tup (pa_cons (pe_bltn (v := .ty "list") (by rfl) T.list bt_list rfl) (pa_cons (pe_bltn (v := .ty "tuple") (by rfl) T.tuple bt_tuple rfl) pa_nil))) pa_nil))) (pe_one (pe_cmpR op_le (pe_callB call_len_seq (by rfl) T.len PySem.boot_len (pa_cons (pv 0) pa_nil)) (pv 1) (nomark _)))))), ?_⟩
    refine ⟨_, rfl, (by show 2 ≤ sizeLine; decide), fun p np => ?_⟩
    have s1 : Same H (upd H p (.tup [.ty "list", .ty "tuple"])) := same_new np
    refine ⟨v, p, [.ty "list", .ty "tuple"], _, [.type "list", .type "tuple"], _, rfl, upd_same, .cons (.ty _) (.cons (.ty _) .nil), (k.up s1).tyx, (k.up s1).kitLT, _, rfl, ?_⟩
    have q1 := q _ s1
    unfold listingV at q1
    cases k with
    | lst a xs h => exact ⟨_, rfl, a, xs, rfl, .inl (.inl (.inl (s1 _ _ h))), _, rfl, _, _, rfl, rfl, q1⟩
    | tup a xs h => exact ⟨_, rfl, a, xs, rfl, .inr (.inl (.inl (s1 _ _ h))), _, rfl, _, _, rfl, rfl, q1⟩
    | _ => exact q1
/-- rows, as lists or tuples: the items of each -/
structure RowsIn (H : Hp) (a : Addr) (xss : List (List V)) : Prop where
  ex : ∃ rs : List Addr, LT H a (rs.map V.ref) ∧ rs.length = xss.length ∧ ∀ (i : Nat) (r : Addr) (xs : List V), rs[i]? = some r → xss[i]? = some xs → LT H r xs
/-- rows, as a tuple of tuples -/
structure RowsT (H : Hp) (p : Addr) (xss : List (List V)) : Prop where
  ex : ∃ ts : List Addr, H p = some (.tup (ts.map V.ref)) ∧ ts.length = xss.length ∧ ∀ (i : Nat) (t : Addr) (xs : List V), ts[i]? = some t → xss[i]? = some xs → H t = some (.tup xs)
theorem RowsT.same {H H' : Hp} {p : Addr} {xss : List (List V)} (s : Same H H') (h : RowsT H p xss) : RowsT H' p xss := by
  obtain ⟨ts, h1, h2, h3⟩ := h.ex
  exact ⟨ts, s _ _ h1, h2, fun i t xs e1 e2 => s _ _ (h3 i t xs e1 e2)⟩
theorem RowsIn.same {H H' : Hp} {p : Addr} {xss : List (List V)} (s : Same H H') (h : RowsIn H p xss) : RowsIn H' p xss := by
  obtain ⟨ts, h1, h2, h3⟩ := h.ex
  exact ⟨ts, h1.same s, h2, fun i t xs e1 e2 => (h3 i t xs e1 e2).same s⟩
def spCopy : Sp := fun vs H Q _ => ∃ (a : Addr) (xss : List (List V)), vs = [.ref a] ∧ RowsIn H a xss ∧ 1 ≤ xss.length ∧ xss.length ≤ 6 ∧ ∀ H' p, Same H H' → RowsT H' p xss → Q (.ref p) H'
structure TxtR (K : PySem.W.Frag) (mg : Str → Option Value) (fL : Addr) : Prop extends TxtC mg where
  g_is_listing : mg "is_listing" = some (.ref fL)
  g_MOST_HANDS : ∃ t, mg "MOST_HANDS" = some (.int 6 t)
theorem map_get {l : List Addr} {i : Nat} {x : V} (h : (l.map V.ref)[i]? = some x) : ∃ r, l[i]? = some r ∧ x = .ref r := by
  rw [List.getElem?_map] at h
  cases e : l[i]? with
  | none =>
    rw [e] at h
    cases h
  | some r =>
    rw [e] at h
    exact ⟨r, rfl, (Option.some.inj h).symm⟩
theorem get_of {α β : Type} {l : List α} {m : List β} (h : l.length = m.length) {i : Nat} {x : α} (e : l[i]? = some x) : ∃ y, m[i]? = some y := by
  have h1 := (List.getElem?_eq_some_iff.mp e).1
  exact ⟨m[i]'(by omega), List.getElem?_eq_getElem (by omega)⟩
theorem snoc_get {α : Type} {l : List α} {x y : α} {i : Nat} (h : (l ++ [x])[i]? = some y) : l[i]? = some y ∨ (i = l.length ∧ y = x) := by
  by_cases c : i < l.length
  · rw [List.getElem?_append_left c] at h
    exact .inl h
  · rw [List.getElem?_append_right (by omega)] at h
    have h1 := (List.getElem?_eq_some_iff.mp h).1
    have e : i - l.length = 0 := by
      simp at h1
      omega
    rw [e] at h
    exact .inr ⟨by omega, (Option.some.inj h).symm⟩
theorem ok_copy {f fL : Addr} {fd fdL : FuncData} (F : Fun K "copied_rows" "copied_rows" s_copied_rows f fd) (T : TxtR K mg fL) (F_is_listing : Fun K "is_listing" "is_listing" s_is_listing fL fdL) (b_is_listing : Binds K fdL ["value", "most"] []) : FnOk P w K mg base CX0 2 f fd ["rows"] spCopy := by
  have G_is_listing : FnOk P w K mg base CX0 1 fL fdL ["value", "most"] spListing := ok_listing F_is_listing T.toTxtC
  refine F.ok sc_copied_rows (fun vs H Q E h => ?_) (fun cdv A outer s H vs Q E hr h => ?_)
  · obtain ⟨a, xss, rfl, _⟩ := h
    rfl
  · obtain ⟨a, xss, rfl, hR, l1, l6, q⟩ := h
    obtain ⟨tk, gMH⟩ := T.g_MOST_HANDS
    have hr_is_listing : Room 1 _ := hr.mono (by decide)
    obtain ⟨rs, ha, hl, hrs⟩ := hR.ex
    obtain ⟨k, ek⟩ := ha.kd
    refine ⟨_, (pss_cons (ps_if (PW.pt (pw_or (pt_not (pt_val (pe_call G_is_listing hr_is_listing (by rfl) T.g_is_listing F_is_listing.kp b_is_listing .nil pass0 (pa_cons (pv 0) (pa_cons (pe_glob (v := .int 6) rfl gMH ⟨_, rfl⟩) pa_nil))))) (pw_or1 (pt_cmpR op_eq (pe_callB call_len_seq (by rfl) T.len PySem.boot_len (pa_cons (pv 0) pa_nil)) pe_int (nomark _))))) (pss_one ps_never) pss_nil) (pss_cons (ps_for PassesOwn.never rfl (pi_seq (pv 0)) (pg_name (i := 1) sc_copied_rows.nd rfl (Or.inl rfl)) (pss_one (ps_if (pt_not (pt_val (pe_callB call_isiT (by rfl) T.isinstance bb_isinstance (pa_cons (pv 1) (pa_cons (pe_tup (pa_cons (pe_bltn (v := .ty "list") (by rfl) T.list bt_list rfl) (pa_cons (pe_bltn (v := .ty "tuple") (by rfl) T.tuple bt_tuple rfl) pa_nil))) pa_nil))))) (pss_one ps_never) pss_nil))) (pss_one (ps_ret (pe_callTy call_tuple_of (by rfl) T.tuple bt_tuple (pa_cons (pe_lc (own := [("row", 1)]) (tt := tYes) rfl sc_copied_rows.nd (pi_seq (pv 0)) (blkOk_by (own := [("row", 1)]) (N := ["rows", "row"]) (sc := defScope s_copied_rows) (by decide +kernel)) (fun _ _ _ _ _ => (pg_name (i := 1) sc_copied_rows.nd rfl (Or.inl rfl))) (fun _ _ _ _ _ => pts_nil) (fun _ _ _ _ _ => (pe_callTy (call_tupK (K := K) rfl) (by rfl) T.tuple bt_tuple (pa_cons (pv 1) pa_nil)))) pa_nil)))))), ?_⟩
    -- if not is_listing(rows, MOST_HANDS) or len(rows) == 0: raise
    have e1 : listingV k 6 = true := by
      unfold listingV
      rw [ek]
      refine decide_eq_true ?_
      rw [List.length_map]
      omega
    refine ⟨_, rfl, .ref a, k, 6, rfl, fun H1 s1 => ?_⟩
    rw [e1]
    have ha1 := ha.same s1
    refine ⟨true, rfl, ?_⟩
    have hnz : decide (V.int ((rs.map V.ref).length : Int) = V.int 0) = false := by
      refine decide_eq_false fun c => ?_
      have c2 := V.int.inj c
      rw [List.length_map] at c2
      omega
    refine ⟨_, rfl, a, rs.map V.ref, rfl, ha1.imp (fun h => .inl (.inl h)) (fun h => .inl (.inl h)), rfl, _, rfl, ?_⟩
    rw [hnz]
    -- for row in rows
    refine ⟨_, rfl, a, rfl, seq_of (K := K) ha1.ta fun J G wk hG => for_it wk (fun i σ H2 => ∃ v : Option V, σ = [some (.ref a), v] ∧ Same H1 H2) ⟨_, rfl, Same.refl _⟩ (fun i σ H2 _ ⟨_, _, sm⟩ => hG _ sm) ?_ ?_⟩
    · rintro i x σ H2 H3 hi ⟨v, rfl, sm⟩ ⟨rfl, ex⟩
      obtain ⟨r, er, rfl⟩ := map_get ex
      obtain ⟨xs, exs⟩ := get_of hl er
      obtain ⟨kr, ekr⟩ := ((hrs i r xs er exs).same (s1.trans sm)).kd
      refine ⟨_, rfl, (by show 2 ≤ sizeLine; decide), fun p np => ?_⟩
      have s2 : Same H3 (upd H3 p (.tup [.ty "list", .ty "tuple"])) := same_new np
      have e2 : (kr.up s2).list?.isSome = true := by
        cases kr <;> first | rfl | cases ekr
      refine ⟨.ref r, p, [.ty "list", .ty "tuple"], _, [.type "list", .type "tuple"], _, rfl, upd_same, .cons (.ty _) (.cons (.ty _) .nil), (kr.up s2).tyx, (kr.up s2).kitLT, _, rfl, ?_⟩
      rw [e2]
      exact ⟨_, rfl, sm.trans s2⟩
    · rintro σ H2 ⟨v, rfl, sm⟩
      -- return tuple([tuple(row) for row in rows])
      have ha2 := ha1.same sm
      refine ⟨_, rfl, a, rfl, seq_of (K := K) ha2.ta fun J G wk hG => fun D nD => lc_it wk (fun i H3 => ∃ ts : List Addr, H3 D = some (.lst (ts.map V.ref)) ∧ ts.length = i ∧ Same H2 H3 ∧ ∀ (j : Nat) (t : Addr) (xs : List V), ts[j]? = some t → xss[j]? = some xs → H3 t = some (.tup xs)) ⟨[], upd_same, rfl, same_new nD, fun j t xs e => by cases e⟩ (fun i H3 _ ⟨_, _, _, sm2, _⟩ => hG _ sm2) ?_ ?_⟩
      · rintro i x H3 H4 hi ⟨ts, hD, hlen, sm2, hts⟩ ⟨rfl, ex⟩
        rw [List.length_map] at hi
        obtain ⟨r, er, rfl⟩ := map_get ex
        obtain ⟨xs, exs⟩ := get_of hl er
        have hr2 := (hrs i r xs er exs).same ((s1.trans sm).trans sm2)
        have step : ∀ (t : Addr) (H5 : Hp), Same H4 H5 → H5 t = some (.tup xs) → ∃ acc : List V, H5 D = some (.lst acc) ∧ acc.length < sizeLine ∧ ∃ ts2 : List Addr, (upd H5 D (.lst (acc ++ [.ref t]))) D = some (.lst (ts2.map V.ref)) ∧ ts2.length = i + 1 ∧ Same H2 (upd H5 D (.lst (acc ++ [.ref t]))) ∧ ∀ (j : Nat) (t2 : Addr) (ys : List V), ts2[j]? = some t2 → xss[j]? = some ys → (upd H5 D (.lst (acc ++ [.ref t]))) t2 = some (.tup ys) := by
          intro t H5 s5 ht
          have hD5 := s5 _ _ hD
          refine ⟨_, hD5, by rw [List.length_map]; exact small1000 (by omega), ts ++ [t], by rw [upd_same, List.map_append]; rfl, by rw [List.length_append, hlen]; rfl, fun b o e => ?_, fun j t2 ys e1 e2 => ?_⟩
          · rw [upd_ne (ne_of_none e nD)]
            exact s5 _ _ (sm2 _ _ e)
          · have k2 : H5 t2 = some (.tup ys) := by
              rcases snoc_get e1 with e1 | ⟨rfl, rfl⟩
              · exact s5 _ _ (hts j t2 ys e1 e2)
              · rw [hlen] at e2
                rw [Option.some.inj (e2.symm.trans exs)]
                exact ht
            have nt : t2 ≠ D := fun z => by
              rw [z, hD5] at k2
              cases k2
            rw [upd_ne nt]
            exact k2
        refine ⟨rfl, ?_⟩
        refine ⟨_, rfl, r, xs, rfl, ?_⟩
        rcases hr2 with h | h
        · exact .inl ⟨.inl (.inl h), fun t nt => step t _ (same_new nt) upd_same⟩
        · exact .inr ⟨.inl (.inl h), step r _ (Same.refl _) h⟩
      · rintro H3 ⟨ts, hD, hlen, sm2, hts⟩
        refine ⟨D, ts.map V.ref, rfl, .inl ⟨.inl (.inl hD), fun p np => ?_⟩⟩
        have s4 : Same H3 (upd H3 p (.tup (ts.map V.ref))) := same_new np
        refine q _ p (((s1.trans sm).trans sm2).trans s4) ⟨ts, upd_same, by rw [hlen, List.length_map]; exact hl, fun i t xs e1 e2 => s4 _ _ (hts i t xs e1 e2)⟩
end
end Up

/-! doings, rows of doings, and where each stands (no Python here) -/
namespace Up
open PySem PySem.Spec PyProof.Rows L2
structure Dg where
  s : Bool
  l : Nat
  deriving DecidableEq
def Dg.word (g : Dg) : Str := if g.s then "send" else "get"
def Dg.key (g : Dg) : List Key := [.inr g.word, .inl (g.l : Int)]
def Dg.vs (g : Dg) : List V := [.str g.word, .int (g.l : Int)]
theorem Dg.key_vs (g : Dg) : g.key.map kV = g.vs := rfl
theorem word_ne : ("send" : Str) ≠ "get" := by decide +kernel
theorem Dg.key_inj {g g' : Dg} (h : g.key = g'.key) : g = g' := by
  obtain ⟨s, l⟩ := g
  obtain ⟨s', l'⟩ := g'
  have h1 := List.cons.inj h
  have h2 := List.cons.inj h1.2
  have e1 : (if s then ("send" : Str) else "get") = (if s' then ("send" : Str) else "get") := Sum.inr.inj h1.1
  have e2 : (l : Int) = (l' : Int) := Sum.inl.inj h2.1
  have e3 : l = l' := by omega
  subst e3
  cases s <;> cases s' <;> first | rfl | exact absurd e1 word_ne | exact absurd e1.symm word_ne
abbrev Pl := Dg × Nat × Nat
/-- a row of the hand h, from the number n on -/
def plRow (h n : Nat) : List Dg → List Pl
  | [] => []
  | g :: r => (g, h, n) :: plRow h (n + 1) r
/-- the rows from the hand h on -/
def plAll (h : Nat) : List (List Dg) → List Pl
  | [] => []
  | r :: rs => plRow h 0 r ++ plAll (h + 1) rs
theorem plRow_app (h : Nat) : ∀ (a b : List Dg) (n : Nat), plRow h n (a ++ b) = plRow h n a ++ plRow h (n + a.length) b
  | [], b, n => rfl
  | g :: a, b, n => by
    show (g, h, n) :: plRow h (n + 1) (a ++ b) = _
    rw [plRow_app h a b (n + 1), List.length_cons, show n + (a.length + 1) = n + 1 + a.length by omega]
    rfl
theorem plAll_app : ∀ (a b : List (List Dg)) (h : Nat), plAll h (a ++ b) = plAll h a ++ plAll (h + a.length) b
  | [], b, h => rfl
  | r :: a, b, h => by
    show plRow h 0 r ++ plAll (h + 1) (a ++ b) = _
    rw [plAll_app a b (h + 1), List.length_cons, show h + (a.length + 1) = h + 1 + a.length by omega, ← List.append_assoc]
    rfl
theorem take_snoc {α : Type} {l : List α} {i : Nat} {x : α} (h : l[i]? = some x) : l.take (i + 1) = l.take i ++ [x] := by
  rw [List.take_add_one, h]
  rfl
theorem plRow_snoc {h : Nat} {gs : List Dg} {j : Nat} {g : Dg} (e : gs[j]? = some g) : plRow h 0 (gs.take (j + 1)) = plRow h 0 (gs.take j) ++ [(g, h, j)] := by
  have h1 := (List.getElem?_eq_some_iff.mp e).1
  rw [take_snoc e, plRow_app, List.length_take, Nat.min_eq_left (by omega), Nat.zero_add]
  rfl
theorem plAll_snoc {gss : List (List Dg)} {i : Nat} {gs : List Dg} (e : gss[i]? = some gs) : plAll 0 (gss.take (i + 1)) = plAll 0 (gss.take i) ++ plRow i 0 gs := by
  have h1 := (List.getElem?_eq_some_iff.mp e).1
  rw [take_snoc e, plAll_app, List.length_take, Nat.min_eq_left (by omega), Nat.zero_add]
  show _ ++ (plRow i 0 gs ++ []) = _
  rw [List.append_nil]
/-- what is gone through, behind i rows and j doings more -/
def plTo (gss : List (List Dg)) (i : Nat) (gs : List Dg) (j : Nat) : List Pl := plAll 0 (gss.take i) ++ plRow i 0 (gs.take j)
theorem plTo_pre {gss : List (List Dg)} {i j : Nat} {gs : List Dg} (e : gss[i]? = some gs) : ∃ r, plAll 0 gss = plTo gss i gs j ++ r := by
  have h1 : plAll 0 gss = plAll 0 (gss.take (i + 1)) ++ plAll (0 + (gss.take (i + 1)).length) (gss.drop (i + 1)) := by
    rw [← plAll_app, List.take_append_drop]
  have h2 : plRow i 0 gs = plRow i 0 (gs.take j) ++ plRow i (0 + (gs.take j).length) (gs.drop j) := by
    rw [← plRow_app, List.take_append_drop]
  rw [plAll_snoc e, h2] at h1
  refine ⟨plRow i (0 + (gs.take j).length) (gs.drop j) ++ plAll (0 + (gss.take (i + 1)).length) (gss.drop (i + 1)), ?_⟩
  rw [h1]
  simp only [plTo, List.append_assoc]
theorem plTo_snoc {gss : List (List Dg)} {i j : Nat} {gs : List Dg} {g : Dg} (e : gs[j]? = some g) : plTo gss i gs (j + 1) = plTo gss i gs j ++ [(g, i, j)] := by
  unfold plTo
  rw [plRow_snoc e, List.append_assoc]
theorem plTo_end {gss : List (List Dg)} {i : Nat} {gs : List Dg} (e : gss[i]? = some gs) : plTo gss i gs gs.length = plAll 0 (gss.take (i + 1)) := by
  unfold plTo
  rw [List.take_length, plAll_snoc e]
theorem plTo_zero {gss : List (List Dg)} {i : Nat} {gs : List Dg} : plTo gss i gs 0 = plAll 0 (gss.take i) := by
  unfold plTo
  rw [List.take_zero]
  show _ ++ [] = _
  rw [List.append_nil]
/-- each doing stands once -/
def Once (gss : List (List Dg)) : Prop := ((plAll 0 gss).map (·.1)).Nodup
theorem Once.fresh {gss : List (List Dg)} (o : Once gss) {i j : Nat} {gs : List Dg} {g : Dg} (e : gss[i]? = some gs) (eg : gs[j]? = some g) : g ∉ (plTo gss i gs j).map (·.1) := by
  obtain ⟨r, h⟩ := plTo_pre (j := j + 1) e
  unfold Once at o
  rw [h, plTo_snoc eg, List.map_append, List.map_append] at o
  have o2 := (List.nodup_append.mp o).1
  have o3 := (List.nodup_append.mp o2).2.2
  intro hm
  exact o3 g hm g (List.mem_cons_self ..) rfl
theorem nd_len {α : Type} [DecidableEq α] : ∀ {a b : List α}, a.Nodup → (∀ x ∈ a, x ∈ b) → a.length ≤ b.length
  | [], _, _, _ => Nat.zero_le _
  | x :: a, b, nd, h => by
    have hx : x ∈ b := h x (List.mem_cons_self ..)
    have ih := nd_len (a := a) (b := b.erase x) (List.nodup_cons.mp nd).2 fun y hy => (List.mem_erase_of_ne (fun (c : y = x) => (List.nodup_cons.mp nd).1 (by rw [← c]; exact hy))).mpr (h y (List.mem_cons_of_mem _ hy))
    have hl := List.length_erase_of_mem hx
    have hp : 0 < b.length := List.length_pos_of_mem hx
    rw [List.length_cons]
    omega
end Up

namespace Up
open PySem PySem.Spec PyProof.Rows L2
abbrev s_found_places : Stmt := (topS 23)
theorem sc_found_places : FnScope ["rows", "places", "hand", "row", "number", "item"] ["rows"] (defScope s_found_places) := ⟨rfl, rfl, rfl, by decide +kernel, rfl, by decide +kernel, by decide +kernel⟩
/-- rows of doings, as a tuple of tuples of tuples -/
structure RowsD (H : Hp) (p : Addr) (gss : List (List Dg)) : Prop where
  ex : ∃ ts : List Addr, H p = some (.tup (ts.map V.ref)) ∧ ts.length = gss.length ∧ ∀ (i : Nat) (t : Addr) (gs : List Dg), ts[i]? = some t → gss[i]? = some gs →
    ∃ qs : List Addr, H t = some (.tup (qs.map V.ref)) ∧ qs.length = gs.length ∧ ∀ (j : Nat) (q : Addr) (g : Dg), qs[j]? = some q → gs[j]? = some g → H q = some (.tup g.vs)
theorem RowsD.same {H H' : Hp} {p : Addr} {gss : List (List Dg)} (s : Same H H') (h : RowsD H p gss) : RowsD H' p gss := by
  obtain ⟨ts, h1, h2, h3⟩ := h.ex
  refine ⟨ts, s _ _ h1, h2, fun i t gs e1 e2 => ?_⟩
  obtain ⟨qs, k1, k2, k3⟩ := h3 i t gs e1 e2
  exact ⟨qs, s _ _ k1, k2, fun j q g e3 e4 => s _ _ (k3 j q g e3 e4)⟩
/-- a dict: where each doing stands -/
structure DictP (H : Hp) (kvs : List (List Key × V)) (pl : List Pl) : Prop where
  ks : kvs.map (·.1) = pl.map fun t => t.1.key
  vs : ∀ (i : Nat) (g : Dg) (h n : Nat), pl[i]? = some (g, h, n) → ∃ q, kvs[i]? = some (g.key, .ref q) ∧ H q = some (.tup [.int (h : Int), .int (n : Int)])
theorem DictP.same {H H' : Hp} {kvs : List (List Key × V)} {pl : List Pl} (s : Same H H') (d : DictP H kvs pl) : DictP H' kvs pl :=
  ⟨d.ks, fun i g h n e => let ⟨q, h1, h2⟩ := d.vs i g h n e; ⟨q, h1, s _ _ h2⟩⟩
theorem DictP.len {H : Hp} {kvs : List (List Key × V)} {pl : List Pl} (d : DictP H kvs pl) : kvs.length = pl.length := by
  have e := congrArg List.length d.ks
  simpa using e
theorem val_none {κ : Type} [DecidableEq κ] {kvs : List (κ × V)} {k : κ} (h : k ∉ kvs.map (·.1)) : valV kvs k = none := by
  unfold valV
  rw [List.find?_eq_none.mpr]
  · rfl
  · intro p hp c
    exact h (of_decide_eq_true c ▸ List.mem_map_of_mem hp)
theorem DictP.none {H : Hp} {kvs : List (List Key × V)} {pl : List Pl} (d : DictP H kvs pl) {g : Dg} (h : g ∉ pl.map (·.1)) : valV kvs g.key = Option.none := by
  refine val_none fun c => ?_
  rw [d.ks] at c
  obtain ⟨t, ht, e⟩ := List.mem_map.mp c
  exact h (Dg.key_inj e ▸ List.mem_map_of_mem ht)
theorem DictP.snoc {H H' : Hp} {kvs : List (List Key × V)} {pl : List Pl} (d : DictP H kvs pl) (s : ∀ b o, H b = some o → (∃ xs, o = .tup xs) → H' b = some o) {g : Dg} {h n : Nat} {q : Addr} (hq : H' q = some (.tup [.int (h : Int), .int (n : Int)])) : DictP H' (kvs ++ [(g.key, .ref q)]) (pl ++ [(g, h, n)]) := by
  refine ⟨by rw [List.map_append, List.map_append, d.ks]; rfl, fun i g' h' n' e => ?_⟩
  rcases snoc_get e with e | ⟨e1, e2⟩
  · obtain ⟨q', k1, k2⟩ := d.vs i g' h' n' e
    have lt := (List.getElem?_eq_some_iff.mp k1).1
    exact ⟨q', by rw [List.getElem?_append_left lt]; exact k1, s _ _ k2 ⟨_, rfl⟩⟩
  · cases e2
    refine ⟨q, ?_, hq⟩
    rw [e1, ← d.len, List.getElem?_append_right (Nat.le_refl _), Nat.sub_self]
    rfl
section
variable {P : Program} {w : World} {K : PySem.W.Frag} {mg : Str → Option Value} {base : Heap}
def spPlaces : Sp := fun vs H Q _ => ∃ (p : Addr) (gss : List (List Dg)), vs = [.ref p] ∧ RowsD H p gss ∧ (∀ t ∈ plAll 0 gss, t.1.l < 12) ∧ Once gss ∧ (plAll 0 gss).length ≤ 1000 ∧
  ∀ H' d kvs, Same H H' → H d = none → H' d = some (.dT kvs) → DictP H' kvs (plAll 0 gss) → Q (.ref d) H'
structure TxtP (K : PySem.W.Frag) (mg : Str → Option Value) (fD : Addr) : Prop extends TxtC mg where
  g_is_doing : mg "is_doing" = some (.ref fD)
  g_MOST_LETTERS : ∃ t, mg "MOST_LETTERS" = some (.int 12 t)
theorem doing_kd {H : Hp} {q : Addr} {g : Dg} (h : H q = some (.tup g.vs)) (hl : g.l < 12) : ∃ k : Kd H (.ref q), k.doing 12 = true ∧ ∀ x y, k.couple = some (x, y) → Nonempty (Kd H x) ∧ Nonempty (Kd H y) := by
  refine ⟨.tup q g.vs h, ?_, fun x y e => ?_⟩
  · show (wordV (.str g.word) && indexV (.int (g.l : Int)) 12) = true
    have e1 : wordV (.str g.word) = true := by
      unfold Dg.word
      cases g.s <;> decide +kernel
    rw [e1]
    show (true && (decide (0 ≤ (g.l : Int)) && decide ((g.l : Int) < 12))) = true
    rw [decide_eq_true (by omega), decide_eq_true (by omega)]
    rfl
  · cases e
    exact ⟨⟨.str _⟩, ⟨.int _⟩⟩
theorem ok_places {f fD : Addr} {fd fdD : FuncData} (F : Fun K "found_places" "found_places" s_found_places f fd) (T : TxtP K mg fD) (F_is_doing : Fun K "is_doing" "is_doing" s_is_doing fD fdD) (b_is_doing : Binds K fdD ["value", "many"] []) (G_is_doing : FnOk P w K mg base CX0 3 fD fdD ["value", "many"] spDoing) :
    FnOk P w K mg base CX0 4 f fd ["rows"] spPlaces := by
  refine F.ok sc_found_places (fun vs H Q E h => ?_) (fun cdv A outer s H vs Q E hr h => ?_)
  · obtain ⟨p, gss, rfl, _⟩ := h
    rfl
  · obtain ⟨p, gss, rfl, hR, hl12, ho, hsz, q⟩ := h
    obtain ⟨tk, gML⟩ := T.g_MOST_LETTERS
    have hu := hu_of hr
    have hr_is_doing : Room 3 _ := hr.mono (by decide)
    obtain ⟨ts, hp, hts, hrow⟩ := hR.ex
    refine ⟨_, (pss_cons (ps_set (i := 1) sc_found_places.nd rfl (Or.inl rfl) pe_dnewT) (pss_cons (ps_for PassesOwn.never rfl (pi_enT (by rfl) T.enumerate (pa_cons (pv 0) pa_nil)) (pg_tup (by rfl) (pgs_cons (pg_name (i := 2) sc_found_places.nd rfl (Or.inl rfl)) (pgs_cons (pg_name (i := 3) sc_found_places.nd rfl (Or.inl rfl)) pgs_nil))) (pss_one (ps_for PassesOwn.never rfl (pi_enT (by rfl) T.enumerate (pa_cons (pv 3) pa_nil)) (pg_tup (by rfl) (pgs_cons (pg_name (i := 4) sc_found_places.nd rfl (Or.inl rfl)) (pgs_cons (pg_name (i := 5) sc_found_places.nd rfl (Or.inl rfl)) pgs_nil))) (pss_cons (ps_if (PW.pt (pw_or (pt_not (pt_val (pe_call G_is_doing hr_is_doing (by rfl) T.g_is_doing F_is_doing.kp b_is_doing .nil pass0 (pa_cons (pv 5) (pa_cons (pe_glob (v := .int 12) rfl gML ⟨_, rfl⟩) pa_nil))))) (pw_or1 (pt_cmp (pc_din hu (pv 5) (pv 1)))))) (pss_one ps_never) pss_nil) (pss_one (ps_dput hu (pv 1) (pv 5) (pe_tup (pa_cons (pv 2) (pa_cons (pv 4) pa_nil))) rfl)))))) (pss_one (ps_ret (pv 1))))), ?_⟩
    intro d nd
    have s0 : Same H (upd H d (.dT [])) := same_new nd
    refine ⟨_, rfl, p, _, rfl, .inl (.inl (s0 _ _ hp)), for_it walk_enT (fun i σ H2 => ∃ (v2 v3 v4 v5 : Option V) (kvs : List (List Key × V)), σ = [some (.ref p), some (.ref d), v2, v3, v4, v5] ∧ Same H H2 ∧ H2 d = some (.dT kvs) ∧ DictP H2 kvs (plAll 0 (gss.take i))) ⟨_, _, _, _, [], rfl, s0, upd_same, rfl, fun i g h n e => by cases e⟩ (fun i σ H2 _ ⟨_, _, _, _, _, _, sm, _⟩ => .inl (.inl (sm _ _ hp))) ?_ ?_⟩
    · rintro i x σ H2 H3 hi ⟨v2, v3, v4, v5, kvs, rfl, sm, hd, dp⟩ ⟨U, x1, x2, rfl, nU, rfl, e1, e2⟩
      obtain rfl : x1 = .int (i : Int) := (Option.some.inj e1).symm
      obtain ⟨t, et, rfl⟩ := map_get e2
      obtain ⟨gs, egs⟩ := get_of hts et
      obtain ⟨qs, ht, hql, hqs⟩ := hrow i t gs et egs
      have sU : Same H2 (upd H2 U (.tup [.int (i : Int), .ref t])) := same_new nU
      refine ⟨U, _, rfl, .inl (.inl upd_same), rfl, _, _, rfl, _, _, rfl, rfl, ?_⟩
      refine ⟨_, rfl, t, _, rfl, .inl (.inl (sU _ _ (sm _ _ ht))), for_it walk_enT (fun j σ H4 => ∃ (v4 v5 : Option V) (kvs : List (List Key × V)), σ = [some (.ref p), some (.ref d), some (.int (i : Int)), some (.ref t), v4, v5] ∧ Same H H4 ∧ H4 d = some (.dT kvs) ∧ DictP H4 kvs (plTo gss i gs j)) ⟨_, _, kvs, rfl, sm.trans sU, sU _ _ hd, by rw [plTo_zero]; exact dp.same sU⟩ (fun j σ H4 _ ⟨_, _, _, _, sm4, _⟩ => .inl (.inl (sm4 _ _ ht))) ?_ ?_⟩
      · rintro j x σ H4 H5 hj ⟨v4, v5, kvs, rfl, sm4, hd4, dp4⟩ ⟨W, x1, x2, rfl, nW, rfl, e3, e4⟩
        obtain rfl : x1 = .int (j : Int) := (Option.some.inj e3).symm
        obtain ⟨qd, eq, rfl⟩ := map_get e4
        obtain ⟨g, eg⟩ := get_of hql eq
        have hg := hqs j qd g eq eg
        have sW : Same H4 (upd H4 W (.tup [.int (j : Int), .ref qd])) := same_new nW
        refine ⟨W, _, rfl, .inl (.inl upd_same), rfl, _, _, rfl, _, _, rfl, rfl, ?_⟩
        -- if not is_doing(item, MOST_LETTERS) or item in places: raise
        have hgl : g.l < 12 := by
          obtain ⟨r, er⟩ := plTo_pre (j := j + 1) egs
          refine hl12 (g, i, j) ?_
          rw [er, plTo_snoc eg]
          simp
        obtain ⟨k, ek, kp⟩ := doing_kd (sW _ _ (sm4 _ _ hg)) hgl
        refine ⟨_, rfl, .ref qd, k, 12, rfl, kp, fun H6 s6 => ?_⟩
        rw [ek]
        have hd6 := s6 _ _ (sW _ _ hd4)
        have hg6 := s6 _ _ (sW _ _ (sm4 _ _ hg))
        have dp6 := (dp4.same sW).same s6
        have fr : valV kvs g.key = none := dp6.none (ho.fresh egs eg)
        refine ⟨true, rfl, ?_⟩
        refine ⟨_, rfl, _, rfl, d, _, rfl, DGet.t (k := g.key) hd6 hg6, ?_⟩
        rw [fr]
        refine ⟨_, rfl, ?_⟩
        -- places[item] = (hand, number)
        refine ⟨_, rfl, _, rfl, (by show 2 ≤ sizeLine; decide), fun z nz => ?_⟩
        have sz : Same H6 (upd H6 z (.tup [.int (i : Int), .int (j : Int)])) := same_new nz
        have lk : kvs.length < sizeLine := by
          refine small1000 ?_
          obtain ⟨r, er⟩ := plTo_pre (j := j) egs
          have e := congrArg List.length er
          rw [List.length_append, ← dp6.len] at e
          omega
        refine ⟨_, rfl, _, rfl, d, _, rfl, DPut.t (k := g.key) (sz _ _ hd6) (sz _ _ hg6) lk, ?_⟩
        rw [putK_new _ fr]
        have nzd : z ≠ d := fun c => by
          rw [c, hd6] at nz
          cases nz
        refine ⟨_, _, _, rfl, fun b o e => ?_, upd_same, ?_⟩
        · rw [upd_ne (ne_of_none e nd)]
          exact sz _ _ (s6 _ _ (sW _ _ (sm4 _ _ e)))
        · rw [plTo_snoc eg]
          refine dp6.snoc (fun b o e ⟨xs, ex⟩ => ?_) ?_
          · have nb : b ≠ d := fun c => by
              rw [c, hd6] at e
              rw [ex] at e
              cases e
            rw [upd_ne nb]
            exact sz _ _ e
          · rw [upd_ne nzd]
            exact upd_same
      · rintro σ H4 ⟨v4, v5, kvs, rfl, sm4, hd4, dp4⟩
        rw [List.length_map, hql, plTo_end egs] at dp4
        exact ⟨_, _, _, _, kvs, rfl, sm4, hd4, dp4⟩
    · rintro σ H2 ⟨v2, v3, v4, v5, kvs, rfl, sm, hd, dp⟩
      rw [List.length_map, hts, List.take_length] at dp
      exact ⟨_, rfl, q H2 d kvs sm nd hd dp⟩
end
end Up

namespace Up
open PySem PySem.Spec PyProof.Rows L2
abbrev s_count_letters : Stmt := (topS 24)
abbrev s_check_letters : Stmt := (topS 25)
abbrev s_found_hands : Stmt := (topS 26)
theorem sc_count_letters : FnScope ["places", "word", "letter"] ["places"] (defScope s_count_letters) := ⟨rfl, rfl, rfl, by decide +kernel, rfl, by decide +kernel, by decide +kernel⟩
theorem sc_check_letters : FnScope ["places", "many", "letter", "sending", "getting"] ["places", "many"] (defScope s_check_letters) := ⟨rfl, rfl, rfl, by decide +kernel, rfl, by decide +kernel, by decide +kernel⟩
theorem sc_found_hands : FnScope ["places", "word", "many", "letter"] ["places", "word", "many"] (defScope s_found_hands) := ⟨rfl, rfl, rfl, by decide +kernel, rfl, by decide +kernel, by decide +kernel⟩
structure TxtM (mg : Str → Option Value) : Prop extends TxtC mg where
  max : mg "max" = none
theorem val_some {κ : Type} [DecidableEq κ] : ∀ {kvs : List (κ × V)} {i : Nat} {k : κ} {v : V}, (kvs.map (·.1)).Nodup → kvs[i]? = some (k, v) → valV kvs k = some v
  | [], i, k, v, _, h => by simp at h
  | p :: r, 0, k, v, nd, h => by
    have e : p = (k, v) := Option.some.inj h
    subst e
    exact valV_pos rfl
  | p :: r, i + 1, k, v, nd, h => by
    rw [List.map_cons] at nd
    have hm : k ∈ r.map (·.1) := List.mem_map_of_mem (f := (·.1)) (List.mem_of_getElem? (show r[i]? = some (k, v) from h))
    have ne : ¬ p.1 = k := fun c => (List.nodup_cons.mp nd).1 (c ▸ hm)
    rw [valV_neg ne]
    exact val_some (List.nodup_cons.mp nd).2 (show r[i]? = some (k, v) from h)
theorem DictP.get {H : Hp} {kvs : List (List Key × V)} {pl : List Pl} (d : DictP H kvs pl) (nd : (pl.map (·.1)).Nodup) {g : Dg} {h n : Nat} (hm : (g, h, n) ∈ pl) : ∃ q, valV kvs g.key = some (.ref q) ∧ H q = some (.tup [.int (h : Int), .int (n : Int)]) := by
  obtain ⟨i, lt, e⟩ := List.getElem_of_mem hm
  obtain ⟨q, h1, h2⟩ := d.vs i g h n (List.getElem?_eq_some_iff.mpr ⟨lt, e⟩)
  refine ⟨q, val_some ?_ h1, h2⟩
  rw [d.ks]
  have e2 : (pl.map fun t => t.1.key) = (pl.map (·.1)).map Dg.key := by
    rw [List.map_map]
    rfl
  rw [e2]
  exact List.Pairwise.map _ (fun a b c e => c (Dg.key_inj e)) nd
section
variable {P : Program} {w : World} {K : PySem.W.Frag} {mg : Str → Option Value} {base : Heap}
def spCount : Sp := fun vs H Q _ => ∃ (d : Addr) (kvs : List (List Key × V)) (pl : List Pl) (many : Nat), vs = [.ref d] ∧ H d = some (.dT kvs) ∧ DictP H kvs pl ∧ pl.length ≤ 1000 ∧ (∀ t ∈ pl, t.1.l < many) ∧ (0 < many → ∃ t ∈ pl, t.1.l + 1 = many) ∧
  ∀ H', Same H H' → Q (.int (many : Int)) H'
theorem ok_count {f : Addr} {fd : FuncData} (F : Fun K "count_letters" "count_letters" s_count_letters f fd) (T : TxtM mg) : FnOk P w K mg base CX0 1 f fd ["places"] spCount := by
  refine F.ok sc_count_letters (fun vs H Q E h => ?_) (fun cdv A outer s H vs Q E hr h => ?_)
  · obtain ⟨d, kvs, pl, many, rfl, _⟩ := h
    rfl
  · obtain ⟨d, kvs, pl, many, rfl, hd, dp, hsz, hlt, hex, q⟩ := h
    refine ⟨_, (pss_one (ps_ret (pe_callBK (call_maxD rfl hr.units) (by rfl) T.max bb_max (pa_cons (pe_lock (pe_lc (own := [("word", 1), ("letter", 2)]) (tt := tYes) rfl sc_count_letters.nd (pi_keys (pv 0)) (blkOk_by (own := [("word", 1), ("letter", 2)]) (N := ["places", "word", "letter"]) (sc := defScope s_count_letters) (by decide +kernel)) (fun _ _ _ _ _ => (pg_tupK (K := K) (n := 2) rfl (by rfl) (pgs_cons (pg_name (i := 1) sc_count_letters.nd rfl (Or.inl rfl)) (pgs_cons (pg_name (i := 2) sc_count_letters.nd rfl (Or.inl rfl)) pgs_nil)))) (fun _ _ _ _ _ => pts_nil) (fun _ _ _ _ _ => (pe_op op_add (pv 2) pe_int)))) pa_nil) (pk_cons pe_int pk_nil)))), ?_⟩
    refine ⟨d, .dT kvs, hd, True.intro, fun od => ?_⟩
    have k0 : ∀ b o, H b = some o → b ≠ d → (upd H d (.frz od (.dT kvs))) b = some o := fun b o e n => by
      rw [upd_ne n]
      exact e
    refine ⟨_, rfl, d, od, rfl, .inr ⟨kvs, upd_same, fun D nD => lc_it walk_keysT (fun i H2 => H2 D = some (.lst (iL ((pl.take i).map fun t => ((t.1.l : Int) + 1)))) ∧ H2 d = some (.frz od (.dT kvs)) ∧ ∀ b o, H b = some o → b ≠ d → H2 b = some o) ⟨upd_same, ?_, fun b o e n => ?_⟩ (fun i H2 _ ⟨_, h2, _⟩ => h2) ?_ ?_⟩⟩
    · rw [upd_ne (fun c => by rw [← c, upd_same] at nD; cases nD)]
      exact upd_same
    · have z := k0 b o e n
      rw [upd_ne (ne_of_none z nD)]
      exact z
    · rintro i x H2 H3 hi ⟨hD, hd2, kf⟩ ⟨rfl, k, v, qd, ek, rfl, hq⟩
      have hil : i < pl.length := by
        rw [← dp.len]
        exact hi
      obtain ⟨⟨g, h, n⟩, eg⟩ : ∃ t, pl[i]? = some t := ⟨_, List.getElem?_eq_getElem hil⟩
      obtain ⟨q1, e1, _⟩ := dp.vs i g h n eg
      cases (Option.some.inj (e1.symm.trans ek))
      refine ⟨qd, g.vs, rfl, .inl (.inl hq), rfl, _, _, rfl, _, _, rfl, rfl, rfl, ?_⟩
      refine ⟨_, rfl, _, _, rfl, rfl, _, hD, ?_, ?_, ?_, fun b o e nb => ?_⟩
      · rw [List.length_map, List.length_map, List.length_take]
        exact Nat.lt_of_le_of_lt (Nat.min_le_right _ _) (small1000 hsz)
      · rw [upd_same, iL_app, take_snoc eg, List.map_append]
        rfl
      · rw [upd_ne (fun c => by rw [← c, hd2] at hD; cases hD)]
        exact hd2
      · have z := kf b o e nb
        have z2 : b ≠ D := fun c => by
          have z3 := k0 b o e nb
          rw [c, nD] at z3
          cases z3
        rw [upd_ne z2]
        exact z
    · rintro H2 ⟨hD, hd2, kf⟩
      have eD : pl.take kvs.length = pl := List.take_of_length_le (Nat.le_of_eq dp.len.symm)
      rw [eD] at hD
      have nDd : D ≠ d := fun c => by
        rw [c, hd2] at hD
        cases hD
      have hD' : (upd H2 d (.dT kvs)) D = some (.lst (iL (pl.map fun t => ((t.1.l : Int) + 1)))) := by
        rw [upd_ne nDd]
        exact hD
      have sm : Same H (upd H2 d (.dT kvs)) := fun b o e => by
        by_cases c : b = d
        · subst c
          rw [upd_same, ← e, hd]
        · rw [upd_ne c]
          exact kf b o e c
      refine ⟨hd2, D, _, 0, rfl, rfl, .inl (.inl hD'), fun e0 => ?_, fun m hm hmax => ?_⟩
      · have e1 : pl = [] := List.map_eq_nil_iff.mp e0
        have e2 : many = 0 := by
          rcases Nat.eq_zero_or_pos many with c | c
          · exact c
          · obtain ⟨t, ht, _⟩ := hex c
            rw [e1] at ht
            cases ht
        subst e2
        exact q _ sm
      · obtain ⟨t, ht, rfl⟩ := List.mem_map.mp hm
        have h1 := hlt t ht
        obtain ⟨t2, ht2, e2⟩ := hex (by omega)
        have h2 := hmax _ (List.mem_map_of_mem (f := fun t : Pl => ((t.1.l : Int) + 1)) ht2)
        have e3 : ((t.1.l : Int) + 1) = (many : Int) := by
          have h3 : ((t2.1.l : Int) + 1) ≤ ((t.1.l : Int) + 1) := h2
          omega
        show Q (.int ((t.1.l : Int) + 1)) _
        rw [e3]
        exact q _ sm
/-- each letter below many is sent by the hand S, got by the hand G -/
structure Hands (pl : List Pl) (many : Nat) (S G : Nat → Nat) : Prop where
  snd : ∀ l, l < many → ∃ n, (⟨true, l⟩, S l, n) ∈ pl
  got : ∀ l, l < many → ∃ n, (⟨false, l⟩, G l, n) ∈ pl
  ne : ∀ l, l < many → S l ≠ G l
def spCheck : Sp := fun vs H Q _ => ∃ (d : Addr) (kvs : List (List Key × V)) (pl : List Pl) (many : Nat) (S G : Nat → Nat), vs = [.ref d, .int (many : Int)] ∧ H d = some (.dT kvs) ∧ DictP H kvs pl ∧ (pl.map (·.1)).Nodup ∧ many ≤ 12 ∧ Hands pl many S G ∧
  ∀ H', Same H H' → Q .non H'
theorem ok_check {f : Addr} {fd : FuncData} (F : Fun K "check_letters" "check_letters" s_check_letters f fd) (T : TxtM mg) : FnOk P w K mg base CX0 1 f fd ["places", "many"] spCheck := by
  refine F.ok sc_check_letters (fun vs H Q E h => ?_) (fun cdv A outer s H vs Q E hr h => ?_)
  · obtain ⟨d, kvs, pl, many, S, G, rfl, _⟩ := h
    rfl
  · obtain ⟨d, kvs, pl, many, S, G, rfl, hd, dp, nd, h12, hH, q⟩ := h
    have hu := hu_of hr
    refine ⟨_, (pss_one (ps_for PassesOwn.never rfl (pi_range1 (by rfl) T.range (pa_cons (pv 1) pa_nil)) (pg_name (i := 2) sc_check_letters.nd rfl (Or.inl rfl)) (pss_cons (ps_set (i := 3) sc_check_letters.nd rfl (Or.inl rfl) (pe_dget1 hu (pv 0) (pe_tup (pa_cons pe_str (pa_cons (pv 2) pa_nil))) ⟨by rfl, by rfl, by rfl, by rfl⟩)) (pss_cons (ps_set (i := 4) sc_check_letters.nd rfl (Or.inl rfl) (pe_dget1 hu (pv 0) (pe_tup (pa_cons pe_str (pa_cons (pv 2) pa_nil))) ⟨by rfl, by rfl, by rfl, by rfl⟩)) (pss_one (ps_if (PW.pt (pw_or (pt_cmpR op_isN (pv 3) pe_non (nomark _)) (pw_or (pt_cmpR op_isN (pv 4) pe_non (nomark _)) (pw_or1 (pt_cmpR op_eq (pe_ix ix_tup (pv 3) pe_int (fun _ _ => rfl)) (pe_ix ix_tup (pv 4) pe_int (fun _ _ => rfl)) (nomark _)))))) (pss_one ps_never) pss_nil)))))), ?_⟩
    refine ⟨_, rfl, (many : Int), rfl, by omega, by omega, for_range (lo := 0) (n := many) (fun i σ H2 => ∃ (v2 v3 v4 : Option V), σ = [some (.ref d), some (.int (many : Int)), v2, v3, v4] ∧ Same H H2) ⟨_, _, _, rfl, Same.refl H⟩ ?_ ?_⟩
    · rintro i σ H2 hi ⟨v2, v3, v4, rfl, sm⟩
      obtain ⟨n1, m1⟩ := hH.snd i hi
      obtain ⟨n2, m2⟩ := hH.got i hi
      have ei : (0 + (i : Int)) = (i : Int) := by omega
      -- sending = places.get(("send", letter))
      refine ⟨_, rfl, d, rfl, .inr ⟨kvs, .inl (sm _ _ hd)⟩, _, rfl, (by show 2 ≤ sizeLine; decide), fun a na => ?_⟩
      have sa : Same H2 (upd H2 a (.tup [.str "send", .int (0 + (i : Int))])) := same_new na
      obtain ⟨q1, k1, t1⟩ := ((dp.same sm).same sa).get nd m1
      have ha : (upd H2 a (.tup [.str "send", .int (0 + (i : Int))])) a = some (.tup ((Dg.key ⟨true, i⟩).map kV)) := by
        rw [upd_same, ei]
        rfl
      refine ⟨_, DGet.t (k := Dg.key ⟨true, i⟩) (sa _ _ (sm _ _ hd)) ha, ?_⟩
      rw [k1]
      -- getting = places.get(("get", letter))
      revert sa t1 ha
      generalize upd H2 a (.tup [.str "send", .int (0 + (i : Int))]) = H3
      intro sa t1 ha
      refine ⟨_, rfl, d, rfl, .inr ⟨kvs, .inl (sa _ _ (sm _ _ hd))⟩, _, rfl, (by show 2 ≤ sizeLine; decide), fun b nb => ?_⟩
      have sb : Same H3 (upd H3 b (.tup [.str "get", .int (0 + (i : Int))])) := same_new nb
      obtain ⟨q2, k2, t2⟩ := (((dp.same sm).same sa).same sb).get nd m2
      have hb : (upd H3 b (.tup [.str "get", .int (0 + (i : Int))])) b = some (.tup ((Dg.key ⟨false, i⟩).map kV)) := by
        rw [upd_same, ei]
        rfl
      refine ⟨_, DGet.t (k := Dg.key ⟨false, i⟩) (sb _ _ (sa _ _ (sm _ _ hd))) hb, ?_⟩
      rw [k2]
      have t1b := sb _ _ t1
      have sm4 : Same H (upd H3 b (.tup [.str "get", .int (0 + (i : Int))])) := (sm.trans sa).trans sb
      revert t2 t1b sm4
      generalize upd H3 b (.tup [.str "get", .int (0 + (i : Int))]) = H4
      intro t2 t1b sm4
      refine ⟨_, rfl, rfl, _, rfl, ?_⟩
      refine ⟨_, rfl, rfl, _, rfl, ?_⟩
      refine ⟨_, rfl, q1, _, _, _, rfl, rfl, .inl (.inl t1b), atI_nat (j := 0) rfl, ?_⟩
      refine ⟨_, rfl, q2, _, _, _, rfl, rfl, .inl (.inl t2), atI_nat (j := 0) rfl, rfl, _, rfl, ?_⟩
      have e0 : decide (V.int ((S i : Nat) : Int) = V.int ((G i : Nat) : Int)) = false := decide_eq_false fun c => hH.ne i hi (by have := V.int.inj c; omega)
      rw [e0]
      exact ⟨_, _, _, rfl, sm4⟩
    · rintro σ H2 ⟨v2, v3, v4, rfl, sm⟩
      exact q H2 sm
/-- the hands that send the letters, or that get them -/
def spHands (b : Bool) : Sp := fun vs H Q _ => ∃ (d : Addr) (kvs : List (List Key × V)) (pl : List Pl) (many : Nat) (S : Nat → Nat), vs = [.ref d, .str (Dg.word ⟨b, 0⟩), .int (many : Int)] ∧ H d = some (.dT kvs) ∧ DictP H kvs pl ∧ (pl.map (·.1)).Nodup ∧ many ≤ 12 ∧
  (∀ l, l < many → ∃ n, (⟨b, l⟩, S l, n) ∈ pl) ∧ ∀ H' p, Same H H' → H' p = some (.tup (iL ((List.range many).map fun l => ((S l : Nat) : Int)))) → Q (.ref p) H'
theorem ok_hands {f : Addr} {fd : FuncData} {b : Bool} (F : Fun K "found_hands" "found_hands" s_found_hands f fd) (T : TxtM mg) : FnOk P w K mg base CX0 1 f fd ["places", "word", "many"] (spHands b) := by
  refine F.ok sc_found_hands (fun vs H Q E h => ?_) (fun cdv A outer s H vs Q E hr h => ?_)
  · obtain ⟨d, kvs, pl, many, S, rfl, _⟩ := h
    rfl
  · obtain ⟨d, kvs, pl, many, S, rfl, hd, dp, nd, h12, hS, q⟩ := h
    have hu := hu_of hr
    refine ⟨_, (pss_one (ps_ret (pe_callTy call_tuple_of (by rfl) T.tuple bt_tuple (pa_cons (pe_lc (own := [("letter", 3)]) (tt := tYes) rfl sc_found_hands.nd (pi_range1 (by rfl) T.range (pa_cons (pv 2) pa_nil)) (blkOk_by (own := [("letter", 3)]) (N := ["places", "word", "many", "letter"]) (sc := defScope s_found_hands) (by decide +kernel)) (fun _ _ _ _ _ => (pg_name (i := 3) sc_found_hands.nd rfl (Or.inl rfl))) (fun _ _ _ _ _ => pts_nil) (fun _ _ _ _ _ => (pe_ix (ix_tupK (K := K) rfl) (pe_dget hu (pv 0) (pe_tup (pa_cons (pv 1) (pa_cons (pv 3) pa_nil))) (fun _ _ => rfl)) pe_int (fun _ _ => rfl)))) pa_nil)))), ?_⟩
    refine ⟨_, rfl, (many : Int), rfl, by omega, by omega, fun D nD => lc_range (lo := 0) (n := many) (fun i H2 => H2 D = some (.lst (iL ((List.range i).map fun l => ((S l : Nat) : Int)))) ∧ Same H H2) ⟨upd_same, same_new nD⟩ ?_ ?_⟩
    · rintro i H2 hi ⟨hD, sm⟩
      have ei : (0 + (i : Int)) = (i : Int) := by omega
      obtain ⟨n, m⟩ := hS i hi
      refine ⟨rfl, ?_⟩
      refine ⟨_, rfl, _, rfl, _, rfl, (by show 2 ≤ sizeLine; decide), fun a na => ?_⟩
      have sa : Same H2 (upd H2 a (.tup [.str (Dg.word ⟨b, 0⟩), .int (0 + (i : Int))])) := same_new na
      obtain ⟨q1, k1, t1⟩ := ((dp.same sm).same sa).get nd m
      have ha : (upd H2 a (.tup [.str (Dg.word ⟨b, 0⟩), .int (0 + (i : Int))])) a = some (.tup ((Dg.key ⟨b, i⟩).map kV)) := by
        rw [upd_same, ei]
        rfl
      have g1 := DGet.t (k := Dg.key ⟨b, i⟩) (sa _ _ (sm _ _ hd)) ha
      rw [k1] at g1
      refine ⟨d, .ref q1, rfl, g1, q1, _, _, _, rfl, rfl, .inl (.inl t1), atI_nat (j := 0) rfl, ?_⟩
      have nDa : D ≠ a := ne_of_none hD na
      refine ⟨_, sa _ _ hD, ?_, ?_, fun z o e => ?_⟩
      · rw [List.length_map, List.length_map, List.length_range]
        exact small1000 (by omega)
      · rw [upd_same, iL_app, List.range_succ, List.map_append]
        rfl
      · rw [upd_ne (ne_of_none e nD)]
        exact sa _ _ (sm _ _ e)
    · rintro H2 ⟨hD, sm⟩
      refine ⟨D, _, rfl, .inl ⟨.inl (.inl hD), fun p np => ?_⟩⟩
      exact q _ p (sm.trans (same_new np)) upd_same
end
end Up

namespace Up
open PySem PySem.Spec PyProof.Rows L2
abbrev s_row_clocks : Stmt := (topS 28)
theorem sc_row_clocks : FnScope ["hand", "row", "hands", "clocks", "found", "counts", "number", "word", "letter", "sent", "one", "other"] ["hand", "row", "hands", "clocks"] (defScope s_row_clocks) := ⟨rfl, rfl, rfl, by decide +kernel, rfl, by decide +kernel, by decide +kernel⟩
structure TxtZ (mg : Str → Option Value) : Prop extends TxtM mg where
  zip : mg "zip" = none
/-- what is a tuple stays -/
def Tups (H H' : Hp) : Prop := ∀ b xs, H b = some (.tup xs) → H' b = some (.tup xs)
theorem Same.tups {H H' : Hp} (s : Same H H') : Tups H H' := fun b xs e => s _ _ e
theorem Tups.trans {H H1 H2 : Hp} (a : Tups H H1) (b : Tups H1 H2) : Tups H H2 := fun c xs e => b c xs (a c xs e)
theorem Tups.upd {H : Hp} {a : Addr} {o o' : HO} (h : H a = some o) (n : ∀ xs, o ≠ .tup xs) : Tups H (upd H a o') := fun b xs e => by
  rw [upd_ne]
  · exact e
  · intro c
    rw [c, h] at e
    exact n xs (Option.some.inj e)
def mx (i j : Int) : Int := if j > i then j else i
/-- the counts ahead of the n-th doing of a row -/
def prevC (hands : Nat) (Ck : Dg → List Int) (gs : List Dg) : Nat → List Int
  | 0 => List.replicate hands 0
  | n + 1 => match gs[n]? with
    | some g => Ck g
    | none => []
/-- the clocks of a row's doings, each by the one ahead of it, and by its sending -/
def RowCk (hands : Nat) (Ck : Dg → List Int) (h : Nat) (gs : List Dg) : Prop :=
  ∀ n g, gs[n]? = some g → Ck g = (if g.s then prevC hands Ck gs n else List.zipWith mx (prevC hands Ck gs n) (Ck ⟨true, g.l⟩)).set h ((n : Int) + 1)
/-- a dict of clocks -/
structure DictC (Ck : Dg → List Int) (H : Hp) (kvs : List (List Key × V)) (dn : List Dg) : Prop where
  ks : kvs.map (·.1) = dn.map Dg.key
  vs : ∀ (i : Nat) (g : Dg), dn[i]? = some g → ∃ q, kvs[i]? = some (g.key, .ref q) ∧ H q = some (.tup (iL (Ck g)))
theorem DictC.tups {Ck : Dg → List Int} {H H' : Hp} {kvs : List (List Key × V)} {dn : List Dg} (s : Tups H H') (d : DictC Ck H kvs dn) : DictC Ck H' kvs dn :=
  ⟨d.ks, fun i g e => let ⟨q, h1, h2⟩ := d.vs i g e; ⟨q, h1, s _ _ h2⟩⟩
theorem DictC.len {Ck : Dg → List Int} {H : Hp} {kvs : List (List Key × V)} {dn : List Dg} (d : DictC Ck H kvs dn) : kvs.length = dn.length := by
  have e := congrArg List.length d.ks
  simpa using e
theorem DictC.none {Ck : Dg → List Int} {H : Hp} {kvs : List (List Key × V)} {dn : List Dg} (d : DictC Ck H kvs dn) {g : Dg} (h : g ∉ dn) : valV kvs g.key = Option.none := by
  refine val_none fun c => ?_
  rw [d.ks] at c
  obtain ⟨t, ht, e⟩ := List.mem_map.mp c
  exact h (Dg.key_inj e ▸ ht)
theorem DictC.get {Ck : Dg → List Int} {H : Hp} {kvs : List (List Key × V)} {dn : List Dg} (d : DictC Ck H kvs dn) (nd : dn.Nodup) {g : Dg} (hm : g ∈ dn) : ∃ q, valV kvs g.key = some (.ref q) ∧ H q = some (.tup (iL (Ck g))) := by
  obtain ⟨i, lt, e⟩ := List.getElem_of_mem hm
  obtain ⟨q, h1, h2⟩ := d.vs i g (List.getElem?_eq_some_iff.mpr ⟨lt, e⟩)
  refine ⟨q, val_some ?_ h1, h2⟩
  rw [d.ks]
  exact List.Pairwise.map _ (fun a b c e => c (Dg.key_inj e)) nd
theorem DictC.snoc {Ck : Dg → List Int} {H H' : Hp} {kvs : List (List Key × V)} {dn : List Dg} (d : DictC Ck H kvs dn) (s : Tups H H') {g : Dg} {q : Addr} (hq : H' q = some (.tup (iL (Ck g)))) : DictC Ck H' (kvs ++ [(g.key, .ref q)]) (dn ++ [g]) := by
  refine ⟨by rw [List.map_append, List.map_append, d.ks]; rfl, fun i g' e => ?_⟩
  rcases snoc_get e with e | ⟨e1, rfl⟩
  · obtain ⟨q', k1, k2⟩ := d.vs i g' e
    have lt := (List.getElem?_eq_some_iff.mp k1).1
    exact ⟨q', by rw [List.getElem?_append_left lt]; exact k1, s _ _ k2⟩
  · refine ⟨q, ?_, hq⟩
    rw [e1, ← d.len, List.getElem?_append_right (Nat.le_refl _), Nat.sub_self]
    rfl
def readyG (dn : List Dg) (g : Dg) : Bool := g.s || decide ((⟨true, g.l⟩ : Dg) ∈ dn)
/-- a row as far as its gettings find their sendings -/
def reach (dn : List Dg) (gs : List Dg) : List Dg := gs.takeWhile (readyG dn)
theorem reach_all {dn : List Dg} : ∀ {gs : List Dg} {j : Nat}, (∀ i g, i < j → gs[i]? = some g → readyG dn g = true) → j ≤ gs.length → (∀ g, gs[j]? = some g → readyG dn g = false) → reach dn gs = gs.take j
  | [], j, _, _, _ => by simp [reach]
  | g :: r, 0, _, _, h => by
    have e := h g rfl
    simp [reach, List.takeWhile_cons, e]
  | g :: r, j + 1, h, hl, hn => by
    have e := h 0 g (by omega) rfl
    have ih := reach_all (dn := dn) (gs := r) (j := j) (fun i g' hi eg => h (i + 1) g' (by omega) eg) (by simpa using hl) (fun g' eg => hn g' eg)
    unfold reach at ih ⊢
    rw [List.takeWhile_cons, e, ih]
    rfl
theorem rep_ints : ∀ n : Nat, (List.replicate n [V.int 0]).flatten = iL (List.replicate n 0)
  | 0 => rfl
  | n + 1 => by
    rw [List.replicate_succ, List.flatten_cons, rep_ints n, List.replicate_succ]
    rfl
section
variable {P : Program} {w : World} {K : PySem.W.Frag} {mg : Str → Option Value} {base : Heap}
/-- a row of doings at t -/
def RowD (H : Hp) (t : Addr) (gs : List Dg) : Prop := ∃ qs : List Addr, H t = some (.tup (qs.map V.ref)) ∧ qs.length = gs.length ∧ ∀ (j : Nat) (q : Addr) (g : Dg), qs[j]? = some q → gs[j]? = some g → H q = some (.tup g.vs)
def spRowC (Ck : Dg → List Int) : Sp := fun vs H Q _ => ∃ (h : Nat) (t : Addr) (gs : List Dg) (hands : Nat) (c : Addr) (ckv : List (List Key × V)) (dn : List Dg), vs = [.int (h : Int), .ref t, .int (hands : Int), .ref c] ∧ RowD H t gs ∧ H c = some (.dT ckv) ∧ DictC Ck H ckv dn ∧ dn.Nodup ∧ h < hands ∧ hands ≤ 6 ∧
  gs.Nodup ∧ gs.length ≤ 100 ∧ RowCk hands Ck h gs ∧ (∀ g, (Ck g).length = hands) ∧ ∀ H' d kvs, Same H H' → H d = none → H' d = some (.dT kvs) → DictC Ck H' kvs (reach dn gs) → Q (.ref d) H'
theorem ok_rowc {f : Addr} {fd : FuncData} {Ck : Dg → List Int} (F : Fun K "row_clocks" "row_clocks" s_row_clocks f fd) (T : TxtZ mg) : FnOk P w K mg base CX0 1 f fd ["hand", "row", "hands", "clocks"] (spRowC Ck) := by
  refine F.ok sc_row_clocks (fun vs H Q E h => ?_) (fun cdv A outer s H vs Q E hr h => ?_)
  · obtain ⟨h, t, gs, hands, c, ckv, dn, rfl, _⟩ := h
    rfl
  · obtain ⟨h, t, gs, hands, c, ckv, dn, rfl, ⟨qs, ht, hql, hqs⟩, hc, dc, nd, hh, h6, gnd, g100, rck, ckl, q⟩ := h
    have hu := hu_of hr
    refine ⟨_, (pss_cons (ps_set (i := 4) sc_row_clocks.nd rfl (Or.inl rfl) pe_dnewT) (pss_cons (ps_set (i := 5) sc_row_clocks.nd rfl (Or.inl rfl) (pe_op op_rep (pe_lst (pa_cons pe_int pa_nil)) (pv 2))) (pss_cons (ps_for PassesOwn.never rfl (pi_enT (by rfl) T.enumerate (pa_cons (pv 1) pa_nil)) (pg_tup (by rfl) (pgs_cons (pg_name (i := 6) sc_row_clocks.nd rfl (Or.inl rfl)) (pgs_cons (pg_tup (by rfl) (pgs_cons (pg_name (i := 7) sc_row_clocks.nd rfl (Or.inl rfl)) (pgs_cons (pg_name (i := 8) sc_row_clocks.nd rfl (Or.inl rfl)) pgs_nil))) pgs_nil))) (C8.pss_cut (ps_if (pt_cmpR op_eq (pv 7) pe_str (nomark _)) (pss_cons (ps_set (i := 9) sc_row_clocks.nd rfl (Or.inl rfl) (pe_dget1 hu (pv 3) (pe_tup (pa_cons pe_str (pa_cons (pv 8) pa_nil))) ⟨by rfl, by rfl, by rfl, by rfl⟩)) (pss_cons (ps_if (pt_cmpR op_isN (pv 9) pe_non (nomark _)) (pss_one (ps_ret (pv 4))) pss_nil) (pss_one (ps_setLc (i := 5) (own := [("one", 10), ("other", 11)]) (tt := tYes) rfl sc_row_clocks.nd rfl rfl (sw_true rfl rfl rfl (by decide +kernel)) (pi_zpM (by rfl) T.zip (pa_cons (pv 5) (pa_cons (pv 9) pa_nil))) (blkOk_by (own := [("one", 10), ("other", 11)]) (N := ["hand", "row", "hands", "clocks", "found", "counts", "number", "word", "letter", "sent", "one", "other"]) (sc := defScope s_row_clocks) (by decide +kernel)) (fun _ _ _ _ _ => (pg_tupK (K := K) (n := 2) rfl (by rfl) (pgs_cons (pg_name (i := 10) sc_row_clocks.nd rfl (Or.inl rfl)) (pgs_cons (pg_name (i := 11) sc_row_clocks.nd rfl (Or.inl rfl)) pgs_nil)))) (fun _ _ _ _ _ => pts_nil) (fun _ _ _ _ _ => (pe_callB (call_max2 rfl) (by rfl) T.max bb_max (pa_cons (pv 10) (pa_cons (pv 11) pa_nil)))))))) pss_nil) (pss_cons (ps_asg (pe_op op_add (pv 6) pe_int) (pg_sub (pv 5) (pv 0) set_list)) (pss_one (ps_dput hu (pv 4) (pe_tup (pa_cons (pv 7) (pa_cons (pv 8) pa_nil))) (pe_callTy call_tuple_of (by rfl) T.tuple bt_tuple (pa_cons (pv 5) pa_nil)) rfl))))) (pss_one (ps_ret (pv 4)))))), ?_⟩
    intro d nD
    have s0 : Same H (upd H d (.dT [])) := same_new nD
    -- counts = [0] * hands
    refine ⟨(by show 1 ≤ sizeLine; decide), fun l0 nl0 => ?_⟩
    have sl0 : Same (upd H d (.dT [])) (upd (upd H d (.dT [])) l0 (.lst [.int 0])) := same_new nl0
    refine ⟨_, rfl, l0, (hands : Int), _, rfl, rfl, upd_same, by omega, by omega, ?_, fun ca nca => ?_⟩
    · have e : (hands : Int).toNat = hands := by omega
      rw [e]
      show 1 * hands ≤ sizeLine
      rw [Nat.one_mul]
      exact Nat.le_of_lt (small1000 (by omega))
    · rw [show ((hands : Int)).toNat = hands by omega, rep_ints]
      have sca := same_new (o := .lst (iL (List.replicate hands 0))) nca
      have s1 : Same H (upd (upd (upd H d (.dT [])) l0 (.lst [.int 0])) ca (.lst (iL (List.replicate hands 0)))) := (s0.trans sl0).trans sca
      have d1 : (upd (upd (upd H d (.dT [])) l0 (.lst [.int 0])) ca (.lst (iL (List.replicate hands 0)))) d = some (.dT []) := sca _ _ (sl0 _ _ upd_same)
      have c1 : (upd (upd (upd H d (.dT [])) l0 (.lst [.int 0])) ca (.lst (iL (List.replicate hands 0)))) ca = some (.lst (iL (List.replicate hands 0))) := upd_same
      have nHca : H ca = none := (s0.trans sl0).free nca
      revert s1 d1 c1
      generalize upd (upd (upd H d (.dT [])) l0 (.lst [.int 0])) ca (.lst (iL (List.replicate hands 0))) = H1
      intro s1 d1 c1
      have prl : ∀ j, j ≤ gs.length → (prevC hands Ck gs j).length = hands := by
        intro j hj
        cases j with
        | zero => exact List.length_replicate ..
        | succ j =>
          show (match gs[j]? with | some g => Ck g | none => []).length = hands
          rw [List.getElem?_eq_getElem (by omega)]
          exact ckl _
      refine ⟨_, rfl, t, _, rfl, .inl (.inl (s1 _ _ ht)), for_it walk_enT (fun j σ H3 => ∃ (v6 v7 v8 v9 v10 v11 : Option V) (ca : Addr) (kvs : List (List Key × V)), σ = [some (.int (h : Int)), some (.ref t), some (.int (hands : Int)), some (.ref c), some (.ref d), some (.ref ca), v6, v7, v8, v9, v10, v11] ∧ Same H H3 ∧ H ca = none ∧ H3 d = some (.dT kvs) ∧ DictC Ck H3 kvs (gs.take j) ∧
          H3 ca = some (.lst (iL (prevC hands Ck gs j))) ∧ ∀ i g, i < j → gs[i]? = some g → readyG dn g = true) ⟨_, _, _, _, _, _, ca, [], rfl, s1, nHca, d1, ⟨rfl, fun i g e => by cases e⟩, c1, fun i g e => by omega⟩ (fun j σ H3 _ ⟨_, _, _, _, _, _, _, _, _, sm, _⟩ => .inl (.inl (sm _ _ ht))) ?_ ?_⟩
      · rintro j x σ H3 H4 hj ⟨v6, v7, v8, v9, v10, v11, ca, kvs, rfl, sm, nca, hd, dc3, hca, rdy⟩ ⟨U, x1, x2, rfl, nU, rfl, e1, e2⟩
        obtain rfl : x1 = .int (j : Int) := (Option.some.inj e1).symm
        obtain ⟨qd, eq, rfl⟩ := map_get e2
        obtain ⟨g, eg⟩ := get_of hql eq
        have hjl : j < gs.length := (List.getElem?_eq_some_iff.mp eg).1
        have hg := hqs j qd g eq eg
        have sU : Same H3 (upd H3 U (.tup [.int (j : Int), .ref qd])) := same_new nU
        have sm4 := sm.trans sU
        have hd4 := sU _ _ hd
        have hca4 := sU _ _ hca
        have dc4 := dc3.tups (Same.tups sU)
        have hU4 : (upd H3 U (.tup [.int (j : Int), .ref qd])) U = some (.tup [.int (j : Int), .ref qd]) := upd_same
        revert sm4 hd4 hca4 dc4 hU4
        generalize upd H3 U (.tup [.int (j : Int), .ref qd]) = H4
        intro sm4 hd4 hca4 dc4 hU4
        refine ⟨U, _, rfl, .inl (.inl hU4), rfl, _, _, rfl, _, _, rfl, qd, g.vs, rfl, .inl (.inl (sm4 _ _ hg)), rfl, _, _, rfl, _, _, rfl, rfl, rfl, ?_⟩
        -- behind the if: the counts ahead, the sending's taken in
        refine ⟨fun σ' H5 => readyG dn g = true ∧ ∃ (v9 v10 v11 : Option V) (ca : Addr), σ' = [some (.int (h : Int)), some (.ref t), some (.int (hands : Int)), some (.ref c), some (.ref d), some (.ref ca), some (.int (j : Int)), some (.str g.word), some (.int (g.l : Int)), v9, v10, v11] ∧ Same H H5 ∧ H ca = none ∧ H5 d = some (.dT kvs) ∧ DictC Ck H5 kvs (gs.take j) ∧
          H5 ca = some (.lst (iL (if g.s then prevC hands Ck gs j else List.zipWith mx (prevC hands Ck gs j) (Ck ⟨true, g.l⟩)))), ?_, ?_⟩
        · refine ⟨_, rfl, rfl, _, rfl, ?_⟩
          obtain ⟨b, l⟩ := g
          cases b with
          | true =>
            have e0 : decide (V.str (Dg.word ⟨true, l⟩) = V.str "get") = false := decide_eq_false fun z => word_ne (V.str.inj z)
            refine Eq.mpr (if_neg (by rw [e0]; exact Bool.false_ne_true)) ?_
            exact ⟨rfl, _, _, _, ca, rfl, sm4, nca, hd4, dc4, hca4⟩
          | false =>
            have e0 : decide (V.str (Dg.word ⟨false, l⟩) = V.str "get") = true := decide_eq_true rfl
            refine Eq.mpr (if_pos e0) ?_
            -- sent = clocks.get(("send", letter))
            refine ⟨_, rfl, c, rfl, .inr ⟨ckv, .inl (sm4 _ _ hc)⟩, _, rfl, (by show 2 ≤ sizeLine; decide), fun a na => ?_⟩
            have sa : Same H4 (upd H4 a (.tup [.str "send", .int (l : Int)])) := same_new na
            have ha : (upd H4 a (.tup [.str "send", .int (l : Int)])) a = some (.tup ((Dg.key ⟨true, l⟩).map kV)) := upd_same
            have g1 := DGet.t (k := Dg.key ⟨true, l⟩) (sa _ _ (sm4 _ _ hc)) ha
            have sm5 := sm4.trans sa
            have hd5 := sa _ _ hd4
            have hca5 := sa _ _ hca4
            have dc5 := dc4.tups (Same.tups sa)
            revert g1 sm5 hd5 hca5 dc5
            generalize upd H4 a (.tup [.str "send", .int (l : Int)]) = H5
            intro g1 sm5 hd5 hca5 dc5
            refine ⟨_, g1, ?_⟩
            by_cases hm : (⟨true, l⟩ : Dg) ∈ dn
            · obtain ⟨q1, k1, t1⟩ := (dc.tups (Same.tups sm5)).get nd hm
              rw [k1]
              refine ⟨_, rfl, rfl, _, rfl, ?_⟩
              -- counts = [max(one, other) for one, other in zip(counts, sent)]
              have lp := prl j (by omega)
              have lc := ckl ⟨true, l⟩
              refine ⟨_, rfl, _, rfl, ca, q1, _, _, rfl, .inl (.inl hca5), .inl (.inl t1), fun D nDD => lc_it (walk_zM rfl) (fun i H6 => H6 D = some (.lst (iL ((List.zipWith mx (prevC hands Ck gs j) (Ck ⟨true, l⟩)).take i))) ∧ Same H5 H6) ⟨upd_same, same_new nDD⟩ (fun i H6 _ ⟨_, s6⟩ => ⟨.inl (.inl (s6 _ _ hca5)), .inl (.inl (s6 _ _ t1))⟩) ?_ ?_⟩
              · rintro i x H6 H7 hi ⟨hD, s6⟩ ⟨W, x1, x2, rfl, nW, rfl, f1, f2⟩
                rw [List.length_map, List.length_map, lp, lc, Nat.min_self] at hi
                have i1 : i < (prevC hands Ck gs j).length := by omega
                have i2 : i < (Ck ⟨true, l⟩).length := by omega
                obtain rfl : x1 = .int (prevC hands Ck gs j)[i] := Option.some.inj (f1.symm.trans (iL_get i1))
                obtain rfl : x2 = .int (Ck ⟨true, l⟩)[i] := Option.some.inj (f2.symm.trans (iL_get i2))
                have sW : Same H6 (upd H6 W (.tup [.int (prevC hands Ck gs j)[i], .int (Ck ⟨true, l⟩)[i]])) := same_new nW
                refine ⟨W, _, rfl, .inl (.inl upd_same), rfl, _, _, rfl, _, _, rfl, rfl, rfl, ?_⟩
                refine ⟨_, rfl, _, rfl, _, _, rfl, _, sW _ _ hD, ?_, ?_, fun b o e => ?_⟩
                · rw [List.length_map, List.length_take]
                  exact Nat.lt_of_le_of_lt (Nat.min_le_left _ _) (small1000 (by omega))
                · have ez : (List.zipWith mx (prevC hands Ck gs j) (Ck ⟨true, l⟩))[i]? = some (mx (prevC hands Ck gs j)[i] (Ck ⟨true, l⟩)[i]) := by
                    rw [List.getElem?_zipWith, List.getElem?_eq_getElem i1, List.getElem?_eq_getElem i2]
                  rw [upd_same, take_snoc ez]
                  exact congrArg (fun z => some (HO.lst z)) (iL_app _ _)
                · rw [upd_ne (ne_of_none e nDD)]
                  exact sW _ _ (s6 _ _ e)
              · rintro H6 ⟨hD, s6⟩
                rw [List.length_map, List.length_map, lp, lc, Nat.min_self, List.take_of_length_le (by rw [List.length_zipWith, lp, lc, Nat.min_self]; exact Nat.le_refl _)] at hD
                refine ⟨?_, _, _, _, D, rfl, sm5.trans s6, sm5.free nDD, s6 _ _ hd5, dc5.tups (Same.tups s6), hD⟩
                exact decide_eq_true hm
            · rw [(dc.tups (Same.tups sm5)).none hm]
              refine ⟨_, rfl, rfl, _, rfl, ?_⟩
              refine ⟨_, rfl, q H5 d kvs sm5 nD hd5 ?_⟩
              rw [reach_all (j := j) rdy (by omega) (fun g' e => by
                rw [eg] at e
                cases e
                exact decide_eq_false hm)]
              exact dc5
        · rintro σ' H5 ⟨rg, v9, v10, v11, ca, rfl, sm5, nca, hd5, dc5, hca5⟩
          have lp := prl j (by omega)
          have lc := ckl ⟨true, g.l⟩
          have eck := rck j g eg
          revert hca5 eck
          generalize ez : (if g.s then prevC hands Ck gs j else List.zipWith mx (prevC hands Ck gs j) (Ck ⟨true, g.l⟩)) = L
          intro hca5 eck
          have lL : L.length = hands := by
            rw [← ez]
            split
            · exact lp
            · rw [List.length_zipWith, lp, lc, Nat.min_self]
          have ncd : ca ≠ d := ne_of hca5 hd5 (by intro z; cases z)
          -- counts[hand] = number + 1
          refine ⟨_, rfl, _, _, rfl, rfl, _, rfl, _, rfl, ca, _, _, h, rfl, rfl, hca5, ix_at rfl (by rw [List.length_map]; omega), ?_⟩
          have hca6 : (upd H5 ca (.lst ((iL L).set h (.int ((j : Int) + 1))))) ca = some (.lst (iL (Ck g))) := by
            rw [iL_put, eck]
          have tp6 : Tups H5 (upd H5 ca (.lst ((iL L).set h (.int ((j : Int) + 1))))) := Tups.upd hca5 fun xs z => by cases z
          have k6 : ∀ b o, H b = some o → (upd H5 ca (.lst ((iL L).set h (.int ((j : Int) + 1))))) b = some o := fun b o e => by
            rw [upd_ne (ne_of_none e nca)]
            exact sm5 _ _ e
          have hd6 : (upd H5 ca (.lst ((iL L).set h (.int ((j : Int) + 1))))) d = some (.dT kvs) := by
            rw [upd_ne ncd.symm]
            exact hd5
          revert hca6 tp6 k6 hd6
          generalize upd H5 ca (.lst ((iL L).set h (.int ((j : Int) + 1)))) = H6
          intro hca6 tp6 k6 hd6
          have dc6 := dc5.tups tp6
          -- found[(word, letter)] = tuple(counts)
          refine ⟨_, rfl, ca, _, rfl, .inl ⟨.inl (.inl hca6), fun p np => ?_⟩⟩
          have sp : Same H6 (upd H6 p (.tup (iL (Ck g)))) := same_new np
          refine ⟨_, rfl, _, rfl, _, rfl, (by show 2 ≤ sizeLine; decide), fun z nz => ?_⟩
          have sz : Same (upd H6 p (.tup (iL (Ck g)))) (upd (upd H6 p (.tup (iL (Ck g)))) z (.tup [.str g.word, .int (g.l : Int)])) := same_new nz
          have hp7 : (upd (upd H6 p (.tup (iL (Ck g)))) z (.tup [.str g.word, .int (g.l : Int)])) p = some (.tup (iL (Ck g))) := sz _ _ upd_same
          have hz7 : (upd (upd H6 p (.tup (iL (Ck g)))) z (.tup [.str g.word, .int (g.l : Int)])) z = some (.tup (g.key.map kV)) := upd_same
          have s7 := Same.trans sp sz
          have hd7 := s7 _ _ hd6
          have hca7 := s7 _ _ hca6
          have dc7 := dc6.tups (Same.tups s7)
          have k7 : ∀ b o, H b = some o → (upd (upd H6 p (.tup (iL (Ck g)))) z (.tup [.str g.word, .int (g.l : Int)])) b = some o := fun b o e => s7 _ _ (k6 b o e)
          revert hp7 hz7 hd7 hca7 dc7 k7
          clear sp nz sz s7
          generalize upd (upd H6 p (.tup (iL (Ck g)))) z (.tup [.str g.word, .int (g.l : Int)]) = H7
          intro hp7 hz7 hd7 hca7 dc7 k7
          have gnew : g ∉ gs.take j := fun hm => by
            obtain ⟨i, hi, ei⟩ := List.getElem_of_mem hm
            rw [List.length_take] at hi
            have e1 : gs[i]? = some g := by
              rw [List.getElem_take] at ei
              exact List.getElem?_eq_some_iff.mpr ⟨by omega, ei⟩
            have e2 := nd_ix gnd e1 eg
            omega
          have fr := dc7.none gnew
          have lk : kvs.length < sizeLine := by
            rw [dc7.len, List.length_take]
            exact Nat.lt_of_le_of_lt (Nat.min_le_left _ _) (small1000 (by omega))
          refine ⟨d, _, rfl, DPut.t (k := g.key) hd7 hz7 lk, ?_⟩
          rw [putK_new _ fr]
          have ncd7 : ca ≠ d := ne_of hca7 hd7 (by intro z; cases z)
          refine ⟨_, _, _, _, _, _, ca, _, rfl, fun b o e => ?_, nca, upd_same, ?_, ?_, fun i g' hi e => ?_⟩
          · rw [upd_ne (ne_of_none e nD)]
            exact k7 b o e
          · rw [take_snoc eg]
            exact dc7.snoc (Tups.upd hd7 fun xs z => by cases z) (by rw [upd_ne (ne_of hp7 hd7 (by intro z; cases z))]; exact hp7)
          · rw [upd_ne ncd7]
            show H7 ca = some (.lst (iL (match gs[j]? with | some g => Ck g | none => [])))
            rw [eg]
            exact hca7
          · by_cases c : i < j
            · exact rdy i g' c e
            · have e3 : i = j := by omega
              rw [e3, eg] at e
              cases e
              exact rg
      · rintro σ H3 ⟨v6, v7, v8, v9, v10, v11, ca, kvs, rfl, sm, nca, hd, dc3, hca, rdy⟩
        rw [List.length_map, hql] at dc3 rdy
        refine ⟨_, rfl, q H3 d kvs sm nD hd ?_⟩
        rw [reach_all (j := gs.length) (fun i g hi eg => rdy i g hi eg) (Nat.le_refl _) (fun g eg => by rw [List.getElem?_eq_none (Nat.le_refl _)] at eg; cases eg)]
        exact dc3
end
end Up

namespace Up
open PySem PySem.Spec PyProof.Rows L2
abbrev s_tinit : Stmt := (inClass (topS 21) 0)
abbrev s_teq : Stmt := (inClass (topS 21) 2)
abbrev s_tlen : Stmt := (inClass (topS 21) 1)
theorem sc_tinit : FnScope ["self", "rows"] ["self", "rows"] (defScope s_tinit) := ⟨rfl, rfl, rfl, by decide +kernel, rfl, by decide +kernel, by decide +kernel⟩
theorem sc_teq : FnScope ["self", "other"] ["self", "other"] (defScope s_teq) := ⟨rfl, rfl, rfl, by decide +kernel, rfl, by decide +kernel, by decide +kernel⟩
theorem sc_tlen : FnScope ["self"] ["self"] (defScope s_tlen) := ⟨rfl, rfl, rfl, by decide +kernel, rfl, by decide +kernel, by decide +kernel⟩
/-- rows that make a talk: many letters, each sent by S, got by G; Ck the clocks -/
structure Valid (gss : List (List Dg)) (many : Nat) (S G : Nat → Nat) (Ck : Dg → List Int) : Prop where
  h1 : 1 ≤ gss.length
  h6 : gss.length ≤ 6
  lt : ∀ t ∈ plAll 0 gss, t.1.l < many
  m12 : many ≤ 12
  len : (plAll 0 gss).length ≤ 24
  once : Once gss
  hd : Hands (plAll 0 gss) many S G
  ck : ∀ (h : Nat) (gs : List Dg), gss[h]? = some gs → RowCk gss.length Ck h gs
  ckl : ∀ g, (Ck g).length = gss.length
  rk : ∃ rk : Dg → Nat, (∀ (h : Nat) (gs : List Dg), gss[h]? = some gs → ∀ (n : Nat) (g g' : Dg), gs[n]? = some g → gs[n + 1]? = some g' → rk g < rk g') ∧ ∀ l, l < many → rk ⟨true, l⟩ < rk ⟨false, l⟩
/-- rows of doings, as lists or tuples of tuples -/
structure RowsG (H : Hp) (a : Addr) (gss : List (List Dg)) : Prop where
  ex : ∃ rs : List Addr, LT H a (rs.map V.ref) ∧ rs.length = gss.length ∧ ∀ (i : Nat) (t : Addr) (gs : List Dg), rs[i]? = some t → gss[i]? = some gs →
    ∃ qs : List Addr, LT H t (qs.map V.ref) ∧ qs.length = gs.length ∧ ∀ (j : Nat) (q : Addr) (g : Dg), qs[j]? = some q → gs[j]? = some g → H q = some (.tup g.vs)
theorem RowsG.same {H H' : Hp} {p : Addr} {gss : List (List Dg)} (s : Same H H') (h : RowsG H p gss) : RowsG H' p gss := by
  obtain ⟨ts, h1, h2, h3⟩ := h.ex
  refine ⟨ts, h1.same s, h2, fun i t gs e1 e2 => ?_⟩
  obtain ⟨qs, k1, k2, k3⟩ := h3 i t gs e1 e2
  exact ⟨qs, k1.same s, k2, fun j q g e3 e4 => s _ _ (k3 j q g e3 e4)⟩
/-- the rows' items, as they are copied -/
theorem RowsG.items {H : Hp} {a : Addr} {gss : List (List Dg)} (h : RowsG H a gss) : ∃ xss : List (List V), xss.length = gss.length ∧ RowsIn H a xss ∧ ∀ H' p, Same H H' → RowsT H' p xss → RowsD H' p gss := by
  obtain ⟨rs, h1, h2, h3⟩ := h.ex
  have key : ∀ i : Nat, ∃ xs : List V, ∀ (t : Addr) (gs : List Dg), rs[i]? = some t → gss[i]? = some gs →
      LT H t xs ∧ ∃ qs : List Addr, xs = qs.map V.ref ∧ qs.length = gs.length ∧ ∀ (j : Nat) (q : Addr) (g : Dg), qs[j]? = some q → gs[j]? = some g → H q = some (.tup g.vs) := by
    intro i
    cases et : rs[i]? with
    | none => exact ⟨[], fun t gs e => by cases e⟩
    | some t =>
      obtain ⟨gs, eg⟩ := get_of h2 et
      obtain ⟨qs, k1, k2, k3⟩ := h3 i t gs et eg
      refine ⟨qs.map V.ref, fun t' gs' e1 e2 => ?_⟩
      cases e1
      rw [eg] at e2
      cases e2
      exact ⟨k1, qs, rfl, k2, k3⟩
  refine ⟨(List.range gss.length).map fun i => (key i).choose, by rw [List.length_map, List.length_range], ⟨rs, h1, by rw [List.length_map, List.length_range]; exact h2, fun i r xs e1 e2 => ?_⟩, fun H' p s hT => ?_⟩
  · have hi := (List.getElem?_eq_some_iff.mp e1).1
    rw [List.getElem?_map, List.getElem?_range (by omega)] at e2
    obtain rfl : (key i).choose = xs := Option.some.inj e2
    obtain ⟨gs, eg⟩ := get_of h2 e1
    exact ((key i).choose_spec r gs e1 eg).1
  · obtain ⟨ts, t1, t2, t3⟩ := hT.ex
    rw [List.length_map, List.length_range] at t2
    refine ⟨ts, t1, t2, fun i t gs e1 e2 => ?_⟩
    have hi := (List.getElem?_eq_some_iff.mp e2).1
    have hr : rs[i]? = some rs[i] := List.getElem?_eq_getElem (by omega)
    obtain ⟨_, qs, eq, ql, qk⟩ := (key i).choose_spec _ gs hr e2
    have ht := t3 i t _ e1 (by rw [List.getElem?_map, List.getElem?_range hi]; rfl)
    refine ⟨qs, ?_, ql, fun j q g e3 e4 => s _ _ (qk j q g e3 e4)⟩
    rw [ht]
    exact congrArg (fun z => some (HO.tup z)) eq
/-- a talk's fields -/
def tf (r p : Addr) (many : Nat) (s g c : Addr) : List (Str × V) := [("rows", .ref r), ("places", .ref p), ("many", .int (many : Int)), ("senders", .ref s), ("getters", .ref g), ("clocks", .ref c)]
def tf1 (r : Addr) : List (Str × V) := [("rows", .ref r)]
def tf2 (r p : Addr) : List (Str × V) := [("rows", .ref r), ("places", .ref p)]
def tf3 (r p : Addr) (many : Nat) : List (Str × V) := [("rows", .ref r), ("places", .ref p), ("many", .int (many : Int))]
def tf4 (r p : Addr) (many : Nat) (s : Addr) : List (Str × V) := [("rows", .ref r), ("places", .ref p), ("many", .int (many : Int)), ("senders", .ref s)]
def tf5 (r p : Addr) (many : Nat) (s g : Addr) : List (Str × V) := [("rows", .ref r), ("places", .ref p), ("many", .int (many : Int)), ("senders", .ref s), ("getters", .ref g)]
theorem put1 (r : Addr) : putF "rows" (.ref r) [] = tf1 r := rfl
theorem put2 (r p : Addr) : putF "places" (.ref p) (tf1 r) = tf2 r p := rfl
theorem put3 (r p : Addr) (many : Nat) : putF "many" (.int (many : Int)) (tf2 r p) = tf3 r p many := rfl
theorem put4 (r p : Addr) (many : Nat) (s : Addr) : putF "senders" (.ref s) (tf3 r p many) = tf4 r p many s := rfl
theorem put5 (r p : Addr) (many : Nat) (s g : Addr) : putF "getters" (.ref g) (tf4 r p many s) = tf5 r p many s g := rfl
theorem put6 (r p : Addr) (many : Nat) (s g c : Addr) : putF "clocks" (.ref c) (tf5 r p many s g) = tf r p many s g c := rfl
structure TalkAt (H : Hp) (x C : Addr) (gss : List (List Dg)) (many : Nat) (S G : Nat → Nat) (Ck : Dg → List Int) : Prop where
  ex : ∃ (dx r p s g c : Addr) (kvs ckv : List (List Key × V)) (dn : List Dg), H x = some (.ins C dx (tf r p many s g c)) ∧ RowsD H r gss ∧ H p = some (.dT kvs) ∧ DictP H kvs (plAll 0 gss) ∧
    H s = some (.tup (iL ((List.range many).map fun l => ((S l : Nat) : Int)))) ∧ H g = some (.tup (iL ((List.range many).map fun l => ((G l : Nat) : Int)))) ∧ H c = some (.dT ckv) ∧ DictC Ck H ckv dn ∧ dn.Nodup ∧ ∀ g, g ∈ dn ↔ g ∈ (plAll 0 gss).map (·.1)
/-- its dicts are new -/
def TalkNw (H H' : Hp) (x C : Addr) : Prop := ∃ (dx r p : Addr) (many : Nat) (s g c : Addr), H' x = some (.ins C dx (tf r p many s g c)) ∧ H p = none ∧ H c = none
theorem TalkAt.same {H H' : Hp} {x C : Addr} {gss : List (List Dg)} {many : Nat} {S G : Nat → Nat} {Ck : Dg → List Int} (e : Same H H') (t : TalkAt H x C gss many S G Ck) : TalkAt H' x C gss many S G Ck := by
  obtain ⟨dx, r, p, s, g, c, kvs, ckv, dn, h1, h2, h3, h4, h5, h6, h7, h8, h9, h10⟩ := t.ex
  exact ⟨dx, r, p, s, g, c, kvs, ckv, dn, e _ _ h1, h2.same e, e _ _ h3, h4.same e, e _ _ h5, e _ _ h6, e _ _ h7, h8.tups (Same.tups e), h9, h10⟩
section
variable {P : Program} {w : World} {K : PySem.W.Frag} {mg : Str → Option Value} {base : Heap}
def spClocks (Sl : List (List Dg) → Prop) (Ck : Dg → List Int) : Sp := fun vs H Q _ => ∃ (p : Addr) (gss : List (List Dg)) (many : Nat) (S G : Nat → Nat), vs = [.ref p] ∧ Sl gss ∧ RowsD H p gss ∧ Valid gss many S G Ck ∧
  ∀ H' d kvs dn, Same H H' → H d = none → H' d = some (.dT kvs) → DictC Ck H' kvs dn → dn.Nodup → (∀ g, g ∈ dn ↔ g ∈ (plAll 0 gss).map (·.1)) → Q (.ref d) H'
def spTInit (C : Addr) (Sl : List (List Dg) → Prop) (Ck : Dg → List Int) : Sp := fun vs H Q _ => ∃ (x dx a : Addr) (gss : List (List Dg)) (many : Nat) (S G : Nat → Nat), vs = [.ref x, .ref a] ∧ H x = some (.ins C dx []) ∧ Sl gss ∧ RowsG H a gss ∧ Valid gss many S G Ck ∧
  ∀ H', (∀ b o, H b = some o → b ≠ x → H' b = some o) → TalkAt H' x C gss many S G Ck → TalkNw H H' x C → Q .non H'
structure TxtT (K : PySem.W.Frag) (mg : Str → Option Value) (C fCo fPl fCn fCh fHa fCl : Addr) : Prop extends TxtZ mg where
  cl : Cls K C
  nRows : NoAttr K C "rows"
  nPlaces : NoAttr K C "places"
  nMany : NoAttr K C "many"
  nSenders : NoAttr K C "senders"
  nGetters : NoAttr K C "getters"
  nClocks : NoAttr K C "clocks"
  g_Talk : mg "Talk" = some (.ref C)
  g_copied_rows : mg "copied_rows" = some (.ref fCo)
  g_found_places : mg "found_places" = some (.ref fPl)
  g_count_letters : mg "count_letters" = some (.ref fCn)
  g_check_letters : mg "check_letters" = some (.ref fCh)
  g_found_hands : mg "found_hands" = some (.ref fHa)
  g_found_clocks : mg "found_clocks" = some (.ref fCl)
theorem ok_tinit {f C fCo fPl fCn fCh fHa fCl : Addr} {fd fdCo fdPl fdCn fdCh fdHa fdCl : FuncData} {Sl : List (List Dg) → Prop} {Ck : Dg → List Int} (F : Fun K "__init__" "Talk.__init__" s_tinit f fd) (T : TxtT K mg C fCo fPl fCn fCh fHa fCl)
    (F_copied_rows : Fun K "copied_rows" "copied_rows" s_copied_rows fCo fdCo) (b_copied_rows : Binds K fdCo ["rows"] []) (G_copied_rows : FnOk P w K mg base CX0 2 fCo fdCo ["rows"] spCopy)
    (F_found_places : Fun K "found_places" "found_places" s_found_places fPl fdPl) (b_found_places : Binds K fdPl ["rows"] []) (G_found_places : FnOk P w K mg base CX0 4 fPl fdPl ["rows"] spPlaces)
    (F_count_letters : Fun K "count_letters" "count_letters" s_count_letters fCn fdCn) (b_count_letters : Binds K fdCn ["places"] []) (F_check_letters : Fun K "check_letters" "check_letters" s_check_letters fCh fdCh) (b_check_letters : Binds K fdCh ["places", "many"] [])
    (F_found_hands : Fun K "found_hands" "found_hands" s_found_hands fHa fdHa) (b_found_hands : Binds K fdHa ["places", "word", "many"] [])
    (kp_clocks : PySem.W.keepIn K (.ref fCl) = true) (b_found_clocks : Binds K fdCl ["rows"] []) (G_found_clocks : FnOk P w K mg base CX0 4 fCl fdCl ["rows"] (spClocks Sl Ck)) :
    FnOk P w K mg base CX0 5 f fd ["self", "rows"] (spTInit C Sl Ck) := by
  have G_count_letters : FnOk P w K mg base CX0 1 fCn fdCn ["places"] spCount := ok_count F_count_letters T.toTxtM
  have G_check_letters : FnOk P w K mg base CX0 1 fCh fdCh ["places", "many"] spCheck := ok_check F_check_letters T.toTxtM
  have G_hS : FnOk P w K mg base CX0 1 fHa fdHa ["places", "word", "many"] (spHands true) := ok_hands F_found_hands T.toTxtM
  have G_hG : FnOk P w K mg base CX0 1 fHa fdHa ["places", "word", "many"] (spHands false) := ok_hands F_found_hands T.toTxtM
  refine F.ok sc_tinit (fun vs H Q E h => ?_) (fun cdv A outer s H vs Q E hr h => ?_)
  · obtain ⟨x, dx, a, gss, many, S, G, rfl, _⟩ := h
    rfl
  · obtain ⟨x, dx, a, gss, many, S, G, rfl, hx, hSl, hR, hV, q⟩ := h
    have hr_copied_rows : Room 2 _ := hr.mono (by decide)
    have hr_found_places : Room 4 _ := hr
    have hr1 : Room 1 _ := hr.mono (by decide)
    have hr_found_clocks : Room 4 _ := hr
    refine ⟨_, (pss_cons (ps_fld (pv 0) (pe_call G_copied_rows hr_copied_rows (by rfl) T.g_copied_rows F_copied_rows.kp b_copied_rows .nil pass0 (pa_cons (pv 1) pa_nil)) rfl) (pss_cons (ps_fld (pv 0) (pe_call G_found_places hr_found_places (by rfl) T.g_found_places F_found_places.kp b_found_places .nil pass0 (pa_cons (pe_fld (pv 0) rfl) pa_nil)) rfl) (pss_cons (ps_fld (pv 0) (pe_call G_count_letters hr1 (by rfl) T.g_count_letters F_count_letters.kp b_count_letters .nil pass0 (pa_cons (pe_fld (pv 0) rfl) pa_nil)) rfl) (pss_cons (ps_expr (pe_call G_check_letters hr1 (by rfl) T.g_check_letters F_check_letters.kp b_check_letters .nil pass0 (pa_cons (pe_fld (pv 0) rfl) (pa_cons (pe_fld (pv 0) rfl) pa_nil)))) (pss_cons (ps_fld (pv 0) (pe_call G_hS hr1 (by rfl) T.g_found_hands F_found_hands.kp b_found_hands .nil pass0 (pa_cons (pe_fld (pv 0) rfl) (pa_cons pe_str (pa_cons (pe_fld (pv 0) rfl) pa_nil)))) rfl) (pss_cons (ps_fld (pv 0) (pe_call G_hG hr1 (by rfl) T.g_found_hands F_found_hands.kp b_found_hands .nil pass0 (pa_cons (pe_fld (pv 0) rfl) (pa_cons pe_str (pa_cons (pe_fld (pv 0) rfl) pa_nil)))) rfl) (pss_cons (ps_fld (pv 0) (pe_call G_found_clocks hr_found_clocks (by rfl) T.g_found_clocks kp_clocks b_found_clocks .nil pass0 (pa_cons (pe_fld (pv 0) rfl) pa_nil)) rfl) (pss_one (ps_if (pt_cmpR op_lt (pe_callB call_len_dT (by rfl) T.len PySem.boot_len (pa_cons (pe_fld (pv 0) rfl) pa_nil)) (pe_callB call_len_dT (by rfl) T.len PySem.boot_len (pa_cons (pe_fld (pv 0) rfl) pa_nil)) (nomark _)) (pss_one ps_never) pss_nil))))))))), ?_⟩
    obtain ⟨xss, xl, hIn, hOut⟩ := hR.items
    have v1 := hV.h1
    have v6 := hV.h6
    have v24 := hV.len
    have v12 := hV.m12
    -- self.rows = copied_rows(rows)
    refine ⟨_, rfl, a, xss, rfl, hIn, by omega, by omega, fun H1 r s1 hT => ?_⟩
    have hD1 : RowsD H1 r gss := hOut H1 r s1 hT
    refine ⟨_, rfl, x, C, dx, [], rfl, s1 _ _ hx, T.cl, T.nRows, (by show 0 < 1000; decide), ?_⟩
    have up : ∀ (H' : Hp) (o : HO), (∀ b o, H b = some o → b ≠ x → H' b = some o) → ∀ b o', H b = some o' → b ≠ x → (upd H' x o) b = some o' := fun H' o k b o' e n => by
      rw [upd_ne n]
      exact k b o' e n
    have tupx : ∀ (H' : Hp) (fs : List (Str × V)) (o : HO), H' x = some (.ins C dx fs) → Tups H' (upd H' x o) := fun H' fs o e => Tups.upd e fun xs z => by cases z
    have rd : ∀ (H' H'' : Hp) (p : Addr), Tups H' H'' → RowsD H' p gss → RowsD H'' p gss := fun H' H'' p t h => by
      obtain ⟨ts, k1, k2, k3⟩ := h.ex
      refine ⟨ts, t _ _ k1, k2, fun i t' gs e1 e2 => ?_⟩
      obtain ⟨qs, j1, j2, j3⟩ := k3 i t' gs e1 e2
      exact ⟨qs, t _ _ j1, j2, fun j q g e3 e4 => t _ _ (j3 j q g e3 e4)⟩
    have dpt : ∀ (H' H'' : Hp) (kvs : List (List Key × V)), Tups H' H'' → DictP H' kvs (plAll 0 gss) → DictP H'' kvs (plAll 0 gss) := fun H' H'' kvs t d => ⟨d.ks, fun i g h n e => let ⟨q, h1, h2⟩ := d.vs i g h n e; ⟨q, h1, t _ _ h2⟩⟩
    rw [put1]
    have k1 := up H1 (.ins C dx (tf1 r)) fun b o e _ => s1 b o e
    have x1 : (upd H1 x (.ins C dx (tf1 r))) x = some (.ins C dx (tf1 r)) := upd_same
    have r1 : RowsD (upd H1 x (.ins C dx (tf1 r))) r gss := rd _ _ r (tupx H1 [] _ (s1 _ _ hx)) hD1
    revert k1 x1 r1
    generalize upd H1 x (.ins C dx (tf1 r)) = J1
    intro k1 x1 r1
    -- self.places = found_places(self.rows)
    refine ⟨_, rfl, x, C, dx, _, _, rfl, x1, T.cl, T.nRows, rfl, r, gss, rfl, r1, fun t ht => Nat.lt_of_lt_of_le (hV.lt t ht) v12, hV.once, by omega, fun H2 p kvs s2 np hp dp => ?_⟩
    refine ⟨_, rfl, x, C, dx, _, rfl, s2 _ _ x1, T.cl, T.nPlaces, (by show 1 < 1000; decide), ?_⟩
    rw [put2]
    have px : p ≠ x := fun c => by
      rw [c, x1] at np
      cases np
    have k2 := up H2 (.ins C dx (tf2 r p)) fun b o e n => s2 _ _ (k1 b o e n)
    have x2 : (upd H2 x (.ins C dx (tf2 r p))) x = some (.ins C dx (tf2 r p)) := upd_same
    have t2 := tupx H2 _ (.ins C dx (tf2 r p)) (s2 _ _ x1)
    have r2 := rd _ _ r t2 (r1.same s2)
    have p2 : (upd H2 x (.ins C dx (tf2 r p))) p = some (.dT kvs) := by
      rw [upd_ne px]
      exact hp
    have d2 := dpt _ _ kvs t2 dp
    revert k2 x2 r2 p2 d2
    clear t2
    generalize upd H2 x (.ins C dx (tf2 r p)) = J2
    intro k2 x2 r2 p2 d2
    -- self.many = count_letters(self.places)
    refine ⟨_, rfl, x, C, dx, _, _, rfl, x2, T.cl, T.nPlaces, rfl, p, kvs, plAll 0 gss, many, rfl, p2, d2, by omega, hV.lt, fun hm => ?_, fun H3 s3 => ?_⟩
    · obtain ⟨n, hn⟩ := hV.hd.snd (many - 1) (by omega)
      exact ⟨_, hn, by show many - 1 + 1 = many; omega⟩
    refine ⟨_, rfl, x, C, dx, _, rfl, s3 _ _ x2, T.cl, T.nMany, (by show 2 < 1000; decide), ?_⟩
    rw [put3]
    have k3 := up H3 (.ins C dx (tf3 r p many)) fun b o e n => s3 _ _ (k2 b o e n)
    have x3 : (upd H3 x (.ins C dx (tf3 r p many))) x = some (.ins C dx (tf3 r p many)) := upd_same
    have t3 := tupx H3 _ (.ins C dx (tf3 r p many)) (s3 _ _ x2)
    have r3 := rd _ _ r t3 (r2.same s3)
    have p3 : (upd H3 x (.ins C dx (tf3 r p many))) p = some (.dT kvs) := by
      rw [upd_ne px]
      exact s3 _ _ p2
    have d3 := dpt _ _ kvs t3 (d2.same s3)
    revert k3 x3 r3 p3 d3
    clear t3
    generalize upd H3 x (.ins C dx (tf3 r p many)) = J3
    intro k3 x3 r3 p3 d3
    -- check_letters(self.places, self.many)
    refine ⟨_, rfl, x, C, dx, _, _, rfl, x3, T.cl, T.nPlaces, rfl, _, rfl, x, C, dx, _, _, rfl, x3, T.cl, T.nMany, rfl, p, kvs, plAll 0 gss, many, S, G, rfl, p3, d3, hV.once, v12, hV.hd, fun H4 s4 => ?_⟩
    -- self.senders, self.getters
    refine ⟨_, rfl, x, C, dx, _, _, rfl, s4 _ _ x3, T.cl, T.nPlaces, rfl, _, rfl, x, C, dx, _, _, rfl, s4 _ _ x3, T.cl, T.nMany, rfl, p, kvs, plAll 0 gss, many, S, rfl, s4 _ _ p3, d3.same s4, hV.once, v12, hV.hd.snd, fun H5 sp s5 hs5 => ?_⟩
    have s45 := Same.trans s4 s5
    refine ⟨_, rfl, x, C, dx, _, rfl, s45 _ _ x3, T.cl, T.nSenders, (by show 3 < 1000; decide), ?_⟩
    rw [put4]
    have k5 := up H5 (.ins C dx (tf4 r p many sp)) fun b o e n => s45 _ _ (k3 b o e n)
    have x5 : (upd H5 x (.ins C dx (tf4 r p many sp))) x = some (.ins C dx (tf4 r p many sp)) := upd_same
    have t5 := tupx H5 _ (.ins C dx (tf4 r p many sp)) (s45 _ _ x3)
    have r5 := rd _ _ r t5 (r3.same s45)
    have p5 : (upd H5 x (.ins C dx (tf4 r p many sp))) p = some (.dT kvs) := by
      rw [upd_ne px]
      exact s45 _ _ p3
    have d5 := dpt _ _ kvs t5 (d3.same s45)
    have sp5 := t5 _ _ hs5
    revert k5 x5 r5 p5 d5 sp5
    clear t5
    generalize upd H5 x (.ins C dx (tf4 r p many sp)) = J5
    intro k5 x5 r5 p5 d5 sp5
    refine ⟨_, rfl, x, C, dx, _, _, rfl, x5, T.cl, T.nPlaces, rfl, _, rfl, x, C, dx, _, _, rfl, x5, T.cl, T.nMany, rfl, p, kvs, plAll 0 gss, many, G, rfl, p5, d5, hV.once, v12, hV.hd.got, fun H6 gp s6 hg6 => ?_⟩
    refine ⟨_, rfl, x, C, dx, _, rfl, s6 _ _ x5, T.cl, T.nGetters, (by show 4 < 1000; decide), ?_⟩
    rw [put5]
    have k6 := up H6 (.ins C dx (tf5 r p many sp gp)) fun b o e n => s6 _ _ (k5 b o e n)
    have x6 : (upd H6 x (.ins C dx (tf5 r p many sp gp))) x = some (.ins C dx (tf5 r p many sp gp)) := upd_same
    have t6 := tupx H6 _ (.ins C dx (tf5 r p many sp gp)) (s6 _ _ x5)
    have r6 := rd _ _ r t6 (r5.same s6)
    have p6 : (upd H6 x (.ins C dx (tf5 r p many sp gp))) p = some (.dT kvs) := by
      rw [upd_ne px]
      exact s6 _ _ p5
    have d6 := dpt _ _ kvs t6 (d5.same s6)
    have sp6 := t6 _ _ (s6 _ _ sp5)
    have gp6 := t6 _ _ hg6
    revert k6 x6 r6 p6 d6 sp6 gp6
    clear t6
    generalize upd H6 x (.ins C dx (tf5 r p many sp gp)) = J6
    intro k6 x6 r6 p6 d6 sp6 gp6
    -- self.clocks = found_clocks(self.rows)
    refine ⟨_, rfl, x, C, dx, _, _, rfl, x6, T.cl, T.nRows, rfl, r, gss, many, S, G, rfl, hSl, r6, hV, fun H7 c ckv dn s7 nc hc dc nd hdn => ?_⟩
    refine ⟨_, rfl, x, C, dx, _, rfl, s7 _ _ x6, T.cl, T.nClocks, (by show 5 < 1000; decide), ?_⟩
    rw [put6]
    have cx : c ≠ x := fun z => by
      rw [z, x6] at nc
      cases nc
    have k7 := up H7 (.ins C dx (tf r p many sp gp c)) fun b o e n => s7 _ _ (k6 b o e n)
    have x7 : (upd H7 x (.ins C dx (tf r p many sp gp c))) x = some (.ins C dx (tf r p many sp gp c)) := upd_same
    have t7 := tupx H7 _ (.ins C dx (tf r p many sp gp c)) (s7 _ _ x6)
    have r7 := rd _ _ r t7 (r6.same s7)
    have p7 : (upd H7 x (.ins C dx (tf r p many sp gp c))) p = some (.dT kvs) := by
      rw [upd_ne px]
      exact s7 _ _ p6
    have c7 : (upd H7 x (.ins C dx (tf r p many sp gp c))) c = some (.dT ckv) := by
      rw [upd_ne cx]
      exact hc
    have d7 := dpt _ _ kvs t7 (d6.same s7)
    have dc7 := dc.tups t7
    have sp7 := t7 _ _ (s7 _ _ sp6)
    have gp7 := t7 _ _ (s7 _ _ gp6)
    revert k7 x7 r7 p7 d7 sp7 gp7 c7 dc7
    clear t7
    generalize upd H7 x (.ins C dx (tf r p many sp gp c)) = J7
    intro k7 x7 r7 p7 c7 d7 dc7 sp7 gp7
    -- if len(self.clocks) < len(self.places): raise
    have el : ckv.length = kvs.length := by
      rw [dc7.len, d7.len]
      have e1 : ((plAll 0 gss).map (·.1)).length = (plAll 0 gss).length := List.length_map ..
      rw [← e1]
      exact Nat.le_antisymm (nd_len nd fun g hg => (hdn g).mp hg) (nd_len hV.once fun g hg => (hdn g).mpr hg)
    refine ⟨_, rfl, x, C, dx, _, _, rfl, x7, T.cl, T.nClocks, rfl, c, ckv, rfl, c7, _, rfl, x, C, dx, _, _, rfl, x7, T.cl, T.nPlaces, rfl, p, kvs, rfl, p7, _, _, rfl, rfl, _, rfl, ?_⟩
    rw [decide_eq_false (by rw [el]; omega)]
    have hp0 : H p = none := by
      cases e : H p with
      | none => rfl
      | some o =>
        rw [k1 p o e px] at np
        cases np
    have hc0 : H c = none := by
      cases e : H c with
      | none => rfl
      | some o =>
        rw [k6 c o e cx] at nc
        cases nc
    exact q J7 k7 ⟨dx, r, p, sp, gp, c, kvs, ckv, dn, x7, r7, p7, d7, sp7, gp7, c7, dc7, nd, hdn⟩ ⟨dx, r, p, many, sp, gp, c, x7, hp0, hc0⟩
end
end Up

namespace Up
open PySem PySem.Spec PyProof.Rows L2
theorem DictC.put {Ck : Dg → List Int} {H : Hp} {kvs : List (List Key × V)} {dn : List Dg} (d : DictC Ck H kvs dn) (nd : dn.Nodup) {g : Dg} {q : Addr} (hq : H q = some (.tup (iL (Ck g)))) :
    ∃ dn', DictC Ck H (putK kvs g.key (.ref q)) dn' ∧ dn'.Nodup ∧ ∀ x, x ∈ dn' ↔ x ∈ dn ∨ x = g := by
  by_cases hm : g ∈ dn
  · refine ⟨dn, ⟨?_, fun i x e => ?_⟩, nd, fun x => ⟨.inl, fun c => c.elim id fun c => c ▸ hm⟩⟩
    · obtain ⟨q', k1, _⟩ := d.get nd hm
      unfold putK
      rw [valV_any, k1]
      show (kvs.map fun kv => if kv.1 = g.key then (kv.1, V.ref q) else kv).map (·.1) = _
      rw [List.map_map, ← d.ks]
      refine List.map_congr_left fun p _ => ?_
      show (if p.1 = g.key then (p.1, V.ref q) else p).1 = p.1
      split <;> rfl
    · obtain ⟨q', k1, _⟩ := d.get nd hm
      obtain ⟨q2, e1, e2⟩ := d.vs i x e
      unfold putK
      rw [valV_any, k1]
      show ∃ q0, (kvs.map fun kv => if kv.1 = g.key then (kv.1, V.ref q) else kv)[i]? = _ ∧ _
      rw [List.getElem?_map, e1]
      by_cases c : x.key = g.key
      · refine ⟨q, ?_, ?_⟩
        · show some (if x.key = g.key then (x.key, V.ref q) else (x.key, V.ref q2)) = _
          rw [if_pos c]
        · rw [Dg.key_inj c]
          exact hq
      · refine ⟨q2, ?_, e2⟩
        show some (if x.key = g.key then (x.key, V.ref q) else (x.key, V.ref q2)) = _
        rw [if_neg c]
  · refine ⟨dn ++ [g], ?_, ?_, fun x => by simp⟩
    · rw [putK_new _ (d.none hm)]
      exact d.snoc (fun _ _ e => e) hq
    · refine List.nodup_append.mpr ⟨nd, List.nodup_cons.mpr ⟨List.not_mem_nil, List.nodup_nil⟩, fun a ha b hb => ?_⟩
      rcases List.mem_cons.mp hb with e | e
      · subst e
        exact fun c => hm (c ▸ ha)
      · cases e
/-! ### the passes come to rest only when all doings have their clocks -/
theorem plRow_mem {h : Nat} {g : Dg} {n : Nat} : ∀ {gs : List Dg} {k : Nat}, gs[n]? = some g → (g, h, k + n) ∈ plRow h k gs
  | [], k, e => by simp at e
  | x :: r, k, e => by
    cases n with
    | zero =>
      have e2 : x = g := Option.some.inj e
      subst e2
      exact List.mem_cons_self ..
    | succ n =>
      have h2 := plRow_mem (h := h) (k := k + 1) (gs := r) (n := n) e
      rw [show k + 1 + n = k + (n + 1) by omega] at h2
      exact List.mem_cons_of_mem _ h2
theorem plAll_mem {gs : List Dg} {i : Nat} : ∀ {gss : List (List Dg)} {h : Nat}, gss[i]? = some gs → ∀ t ∈ plRow (h + i) 0 gs, t ∈ plAll h gss
  | [], h, e, t, ht => by simp at e
  | r :: rs, h, e, t, ht => by
    cases i with
    | zero =>
      have e2 : r = gs := Option.some.inj e
      subst e2
      exact List.mem_append_left _ ht
    | succ i =>
      refine List.mem_append_right _ (plAll_mem (h := h + 1) (gss := rs) e t ?_)
      rw [show h + 1 + i = h + (i + 1) by omega]
      exact ht
theorem plRow_of {h : Nat} {t : Pl} : ∀ {gs : List Dg} {k : Nat}, t ∈ plRow h k gs → ∃ n : Nat, gs[n]? = some t.1
  | [], k, e => by cases e
  | x :: r, k, e => by
    rcases List.mem_cons.mp e with c | c
    · subst c
      exact ⟨0, rfl⟩
    · obtain ⟨n, hn⟩ := plRow_of c
      exact ⟨n + 1, hn⟩
theorem plAll_of {t : Pl} : ∀ {gss : List (List Dg)} {h : Nat}, t ∈ plAll h gss → ∃ (i n : Nat) (gs : List Dg), gss[i]? = some gs ∧ gs[n]? = some t.1
  | [], h, e => by cases e
  | r :: rs, h, e => by
    rcases List.mem_append.mp e with c | c
    · obtain ⟨n, hn⟩ := plRow_of c
      exact ⟨0, n, r, rfl, hn⟩
    · obtain ⟨i, n, gs, h1, h2⟩ := plAll_of c
      exact ⟨i + 1, n, gs, h1, h2⟩
theorem in_all {gss : List (List Dg)} {i n : Nat} {gs : List Dg} {g : Dg} (e : gss[i]? = some gs) (eg : gs[n]? = some g) : g ∈ (plAll 0 gss).map (·.1) := by
  have h1 := plRow_mem (h := 0 + i) (k := 0) eg
  exact List.mem_map_of_mem (f := (·.1)) (plAll_mem e _ h1)
theorem reach_mem {dn : List Dg} {g : Dg} : ∀ {gs : List Dg} {n : Nat}, gs[n]? = some g → (∀ i x, i ≤ n → gs[i]? = some x → readyG dn x = true) → g ∈ reach dn gs
  | [], n, e, _ => by simp at e
  | x :: r, 0, e, h => by
    have e2 : x = g := Option.some.inj e
    subst e2
    unfold reach
    rw [List.takeWhile_cons, h 0 x (Nat.le_refl _) rfl]
    exact List.mem_cons_self ..
  | x :: r, n + 1, e, h => by
    unfold reach
    rw [List.takeWhile_cons, h 0 x (Nat.zero_le _) rfl]
    exact List.mem_cons_of_mem _ (reach_mem (dn := dn) (gs := r) (n := n) e fun i y hi ey => h (i + 1) y (by omega) ey)
theorem reach_sub {dn dn' : List Dg} (h : ∀ x ∈ dn, x ∈ dn') : ∀ {gs : List Dg}, ∀ x ∈ reach dn gs, x ∈ reach dn' gs
  | [], x, hx => by cases hx
  | g :: r, x, hx => by
    unfold reach at hx ⊢
    rw [List.takeWhile_cons] at hx ⊢
    cases c : readyG dn g with
    | false =>
      rw [c] at hx
      cases hx
    | true =>
      rw [c] at hx
      have c2 : readyG dn' g = true := by
        unfold readyG at c ⊢
        rcases Bool.or_eq_true_iff.mp c with z | z
        · rw [z]
          rfl
        · rw [Bool.or_eq_true_iff]
          exact .inr (decide_eq_true (h _ (of_decide_eq_true z)))
      rw [c2]
      rcases List.mem_cons.mp hx with z | z
      · exact List.mem_cons.mpr (.inl z)
      · exact List.mem_cons_of_mem _ (reach_sub h (gs := r) x z)
theorem reach_in {dn : List Dg} {gs : List Dg} : ∀ x ∈ reach dn gs, x ∈ gs := fun x hx => (List.takeWhile_sublist (readyG dn)).subset hx
theorem Valid.rest {gss : List (List Dg)} {many : Nat} {S G : Nat → Nat} {Ck : Dg → List Int} (v : Valid gss many S G Ck) {dn : List Dg} (fx : ∀ (i : Nat) (gs : List Dg), gss[i]? = some gs → ∀ x ∈ reach dn gs, x ∈ dn) : ∀ g ∈ (plAll 0 gss).map (·.1), g ∈ dn := by
  obtain ⟨rk, r1, r2⟩ := v.rk
  have up : ∀ (h : Nat) (gs : List Dg), gss[h]? = some gs → ∀ (d n : Nat) (g g' : Dg), gs[n]? = some g → gs[n + d + 1]? = some g' → rk g < rk g' := by
    intro h gs eg d
    induction d with
    | zero => exact fun n g g' e1 e2 => r1 h gs eg n g g' e1 e2
    | succ d ih =>
      intro n g g' e1 e2
      have hl := (List.getElem?_eq_some_iff.mp e2).1
      have e3 : gs[n + d + 1]? = some gs[n + d + 1] := List.getElem?_eq_getElem (by omega)
      exact Nat.lt_trans (ih n g _ e1 e3) (r1 h gs eg (n + d + 1) _ g' e3 e2)
  have all : ∀ (k : Nat) (g : Dg), rk g ≤ k → g ∈ (plAll 0 gss).map (·.1) → g ∈ dn := by
    intro k
    induction k with
    | zero =>
      intro g hk hg
      obtain ⟨t, ht, rfl⟩ := List.mem_map.mp hg
      obtain ⟨i, n, gs, e1, e2⟩ := plAll_of ht
      refine fx i gs e1 _ (reach_mem e2 fun j x hj ex => ?_)
      have ej : j = n := by
        rcases Nat.lt_or_ge j n with c | c
        · have := up i gs e1 (n - j - 1) j x t.1 ex (by rw [show j + (n - j - 1) + 1 = n by omega]; exact e2)
          omega
        · omega
      subst ej
      rw [e2] at ex
      have ex2 : t.1 = x := Option.some.inj ex
      rw [← ex2]
      unfold readyG
      cases hs : t.1.s with
      | true => rfl
      | false =>
        have hl := v.lt t ht
        have := r2 t.1.l hl
        have e3 : t.1 = ⟨false, t.1.l⟩ := by rw [← hs]
        rw [← e3] at this
        omega
    | succ k ih =>
      intro g hk hg
      obtain ⟨t, ht, rfl⟩ := List.mem_map.mp hg
      obtain ⟨i, n, gs, e1, e2⟩ := plAll_of ht
      refine fx i gs e1 _ (reach_mem e2 fun j x hj ex => ?_)
      have hx : rk x ≤ k + 1 := by
        rcases Nat.lt_or_ge j n with c | c
        · have := up i gs e1 (n - j - 1) j x t.1 ex (by rw [show j + (n - j - 1) + 1 = n by omega]; exact e2)
          omega
        · have ej : j = n := by omega
          subst ej
          rw [e2] at ex
          rw [← (Option.some.inj ex : t.1 = x)]
          exact hk
      unfold readyG
      cases hs : x.s with
      | true => rfl
      | false =>
        have hx2 := in_all e1 ex
        obtain ⟨t2, ht2, et2⟩ := List.mem_map.mp hx2
        have hl := v.lt t2 ht2
        rw [et2] at hl
        have h3 := r2 x.l hl
        have e3 : x = ⟨false, x.l⟩ := by rw [← hs]
        rw [← e3] at h3
        obtain ⟨n2, m2⟩ := v.hd.snd x.l hl
        have h4 := ih ⟨true, x.l⟩ (by omega) (List.mem_map_of_mem (f := (·.1)) m2)
        rw [decide_eq_true h4]
        rfl
  exact fun g hg => all (rk g) g (Nat.le_refl _) hg
abbrev s_found_clocks : Stmt := (topS 27)
theorem sc_found_clocks : FnScope ["rows", "clocks", "before", "hand", "row", "found", "doing"] ["rows"] (defScope s_found_clocks) := ⟨rfl, rfl, rfl, by decide +kernel, rfl, by decide +kernel, by decide +kernel⟩
structure TxtF (K : PySem.W.Frag) (mg : Str → Option Value) (fR : Addr) : Prop extends TxtZ mg where
  g_row_clocks : mg "row_clocks" = some (.ref fR)
theorem nd_more {α : Type} [DecidableEq α] {a b : List α} (ha : a.Nodup) (hb : b.Nodup) (h : ∀ x ∈ a, x ∈ b) (l : b.length ≤ a.length) : ∀ x ∈ b, x ∈ a := fun x hx => by
  by_cases c : x ∈ a
  · exact c
  · have n := nd_len (a := x :: a) (b := b) (List.nodup_cons.mpr ⟨c, ha⟩) fun y hy => by
      rcases List.mem_cons.mp hy with e | e
      · exact e ▸ hx
      · exact h y e
    rw [List.length_cons] at n
    omega
theorem plRow_map (h : Nat) : ∀ (gs : List Dg) (n : Nat), (plRow h n gs).map (·.1) = gs
  | [], _ => rfl
  | g :: r, n => by
    show g :: (plRow h (n + 1) r).map (·.1) = _
    rw [plRow_map h r (n + 1)]
theorem Once.row {gss : List (List Dg)} (o : Once gss) {i : Nat} {gs : List Dg} (e : gss[i]? = some gs) : gs.Nodup := by
  obtain ⟨r, h⟩ := plTo_pre (j := gs.length) e
  unfold Once at o
  rw [h, List.map_append] at o
  have o2 := (List.nodup_append.mp o).1
  unfold plTo at o2
  rw [List.map_append, List.take_length, plRow_map] at o2
  exact (List.nodup_append.mp o2).2.1
/-- all rows -/
def Sl0 (_ : List (List Dg)) : Prop := True
section
variable {P : Program} {w : World} {K : PySem.W.Frag} {mg : Str → Option Value} {base : Heap}
theorem ok_clocks {f fR : Addr} {fd fdR : FuncData} {Ck : Dg → List Int} (F : Fun K "found_clocks" "found_clocks" s_found_clocks f fd) (T : TxtF K mg fR) (F_row_clocks : Fun K "row_clocks" "row_clocks" s_row_clocks fR fdR) (b_row_clocks : Binds K fdR ["hand", "row", "hands", "clocks"] []) :
    FnOk P w K mg base CX0 2 f fd ["rows"] (spClocks Sl0 Ck) := by
  have G_row_clocks : FnOk P w K mg base CX0 1 fR fdR ["hand", "row", "hands", "clocks"] (spRowC Ck) := ok_rowc F_row_clocks T.toTxtZ
  refine F.ok sc_found_clocks (fun vs H Q E h => ?_) (fun cdv A outer s H vs Q E hr h => ?_)
  · obtain ⟨p, gss, _, _, _, rfl, _⟩ := h
    rfl
  · obtain ⟨p, gss, many, S, G, rfl, _, hR, hV, q⟩ := h
    have hu := hu_of hr
    have hr_row_clocks : Room 1 _ := hr
    obtain ⟨ts, hp, hts, hrow⟩ := hR.ex
    have v6' := hV.h6
    have v24 := hV.len
    refine ⟨_, (pss_cons (ps_set (i := 1) sc_found_clocks.nd rfl (Or.inl rfl) pe_dnewT) (pss_cons (ps_set (i := 2) sc_found_clocks.nd rfl (Or.inl rfl) (pe_un un_neg pe_int)) (pss_cons (ps_while PassesOwn.never (pt_cmpR op_lt (pv 2) (pe_callB call_len_dT (by rfl) T.len PySem.boot_len (pa_cons (pv 1) pa_nil)) (nomark _)) (pss_cons (ps_set (i := 2) sc_found_clocks.nd rfl (Or.inl rfl) (pe_callB call_len_dT (by rfl) T.len PySem.boot_len (pa_cons (pv 1) pa_nil))) (pss_one (ps_for PassesOwn.never rfl (pi_enT (by rfl) T.enumerate (pa_cons (pv 0) pa_nil)) (pg_tup (by rfl) (pgs_cons (pg_name (i := 3) sc_found_clocks.nd rfl (Or.inl rfl)) (pgs_cons (pg_name (i := 4) sc_found_clocks.nd rfl (Or.inl rfl)) pgs_nil))) (pss_cons (ps_set (i := 5) sc_found_clocks.nd rfl (Or.inl rfl) (pe_call G_row_clocks hr_row_clocks (by rfl) T.g_row_clocks F_row_clocks.kp b_row_clocks .nil pass0 (pa_cons (pv 3) (pa_cons (pv 4) (pa_cons (pe_callB call_len_seq (by rfl) T.len PySem.boot_len (pa_cons (pv 0) pa_nil)) (pa_cons (pv 1) pa_nil)))))) (pss_one (ps_lock (ps_for PassesOwn.never rfl (pi_keys (pv 5)) (pg_name (i := 6) sc_found_clocks.nd rfl (Or.inl rfl)) (pss_one (ps_dput hu (pv 1) (pv 6) (pe_dget hu (pv 5) (pv 6) (fun _ _ => rfl)) rfl)))))))))) (pss_one (ps_ret (pv 1)))))), ?_⟩
    intro d nD
    have s0 : Same H (upd H d (.dT [])) := same_new nD
    let Inv0 : Int → Option V → Option V → Option V → Option V → List (List Key × V) → List Dg → L2.St → Hp → Prop := fun b v3 v4 v5 v6 kvs dn σ H2 => σ = [some (.ref p), some (.ref d), some (.int b), v3, v4, v5, v6] ∧ Same H H2 ∧ H2 d = some (.dT kvs) ∧ DictC Ck H2 kvs dn ∧ dn.Nodup ∧ (∀ x ∈ dn, x ∈ ((plAll 0 gss).map (·.1) : List Dg))
    refine ⟨_, rfl, fun m σ H2 => ∃ (b : Int) (v3 v4 v5 v6 : Option V) (kvs : List (List Key × V)) (dn : List Dg), Inv0 b v3 v4 v5 v6 kvs dn σ H2 ∧ m = 2 * (24 - dn.length) + (if b < (dn.length : Int) then 1 else 0) ∧
      (b < (dn.length : Int) ∨ ∀ (i : Nat) (gs : List Dg), gss[i]? = some gs → ∀ x ∈ reach dn gs, x ∈ dn), ⟨_, -1, none, none, none, none, [], [], ⟨rfl, s0, upd_same, ⟨rfl, fun i g e => by cases e⟩, List.nodup_nil, (fun x hx => by cases hx)⟩, rfl, .inl (by decide)⟩, ?_⟩
    rintro m σ H2 ⟨b, v3, v4, v5, v6, kvs, dn, ⟨rfl, sm, hd, dc, nd, sub⟩, em, fx⟩
    have d24 : dn.length ≤ 24 := by
      have h1 := nd_len nd sub
      rw [List.length_map] at h1
      omega
    have el : (kvs.length : Int) = (dn.length : Int) := by rw [dc.len]
    refine ⟨_, rfl, _, rfl, d, kvs, rfl, hd, _, _, rfl, rfl, _, rfl, ?_⟩
    rw [el]
    by_cases c : b < (dn.length : Int)
    · rw [decide_eq_true c]
      rw [if_pos c] at em
      refine ⟨fun σ' H' => ∃ m', m' < m ∧ ∃ (b : Int) (v3 v4 v5 v6 : Option V) (kvs : List (List Key × V)) (dn : List Dg), Inv0 b v3 v4 v5 v6 kvs dn σ' H' ∧ m' = 2 * (24 - dn.length) + (if b < (dn.length : Int) then 1 else 0) ∧
        (b < (dn.length : Int) ∨ ∀ (i : Nat) (gs : List Dg), gss[i]? = some gs → ∀ x ∈ reach dn gs, x ∈ dn), fun σ' H' h => h, ?_⟩
      -- before = len(clocks)
      refine ⟨_, rfl, d, kvs, rfl, hd, ?_⟩
      -- for hand, row in enumerate(rows)
      refine ⟨_, rfl, p, _, rfl, .inl (.inl (sm _ _ hp)), for_it walk_enT (fun i σ H3 => ∃ (v3 v4 v5 v6 : Option V) (kvs1 : List (List Key × V)) (dn1 : List Dg), Inv0 (dn.length : Int) v3 v4 v5 v6 kvs1 dn1 σ H3 ∧ (∀ x ∈ dn, x ∈ dn1) ∧
          ∀ (k : Nat) (gs : List Dg), k < i → gss[k]? = some gs → ∀ x ∈ reach dn gs, x ∈ dn1) ⟨_, _, _, _, kvs, dn, ⟨by rw [← el]; rfl, sm, hd, dc, nd, sub⟩, fun x hx => hx, fun k gs hk => by omega⟩ (fun i σ H3 _ ⟨_, _, _, _, _, _, ⟨_, sm3, _⟩, _⟩ => .inl (.inl (sm3 _ _ hp))) ?_ ?_⟩
      · rintro i x σ H3 H4 hi ⟨v3, v4, v5, v6, kvs1, dn1, ⟨rfl, sm3, hd3, dc3, nd3, sub3⟩, inc3, don3⟩ ⟨U, x1, x2, rfl, nU, rfl, e1, e2⟩
        obtain rfl : x1 = .int (i : Int) := (Option.some.inj e1).symm
        obtain ⟨t, et, rfl⟩ := map_get e2
        obtain ⟨gs, egs⟩ := get_of hts et
        obtain ⟨qs, ht, hql, hqs⟩ := hrow i t gs et egs
        have sU : Same H3 (upd H3 U (.tup [.int (i : Int), .ref t])) := same_new nU
        refine ⟨U, _, rfl, .inl (.inl upd_same), rfl, _, _, rfl, _, _, rfl, rfl, ?_⟩
        have il : i < gss.length := (List.getElem?_eq_some_iff.mp egs).1
        have gnd : gs.Nodup := hV.once.row egs
        have gl : gs.length ≤ 24 := by
          have h1 := nd_len gnd (b := (plAll 0 gss).map (·.1)) fun y hy => by
            obtain ⟨n, ln, en⟩ := List.getElem_of_mem hy
            exact in_all egs (List.getElem?_eq_some_iff.mpr ⟨ln, en⟩)
          rw [List.length_map] at h1
          omega
        have sm4 := Same.trans sm3 sU
        -- found = row_clocks(hand, row, len(rows), clocks)
        refine ⟨_, rfl, _, rfl, _, rfl, p, _, rfl, .inr (.inl (.inl (sm4 _ _ hp))), _, rfl, ?_⟩
        refine ⟨i, t, gs, gss.length, d, kvs1, dn1, ?_, ⟨qs, sm4 _ _ ht, hql, fun j q g a b => sm4 _ _ (hqs j q g a b)⟩, sU _ _ hd3, dc3.tups (Same.tups sU), nd3, il, v6', gnd, by omega, hV.ck i gs egs, hV.ckl, fun H5 fd5 more s5 nf hf df => ?_⟩
        · rw [List.length_map, hts]
          rfl
        have hd5 := s5 _ _ (sU _ _ hd3)
        have dc5 := (dc3.tups (Same.tups sU)).tups (Same.tups s5)
        have sm5 : Same H H5 := Same.trans sm4 s5
        have nHf : H fd5 = none := sm4.free nf
        have nfd : d ≠ fd5 := fun z => by
          rw [← z, sU _ _ hd3] at nf
          cases nf
        have rnd : (reach dn1 gs).Nodup := List.Nodup.sublist (List.takeWhile_sublist (readyG dn1)) gnd
        -- for doing in found, found locked
        refine ⟨fd5, _, hf, True.intro, fun od => ?_⟩
        have tpl : Tups H5 (upd H5 fd5 (.frz od (.dT more))) := Tups.upd hf fun xs z => by cases z
        refine ⟨_, rfl, fd5, od, rfl, .inr ⟨more, upd_same, for_it walk_keysT (fun j σ H6 => ∃ (v6 : Option V) (kvs2 : List (List Key × V)) (dn2 : List Dg), σ = [some (.ref p), some (.ref d), some (.int (dn.length : Int)), some (.int (i : Int)), some (.ref t), some (.ref fd5), v6] ∧ H6 fd5 = some (.frz od (.dT more)) ∧ H6 d = some (.dT kvs2) ∧
            DictC Ck H6 more (reach dn1 gs) ∧ DictC Ck H6 kvs2 dn2 ∧ dn2.Nodup ∧ (∀ x, x ∈ dn2 ↔ x ∈ dn1 ∨ x ∈ (reach dn1 gs).take j) ∧ ∀ b o, H b = some o → H6 b = some o)
          ⟨_, kvs1, dn1, rfl, upd_same, by rw [upd_ne nfd]; exact hd5, df.tups tpl, dc5.tups tpl, nd3, fun x => by rw [List.take_zero]; simp, fun b o e => by rw [upd_ne (ne_of_none e nHf)]; exact sm5 _ _ e⟩ (fun j σ H6 _ ⟨_, _, _, _, hz, _⟩ => hz) ?_ ?_⟩⟩
        · rintro j x σ Hz H6 hj ⟨v6, kvs2, dn2, rfl, hf6, hd6, df6, dc6, nd6, mem6, k6⟩ ⟨rfl, k, v, q0, ek, rfl, hq0⟩
          have lj : j < (reach dn1 gs).length := by rw [← df6.len]; exact hj
          have eg : (reach dn1 gs)[j]? = some (reach dn1 gs)[j] := List.getElem?_eq_getElem lj
          revert eg
          generalize (reach dn1 gs)[j] = g
          intro eg
          obtain ⟨q1, ea, hq1⟩ := df6.vs j g eg
          rw [ek] at ea
          obtain ⟨rfl, rfl⟩ : k = g.key ∧ v = .ref q1 := ⟨congrArg Prod.fst (Option.some.inj ea), congrArg Prod.snd (Option.some.inj ea)⟩
          have hv : valV more g.key = some (.ref q1) := val_some (by rw [df6.ks]; exact List.Pairwise.map _ (fun a b c e => c (Dg.key_inj e)) rnd) ek
          have l2 : dn2.length ≤ 1000 := by
            have h1 := nd_len nd6 (b := (plAll 0 gss).map (·.1)) fun y hy => by
              rcases (mem6 y).mp hy with c | c
              · exact sub3 y c
              · obtain ⟨n, ln, en⟩ := List.getElem_of_mem (reach_in y (List.mem_of_mem_take c))
                exact in_all egs (List.getElem?_eq_some_iff.mpr ⟨ln, en⟩)
            rw [List.length_map] at h1
            omega
          refine ⟨_, rfl, _, rfl, fd5, .ref q1, rfl, .inr ⟨more, g.key, q0, .inr ⟨od, hf6⟩, rfl, hq0, hv.symm⟩, _, rfl, _, rfl, d, _, rfl, DPut.t (k := g.key) hd6 hq0 (by rw [dc6.len]; exact small1000 (by omega)), ?_⟩
          obtain ⟨dn3, d3, nd3', m3⟩ := dc6.put nd6 hq1
          have tp : Tups H6 (upd H6 d (.dT (putK kvs2 g.key (.ref q1)))) := Tups.upd hd6 fun xs z => by cases z
          refine ⟨_, _, dn3, rfl, by rw [upd_ne nfd.symm]; exact hf6, upd_same, df6.tups tp, d3.tups tp, nd3', fun x => ?_, fun b o e => by rw [upd_ne (ne_of_none e nD)]; exact k6 b o e⟩
          rw [m3, mem6, take_snoc eg, List.mem_append]
          constructor
          · rintro ((c | c) | c)
            · exact .inl c
            · exact .inr (.inl c)
            · exact .inr (.inr (by rw [c]; exact List.mem_cons_self ..))
          · rintro (c | c | c)
            · exact .inl (.inl c)
            · exact .inl (.inr c)
            · rcases List.mem_cons.mp c with z | z
              · exact .inr z
              · cases z
        · rintro σ H6 ⟨v6, kvs2, dn2, rfl, hf6, hd6, df6, dc6, nd6, mem6, k6⟩
          rw [df6.len, List.take_length] at mem6
          have tp : Tups H6 (upd H6 fd5 (.dT more)) := Tups.upd hf6 fun xs z => by cases z
          refine ⟨hf6, _, _, _, _, kvs2, dn2, ⟨rfl, fun b o e => by rw [upd_ne (ne_of_none e nHf)]; exact k6 b o e, by rw [upd_ne nfd]; exact hd6, dc6.tups tp, nd6, fun z hz => ?_⟩, fun z hz => (mem6 z).mpr (.inl (inc3 z hz)), fun k gs' hk ek z hz => ?_⟩
          · rcases (mem6 z).mp hz with c | c
            · exact sub3 z c
            · obtain ⟨n, ln, en⟩ := List.getElem_of_mem (reach_in z c)
              exact in_all egs (List.getElem?_eq_some_iff.mpr ⟨ln, en⟩)
          · by_cases ci : k < i
            · exact (mem6 z).mpr (.inl (don3 k gs' ci ek z hz))
            · have e3 : k = i := by omega
              subst e3
              rw [egs] at ek
              cases ek
              exact (mem6 z).mpr (.inr (reach_sub inc3 z hz))
      · rintro σ H3 ⟨v3, v4, v5, v6, kvs1, dn1, ⟨rfl, sm3, hd3, dc3, nd3, sub3⟩, inc3, don3⟩
        have l0 := nd_len nd inc3
        have l1 := nd_len nd3 sub3
        rw [List.length_map] at l1 don3
        rw [hts] at don3
        by_cases cl : (dn.length : Int) < (dn1.length : Int)
        · refine ⟨_, ?_, (dn.length : Int), v3, v4, v5, v6, kvs1, dn1, ⟨rfl, sm3, hd3, dc3, nd3, sub3⟩, rfl, .inl cl⟩
          rw [if_pos cl, em]
          omega
        · have back := nd_more nd nd3 inc3 (by omega)
          refine ⟨_, ?_, (dn.length : Int), v3, v4, v5, v6, kvs1, dn1, ⟨rfl, sm3, hd3, dc3, nd3, sub3⟩, rfl, .inr fun i gs e x hx => ?_⟩
          · rw [if_neg cl, em]
            omega
          · exact don3 i gs ((List.getElem?_eq_some_iff.mp e).1) e x (reach_sub back x hx)
    · rw [decide_eq_false c]
      refine ⟨_, rfl, q H2 d kvs dn sm nD hd dc nd fun g => ⟨sub g, fun hg => hV.rest (fx.resolve_left c) g hg⟩⟩
end
end Up

set_option Elab.async false
set_option linter.all false
set_option maxRecDepth 100000
set_option maxHeartbeats 4000000
/-! an own class's == against anything, the other way round, and != -/
namespace Up
open PySem PySem.Spec PyProof.Rows L2 PySem.SeqAt
section
variable {prog : Program} {w : World} {A : Around} {E : Value → Shared → Prop} {K : PySem.W.Frag}
/-- a text and an int stand as values -/
def Form (T : String) (u : Value) : Prop := (T = "str" → ∃ z t, u = .str z t) ∧ (T = "int" → ∃ i t, u = .int i t)
/-- how a builtin type's == declines an instance of the class at C -/
structure Decl (K : PySem.W.Frag) (C : Addr) (T : String) : Prop where
  slot : ∃ (id : String) (B : Builtin), Slot T "__eq__" id ∧ entryFor table id = some B ∧ (∀ u v, argsOk id ⟨[u, v], []⟩) ∧
    ∀ {prog : Program} {w : World} {A : Around} {E : Value → Shared → Prop} {Q : PySem.Fin → Shared → Prop} {s : Shared} {u : Value} {a : Addr} {ox : Obj} {od : Option Obj}, K.In s.heap → PySem.W.InstAt s.heap a ox C od → (∀ z, ox.data ≠ .prim z) → s.TypeIs u T → Form T u → Q (.done (.ret .notImplemented)) s →
      wpAny (model prog w) A (B ⟨[u, .ref a], []⟩) Q E s
  sub : PySem.W.subIn K (.ref C) (.type T) = some false
theorem notInst {M : Model} {h : Heap} {a C : Addr} {ox : Obj} {od : Option Obj} {T : String} (X : K.In h) (J : PySem.W.InstAt h a ox C od) (e : PySem.W.subIn K (.ref C) (.type T) = some false) : PySem.W.Looks M h (isInstance (.ref a) (.type T)) false :=
  J.type.andThen (PySem.W.looks_subIn X e)
theorem decl_list {C : Addr} (e : PySem.W.subIn K (.ref C) (.type "list") = some false) : Decl K C "list" := by
  refine ⟨⟨_, _, F.slot_list_eq, F.entry_list_eq, fun u v => F.args_list_eq_2 u v, ?_⟩, e⟩
  intro prog w A E Q s u a ox od X J np hT hF hq
  have L := PySem.W.looks_subIn (M := model prog w) X e
  obtain ⟨ho, hc, _⟩ := J
  obtain ⟨cls, dict, data, slots⟩ := ox
  simp only at hc np
  subst hc
  obtain ⟨hp, g, d, tk, os⟩ := s
  repeat (first | exact hq | with_reducible refine wpAny_loadPart_at ho ?_ | (with_reducible refine L.at ?_) | wp_step)
theorem decl_tuple {C : Addr} (e : PySem.W.subIn K (.ref C) (.type "tuple") = some false) : Decl K C "tuple" := by
  refine ⟨⟨_, _, F.slot_tuple_eq, F.entry_tuple_eq, fun u v => F.args_tuple_eq_2 u v, ?_⟩, e⟩
  intro prog w A E Q s u a ox od X J np hT hF hq
  have L := PySem.W.looks_subIn (M := model prog w) X e
  obtain ⟨ho, hc, _⟩ := J
  obtain ⟨cls, dict, data, slots⟩ := ox
  simp only at hc np
  subst hc
  obtain ⟨hp, g, d, tk, os⟩ := s
  repeat (first | exact hq | with_reducible refine wpAny_loadPart_at ho ?_ | (with_reducible refine L.at ?_) | wp_step)
theorem decl_dict {C : Addr} (e : PySem.W.subIn K (.ref C) (.type "dict") = some false) : Decl K C "dict" := by
  refine ⟨⟨_, _, F.slot_dict_eq, F.entry_dict_eq, fun u v => F.args_dict_eq_2 u v, ?_⟩, e⟩
  intro prog w A E Q s u a ox od X J np hT hF hq
  have L := PySem.W.looks_subIn (M := model prog w) X e
  obtain ⟨ho, hc, _⟩ := J
  obtain ⟨cls, dict, data, slots⟩ := ox
  simp only at hc np
  subst hc
  obtain ⟨hp, g, d, tk, os⟩ := s
  repeat (first | exact hq | with_reducible refine wpAny_loadPart_at ho ?_ | (with_reducible refine L.at ?_) | wp_step)
theorem decl_str {C : Addr} (e : PySem.W.subIn K (.ref C) (.type "str") = some false) : Decl K C "str" := by
  refine ⟨⟨_, _, F.slot_str_eq, F.entry_str_eq, fun u v => F.args_str_eq_2 u v, ?_⟩, e⟩
  intro prog w A E Q s u a ox od X J np hT hF hq
  have L := PySem.W.looks_subIn (M := model prog w) X e
  obtain ⟨ho, hc, _⟩ := J
  obtain ⟨cls, dict, data, slots⟩ := ox
  simp only at hc np
  subst hc
  obtain ⟨hp, g, d, tk, os⟩ := s
  obtain ⟨z, t, rfl⟩ := hF.1 rfl
  cases data <;> first | exact absurd rfl (np _) | skip
  all_goals repeat (first | exact hq | with_reducible refine wpAny_loadPart_at ho ?_ | (with_reducible refine L.at ?_) | wp_step)
theorem decl_int {C : Addr} (e : PySem.W.subIn K (.ref C) (.type "int") = some false) : Decl K C "int" := by
  refine ⟨⟨_, _, F.slot_int_eq, F.entry_int_eq, fun u v => F.args_int_eq_2 u v, ?_⟩, e⟩
  intro prog w A E Q s u a ox od X J np hT hF hq
  have L := PySem.W.looks_subIn (M := model prog w) X e
  obtain ⟨ho, hc, _⟩ := J
  obtain ⟨cls, dict, data, slots⟩ := ox
  simp only at hc np
  subst hc
  obtain ⟨hp, g, d, tk, os⟩ := s
  obtain ⟨z, t, rfl⟩ := hF.2 rfl
  cases data <;> first | exact absurd rfl (np _) | skip
  all_goals repeat (first | exact hq | with_reducible refine wpAny_loadPart_at ho ?_ | (with_reducible refine L.at ?_) | wp_step)
theorem decl_NoneType {C : Addr} (e : PySem.W.subIn K (.ref C) (.type "NoneType") = some false) : Decl K C "NoneType" := by
  refine ⟨⟨_, _, F.slot_NoneType_eq, F.entry_NoneType_eq, fun u v => F.args_NoneType_eq_2 u v, ?_⟩, e⟩
  intro prog w A E Q s u a ox od X J np hT hF hq
  have L := PySem.W.looks_subIn (M := model prog w) X e
  obtain ⟨ho, hc, _⟩ := J
  obtain ⟨cls, dict, data, slots⟩ := ox
  simp only at hc np
  subst hc
  obtain ⟨hp, g, d, tk, os⟩ := s
  repeat (first | exact hq | with_reducible refine wpAny_loadPart_at ho ?_ | (with_reducible refine L.at ?_) | wp_step)
end
end Up

set_option Elab.async false
set_option linter.all false
set_option maxRecDepth 100000
set_option maxHeartbeats 4000000
/-! an own class's == against anything, the other way round, and != -/
namespace Up
open PySem PySem.Spec PyProof.Rows L2 PySem.SeqAt
section
variable {X : Cx} {CX : CXT} {C f : Addr} {n : Nat} {sp : Sp} {E : XK}
theorem looks_type {M : Model} {s : Shared} {u : Value} {T : String} (h : s.TypeIs u T) : PySem.W.Looks M s.heap (typeOf u) (.type T) := by
  cases u with
  | ref a =>
    obtain ⟨o, h1, h2⟩ := (show ∃ o, s.heap.get? a = some o ∧ o.cls = .type T from h)
    have L : PySem.W.Looks M s.heap (loadPart a (some headPart)) o := .ld h1
    exact L.andThen (by rw [h2]; exact .now)
  | _ => exact .of_pure h
theorem form_of {K : PySem.W.Frag} {H : Hp} {x : V} {u : Value} {T : String} (t : TyB K H x T) (r : RelV x u) : Form T u := by
  cases t <;> refine ⟨fun e => ?_, fun e => ?_⟩ <;> first | exact absurd e (by decide) | skip
  all_goals exact ⟨_, r⟩
/-- the callee runs, inside a builtin -/
theorem runR_in1 {pins : List (Addr × Obj)} {σ : L2.St} {H : Hp} {s : Shared} {Q : VK} {us : List Value} {vs : List V} (F : FnR X.prog X.w X.K X.mg X.base CX n f sp) (hr : Room n X.A.in1) (hx : Passes CX X E) (I : Inv X pins σ H s) (r : Vals vs us) (h : sp vs H Q E) :
    codeAny (model X.prog X.w) X.A.in1 (.call (.ref f) ⟨us, []⟩) (fun r s' => match r with | .ok (.ret v) => EP X pins σ Q v s' | .ok _ => False | .error e => X.xe e s') s := by
  refine codeAny_mono (F X.A.in1 X.stack s H us vs Q E hr I.env0.in1 r h) fun r s' hq => ?_
  cases r with
  | error e => exact hx pins σ H s e s' I hq
  | ok fl =>
    cases fl with
    | ret u => exact I.after hq
    | next => exact False.elim hq
    | brk => exact False.elim hq
    | cont => exact False.elim hq
/-- what is known of a value's type -/
inductive TyY (K : PySem.W.Frag) (H : Hp) : V → Value → Prop where
  | b {x : V} {T : String} (t : TyB K H x T) : TyY K H x (.type T)
  | i {b C dx : Addr} {fs : List (Str × V)} (e : H b = some (.ins C dx fs)) : TyY K H (.ref b) (.ref C)
theorem TyY.looks {pins : List (Addr × Obj)} {σ : L2.St} {H : Hp} {s : Shared} {x : V} {u t : Value} {M : Model} (I : Inv X pins σ H s) (r : RelV x u) (y : TyY X.K H x t) : PySem.W.Looks M s.heap (typeOf u) t := by
  cases y with
  | b t => exact looks_type (t.is I r)
  | i e =>
    obtain rfl : u = Value.ref _ := r
    obtain ⟨mA, O, _⟩ := ins_get I.hok e
    obtain ⟨od, J, _⟩ := O.look
    exact J.type
/-- x == y, x an instance of the class at C -/
def rEqO (K : PySem.W.Frag) (C : Addr) (sp : Sp) (E : XK) : R2 := fun x y H Q => ∃ (a dx : Addr) (fs : List (Str × V)) (t : Value), x = .ref a ∧ H a = some (.ins C dx fs) ∧ TyY K H y t ∧ PySem.W.notFirst K C t = true ∧ sp [x, y] H Q E
theorem op_eqO (hs : PySem.W.findIn X.K (.ref C) "__eq__" = some (some (.ref f))) (hf : PySem.W.isFn X.K (.ref f) = true) (F : FnR X.prog X.w X.K X.mg X.base CX n f sp) (hr : Room n X.A) (hx : Passes CX X E) : OpR X (compareOp .Eq) (rEqO X.K C sp E) := by
  intro pins s σ H x y v u Q I rx ry h
  obtain ⟨a, dx, fs, t, rfl, ha, ht, hn, q⟩ := h
  obtain rfl : v = Value.ref a := rx
  obtain ⟨mA, O, _⟩ := ins_get I.hok ha
  obtain ⟨od, J, _⟩ := O.look
  obtain ⟨m, hF⟩ := I.fr
  show wpAny (model X.prog X.w) X.A (richCompare .Eq (.ref a) u) (EP X pins σ Q) X.xe s
  refine PySem.W.cmp_K (op := .Eq) (tb := t) hr.units0 hF I.ok.mod.kin J (ht.looks I ry) hn hs hf ?_
  refine wpAny_mono (wpAny_call (run_fnR (us := [.ref a, u]) (vs := [.ref a, y]) F hr hx I (.cons rfl (.cons ry .nil)) q)) (fun w s' z => ?_) fun _ _ x => x
  obtain ⟨z', H', I', rz, qz⟩ := z
  exact SlX.cmpback rz ⟨z', H', I', rz, qz⟩
/-- x == y, y an instance of the class at C, x of a builtin type -/
def rEqR (K : PySem.W.Frag) (C : Addr) (sp : Sp) (E : XK) : R2 := fun x y H Q => ∃ (a dx : Addr) (fs : List (Str × V)) (T : String), y = .ref a ∧ H a = some (.ins C dx fs) ∧ TyB K H x T ∧ Decl K C T ∧ sp [y, x] H Q E
theorem op_eqR (hs : PySem.W.findIn X.K (.ref C) "__eq__" = some (some (.ref f))) (hf : PySem.W.isFn X.K (.ref f) = true) (F : FnR X.prog X.w X.K X.mg X.base CX n f sp) (hr : Room n X.A) (hx : Passes CX X E) : OpR X (compareOp .Eq) (rEqR X.K C sp E) := by
  intro pins s σ H x y v u Q I rx ry h
  obtain ⟨a, dx, fs, T, rfl, ha, ht, D, q⟩ := h
  obtain rfl : u = Value.ref a := ry
  obtain ⟨mA, O, _⟩ := ins_get I.hok ha
  obtain ⟨od, J, _⟩ := O.look
  have hT := ht.is I rx
  have LT : PySem.W.Looks (model X.prog X.w) s.heap (typeOf v) (.type T) := looks_type hT
  obtain ⟨id, B, S, hB, hA, hD⟩ := D.slot
  have two : wpAny (model X.prog X.w) X.A (tryCompare (.ref a) "__eq__" v) (fun r s' => ∃ z, r = some z ∧ EP X pins σ Q z s') X.xe s := by
    unfold tryCompare
    refine wpAny_bind (PySem.W.ifBound_K I.kIn J hs hf (wpAny_mono (wpAny_call (run_fnR (us := [.ref a, v]) (vs := [.ref a, x]) F hr hx I (.cons rfl (.cons rx .nil)) q)) (fun z s' hz => ?_) fun _ _ e => e))
    obtain ⟨z', H', I', rz, qz⟩ := hz
    have back := SlX.cmpback rz (P := EP X pins σ Q) ⟨z', H', I', rz, qz⟩
    cases z <;> first | exact back.elim | exact wpAny_pure ⟨_, rfl, back⟩
  show wpAny (model X.prog X.w) X.A (richCompare .Eq v (.ref a)) (EP X pins σ Q) X.xe s
  unfold richCompare
  rw [hT.oneThing_none]
  refine wpAny_holding (wpAny_bind (wpAny_cRoomFor hr.units0 ?_))
  refine wpAny_bind (LT.here (wpAny_bind (J.type.here ?_)))
  have ne : ((Value.type T) != (Value.ref C)) = true := rfl
  simp only [ne, if_true]
  refine wpAny_bind ((PySem.W.looks_subIn I.kIn D.sub).here ?_)
  simp only [Bool.false_eq_true, if_false]
  refine wpAny_bind ?_
  have one : wpAny (model X.prog X.w) X.A (tryCompare v (cmpInfo .Eq).2.1 (.ref a)) (fun r s' => r = none ∧ s' = s) X.xe s := by
    unfold tryCompare
    refine wpAny_bind (wpAny_callSpecialIfBound?_slot hT S (wpAny_call (codeAny_call_builtin S.plain hB (S.check _ _ _ _ _ _ _ _ hT (hA _ _) (hD I.kIn J (fun z c => nomatch c) hT (form_of ht rx) ?_)))))
    exact wpAny_pure ⟨rfl, rfl⟩
  refine wpAny_mono one (fun r s' z => ?_) fun _ _ e => e
  obtain ⟨rfl, rfl⟩ := z
  refine wpAny_bind (wpAny_mono two (fun r s' z => ?_) fun _ _ e => e)
  obtain ⟨z, rfl, hz⟩ := z
  exact wpAny_pure hz
/-- x != y, both instances of the class at C -/
def rNeO (C : Addr) (sp : Sp) (E : XK) : R2 := fun x y H Q => ∃ (a dx b dy : Addr) (fs gs : List (Str × V)), x = .ref a ∧ y = .ref b ∧ H a = some (.ins C dx fs) ∧ H b = some (.ins C dy gs) ∧ sp [x, y] H (fun v H' => ∃ r : Bool, v = .bl r ∧ Q (.bl (!r)) H') E
theorem op_neO (hs : PySem.W.findIn X.K (.ref C) "__eq__" = some (some (.ref f))) (hf : PySem.W.isFn X.K (.ref f) = true) (hne : PySem.W.findIn X.K (.ref C) "__ne__" = some (some (.builtin "object.__ne__"))) (hmo : PySem.W.mroIn X.K C (.type "object") = some true)
    (F : FnR X.prog X.w X.K X.mg X.base CX n f sp) (hr : Room (n + 1) X.A) (hx : Passes CX X E) : OpR X (compareOp .NotEq) (rNeO C sp E) := by
  intro pins s σ H x y v u Q I rx ry h
  obtain ⟨a, dx, b, dy, fs, gs, rfl, rfl, ha, hb, q⟩ := h
  obtain rfl : v = Value.ref a := rx
  obtain rfl : u = Value.ref b := ry
  obtain ⟨mA, O, _⟩ := ins_get I.hok ha
  obtain ⟨od, J, _⟩ := O.look
  obtain ⟨mB, O', _⟩ := ins_get I.hok hb
  obtain ⟨od', J', _⟩ := O'.look
  show wpAny (model X.prog X.w) X.A (richCompare .NotEq (.ref a) (.ref b)) (EP X pins σ Q) X.xe s
  unfold richCompare
  simp only [oneThing_ref]
  refine wpAny_holding (wpAny_bind (wpAny_cRoomFor hr.units0 ?_))
  refine wpAny_bind (J.type.here (wpAny_bind (J'.type.here ?_)))
  rw [show (Value.ref C != Value.ref C) = false by simp]
  simp only [Bool.false_eq_true, if_false]
  refine wpAny_bind (wpAny_pure ?_)
  simp only [Bool.false_eq_true, if_false]
  refine wpAny_bind ?_
  have sub : PySem.W.Looks (model X.prog X.w) s.heap (isInstance (.ref a) (.type "object")) true := J.type.andThen (PySem.W.looks_mroIn I.kIn hmo)
  have hu := hr.units0
  have one : wpAny (model X.prog X.w) X.A (tryCompare (.ref a) (cmpInfo .NotEq).2.1 (.ref b)) (fun r s' => ∃ z, r = some z ∧ EP X pins σ Q z s') X.xe s := by
    unfold tryCompare
    have st : wpAny (model X.prog X.w) X.A (callSpecialIfBound? (.ref a) (cmpInfo .NotEq).2.1 [.ref b]) (fun o s' => ∃ z, o = some (.bool z) ∧ EP X pins σ Q (.bool z) s') X.xe s := by
      simp only [callSpecialIfBound?, bindSpecialIfBound?]
      refine wpAny_holding (wpAny_bind (wpAny_bind (wpAny_bind (J.type.here ((PySem.W.looks_findIn I.kIn hne).here ?_)))))
      simp only [PySem.F.cmp_object.ne.bind]
      have fin : wpAny (model X.prog X.w) X.A (call (.builtin "object.__ne__") ([.ref a] ++ [.ref b]) >>= fun v => pure (some v)) (fun o s' => ∃ z, o = some (.bool z) ∧ EP X pins σ Q (.bool z) s') X.xe s := by
        refine wpAny_bind (wpAny_call (codeAny_call_builtin PySem.F.cmp_object.ne.plain PySem.F.cmpEntry_ne (PySem.W.check_slot (self := .ref a) (rest := [.ref b]) (kw := []) PySem.F.cmpKind_ne PySem.F.cmpSplit_ne sub (PySem.F.cmpArgs_ne _ _) ?_)))
        obtain ⟨hp, g, d, tk, os⟩ := s
        unfold Builtin.«object.__ne__»
        have eq1 : wpAny (model X.prog X.w) X.A.in1 (callSpecialIfBound? (.ref a) "__eq__" [.ref b]) (fun o s' => ∃ r : Bool, o = some (.bool r) ∧ EP X pins σ Q (.bool (!r)) s') X.xe ⟨hp, g, d, tk, os⟩ := by
          refine PySem.W.ifBound_K I.kIn J hs hf (wpAny_mono (wpAny_call (runR_in1 F hr.in1 hx I (us := [.ref a, .ref b]) (vs := [.ref a, .ref b]) (.cons rfl (.cons rfl .nil)) q)) (fun w s' z => ?_) fun _ _ e => e)
          obtain ⟨z', H', I', rz, r, ez, qz⟩ := z
          subst ez
          obtain rfl : w = Value.bool r := rz
          exact ⟨r, rfl, .bl (!r), H', I', rfl, qz⟩
        have hu1 : X.A.in1.units < cLine := hr.in1.units0
        repeat (first | with_reducible refine wpAny_cRoomFor hu1 ?_ | refine wpAny_bind (m := callSpecialIfBound? (.ref a) (Str.ofString "__eq__") [.ref b]) (wpAny_mono eq1 (fun o s' hz => ?_) fun _ _ e => e) | wp_step)
        obtain ⟨r, rfl, hz⟩ := hz
        refine wpAny_bind (m := truthy (.bool r)) (wpAny_truthy_bool ?_)
        exact wpAny_pure (wpAny_pure ⟨_, rfl, hz⟩)
      refine wpAny_bind (wpAny_askSetting (wpAny_ite ?_))
      split
      · exact wpAny_bind (wpAny_pure (wpAny_pure fin))
      · exact wpAny_tryCatch (wpAny_bind (wpAny_pure (wpAny_pure fin)))
    refine wpAny_bind (wpAny_mono st (fun o s' z => ?_) fun _ _ e => e)
    obtain ⟨z, rfl, hz⟩ := z
    exact wpAny_pure ⟨_, rfl, hz⟩
  refine wpAny_mono one (fun r s' z => ?_) fun _ _ e => e
  obtain ⟨z, rfl, hz⟩ := z
  exact wpAny_pure hz
end
end Up

namespace Up
open PySem PySem.Spec PyProof.Rows L2
/-! ### Talk.__eq__ -/
def dgD (g : Dg) : PyData := .tuple [.str g.word, .int (g.l : Int)]
def rowD (gs : List Dg) : PyData := .tuple (gs.map dgD)
def rowsD (gss : List (List Dg)) : PyData := .tuple (gss.map rowD)
theorem DpAll.of {K : PySem.W.Frag} {H : Hp} {α : Type} {f : α → PyData} : ∀ {vs : List V} {as : List α}, vs.length = as.length → (∀ (i : Nat) v a, vs[i]? = some v → as[i]? = some a → Dp K H v (f a)) → DpAll K H vs (as.map f)
  | [], [], _, _ => .nil
  | v :: vs, a :: as, l, h => .cons (h 0 v a rfl rfl) (DpAll.of (by simpa using l) fun i v' a' e1 e2 => h (i + 1) v' a' e1 e2)
theorem RowsD.data {K : PySem.W.Frag} {H : Hp} {p : Addr} {gss : List (List Dg)} (h : RowsD H p gss) : Dp K H (.ref p) (rowsD gss) := by
  obtain ⟨ts, h1, h2, h3⟩ := h.ex
  refine .tup (.inl (.inl h1)) (DpAll.of (by rw [List.length_map]; exact h2) fun i v gs e1 e2 => ?_)
  obtain ⟨t, et, rfl⟩ := map_get e1
  obtain ⟨qs, k1, k2, k3⟩ := h3 i t gs et e2
  refine .tup (.inl (.inl k1)) (DpAll.of (by rw [List.length_map]; exact k2) fun j v g e3 e4 => ?_)
  obtain ⟨q, eq, rfl⟩ := map_get e3
  exact .tup (.inl (.inl (k3 j q g eq e4))) (.cons (.str _) (.cons (.int _) .nil))
theorem dgD_eqv (g g' : Dg) : PyData.eqv (dgD g) (dgD g') = decide (g = g') := by
  obtain ⟨s, l⟩ := g
  obtain ⟨s', l'⟩ := g'
  simp only [dgD, PyData.eqv, PyData.eqvAll, Dg.word]
  cases s <;> cases s' <;> by_cases c : l = l'
  all_goals first | subst c | skip
  all_goals simp [*]
  all_goals first | omega | decide | skip
theorem all_eqv {α : Type} [DecidableEq α] {f : α → PyData} (h : ∀ a b, PyData.eqv (f a) (f b) = decide (a = b)) : ∀ as bs : List α, PyData.eqvAll (as.map f) (bs.map f) = decide (as = bs)
  | [], [] => rfl
  | [], _ :: _ => rfl
  | _ :: _, [] => rfl
  | a :: as, b :: bs => by
    show (PyData.eqv (f a) (f b) && PyData.eqvAll (as.map f) (bs.map f)) = _
    rw [h, all_eqv h as bs]
    by_cases c : a = b <;> by_cases d : as = bs <;> simp [c, d]
theorem rowD_eqv (a b : List Dg) : PyData.eqv (rowD a) (rowD b) = decide (a = b) := by
  show PyData.eqvAll (a.map dgD) (b.map dgD) = _
  exact all_eqv dgD_eqv a b
theorem rowsD_eqv (a b : List (List Dg)) : PyData.eqv (rowsD a) (rowsD b) = decide (a = b) := by
  show PyData.eqvAll (a.map rowD) (b.map rowD) = _
  exact all_eqv rowD_eqv a b
theorem all_can {α : Type} {f : α → PyData} {n : Nat} (h : ∀ a, (f a).canLay0 = true ∧ (f a).depth ≤ n) : ∀ as : List α, PyData.canLayAll0 (as.map f) = true ∧ PyData.depthAll (as.map f) ≤ n
  | [] => by simp [PyData.canLayAll0, PyData.depthAll]
  | a :: as => by
    have h1 := h a
    have h2 := all_can h as
    simp only [List.map_cons, PyData.canLayAll0, PyData.depthAll, h1.1, h2.1, Bool.and_self, true_and]
    omega
theorem rowsD_shaped (gss : List (List Dg)) : SeqAt.shaped (rowsD gss) = true := by
  have h1 : ∀ g, (dgD g).canLay0 = true ∧ (dgD g).depth ≤ 1 := fun g => by
    have e1 : PyData.strOk g.word = true := by
      unfold Dg.word
      split <;> decide +kernel
    exact ⟨by simp only [dgD, PyData.canLay0, PyData.canLayAll0, e1]; rfl, by simp [dgD, PyData.depth, PyData.depthAll]⟩
  have h2 : ∀ gs, (rowD gs).canLay0 = true ∧ (rowD gs).depth ≤ 2 := fun gs => by
    have h := all_can h1 gs
    exact ⟨by simp only [rowD, PyData.canLay0]; exact h.1, by simp only [rowD, PyData.depth]; omega⟩
  have h := all_can h2 gss
  unfold SeqAt.shaped rowsD
  rw [Bool.and_eq_true]
  exact ⟨by simp only [PyData.canLay0]; exact h.1, decide_eq_true (by simp only [PyData.depth]; omega)⟩
/-- what a comparison sees of a talk -/
structure RowsOf (H : Hp) (x C : Addr) (gss : List (List Dg)) : Prop where
  ex : ∃ (dx r : Addr) (fs : List (Str × V)), H x = some (.ins C dx fs) ∧ fs.lookup ("rows" : Str) = some (.ref r) ∧ RowsD H r gss
theorem RowsOf.same {H H' : Hp} {x C : Addr} {gss : List (List Dg)} (s : Same H H') (h : RowsOf H x C gss) : RowsOf H' x C gss := by
  obtain ⟨dx, r, fs, h1, h2, h3⟩ := h.ex
  exact ⟨dx, r, fs, s _ _ h1, h2, h3.same s⟩
theorem TalkAt.rows {H : Hp} {x C : Addr} {gss : List (List Dg)} {many : Nat} {S G : Nat → Nat} {Ck : Dg → List Int} (t : TalkAt H x C gss many S G Ck) : RowsOf H x C gss := by
  obtain ⟨dx, r, p, s, g, c, kvs, ckv, dn, h1, h2, _⟩ := t.ex
  exact ⟨dx, r, _, h1, rfl, h2⟩
/-- what is asked of the class for isinstance(.., Talk) -/
structure IsTalk (K : PySem.W.Frag) (C : Addr) : Prop where
  ha : PySem.W.findIn K (.ref C) "__class__" = some (some (.builtin "object.__class__"))
  hn : PySem.W.specialIn K (.builtin "object.__class__") "__get__" = some (some (.builtin "getset_descriptor.__get__"))
  htk : PySem.W.takesIn K (.builtin "object.__class__") = some true
  hm : PySem.W.mroIn K C (.type "object") = some true
  self : PySem.W.kitOne K (.ref C) (.ref C) = some true
def spTEq (K : PySem.W.Frag) (C : Addr) : Sp := fun vs H Q _ => ∃ (x : Addr) (y : V) (gss : List (List Dg)), vs = [.ref x, y] ∧ RowsOf H x C gss ∧
  ((∃ t : Value, TyX K H y t ∧ PySem.W.kitOne K t (.ref C) = some false ∧ Q (.bl false) H) ∨ ∃ (z : Addr) (gss' : List (List Dg)), y = .ref z ∧ RowsOf H z C gss' ∧ Q (.bl (decide (gss = gss'))) H)
section
variable {P : Program} {w : World} {K : PySem.W.Frag} {mg : Str → Option Value} {base : Heap}
theorem ok_teq {f C fCo fPl fCn fCh fHa fCl : Addr} {fd : FuncData} (F : Fun K "__eq__" "Talk.__eq__" s_teq f fd) (T : TxtT K mg C fCo fPl fCn fCh fHa fCl) (J : IsTalk K C) : FnOk P w K mg base CX0 1 f fd ["self", "other"] (spTEq K C) := by
  refine F.ok sc_teq (fun vs H Q E h => ?_) (fun cdv A outer s H vs Q E hr h => ?_)
  · obtain ⟨x, y, gss, rfl, _⟩ := h
    rfl
  · obtain ⟨x, y, gss, rfl, hx, h⟩ := h
    have hu : (A.deeper (envOfC "Talk.__eq__" (defScope s_teq) s.heap.objs.size f cdv)).units + 64 < cLine := by
      have := hr.un
      omega
    refine ⟨_, (pss_one (ps_ret (pe_and (pe_callB call_isi (by rfl) T.isinstance bb_isinstance (pa_cons (pv 1) (pa_cons (pe_glob (v := .ref C) rfl T.g_Talk rfl) pa_nil))) (pe_one (pe_cmpR (op_eqD hu) (pe_fld (pv 0) rfl) (pe_fld (pv 1) rfl) (nomark _)))))), ?_⟩
    obtain ⟨dx, r, fs, ex, er, hR⟩ := hx.ex
    rcases h with ⟨t, ht, ek, q⟩ | ⟨z, gss', rfl, hz, q⟩
    · exact ⟨_, rfl, _, _, _, _, _, rfl, .own C, ht, ek, false, rfl, q⟩
    · obtain ⟨dz, r', fz, ez, er', hR'⟩ := hz.ex
      refine ⟨_, rfl, _, _, _, _, _, rfl, .own C, .base (.ins ez T.cl J.ha J.hn J.htk J.hm), J.self, true, rfl, ?_⟩
      rw [if_pos rfl]
      refine ⟨_, rfl, x, C, dx, fs, _, rfl, ex, T.cl, T.nRows, er, _, rfl, z, C, dz, fz, _, rfl, ez, T.cl, T.nRows, er', _, _, hR.data, hR'.data, rowsD_shaped _, rowsD_shaped _, ?_⟩
      rw [rowsD_eqv]
      exact q
end
end Up

/-! defs read as plain functions: values as trees, expressions as functions of the names' values -/
namespace Up
open PySem PySem.Spec PyProof.Rows L2
/-- where the classes stand, and the world -/
structure Cm where
  cls : Nat → Addr
  w : World
inductive Val where
  | non
  | bl (b : Bool)
  | int (i : Int)
  | str (x : Str)
  | lst (xs : List Val)
  | tup (xs : List Val)
  | dct (ks : List (List Key)) (xs : List Val)
  | ins (c : Nat) (ns : List Str) (xs : List Val)
  | set (xs : List Int)
  | dk0
  | exc (c : Nat) (ns : List Str) (xs : List Val)
  | loc (a : Addr)
/-- the tree of a value; nothing of it stands where P holds -/
inductive Rep (cm : Cm) (P : Addr → Prop) (H : Hp) : Bool → List V → List Val → Prop where
  | nil : Rep cm P H false [] []
  | cons {v : V} {vs : List V} {x : Val} {xs : List Val} : Rep cm P H true [v] [x] → Rep cm P H false vs xs → Rep cm P H false (v :: vs) (x :: xs)
  | non : Rep cm P H true [.non] [.non]
  | bl (b : Bool) : Rep cm P H true [.bl b] [.bl b]
  | int (i : Int) : Rep cm P H true [.int i] [.int i]
  | str (x : Str) : Rep cm P H true [.str x] [.str x]
  | lst {a : Addr} {vs : List V} {xs : List Val} : ¬ P a → H a = some (.lst vs) → Rep cm P H false vs xs → Rep cm P H true [.ref a] [.lst xs]
  | tup {a : Addr} {vs : List V} {xs : List Val} : ¬ P a → H a = some (.tup vs) → Rep cm P H false vs xs → Rep cm P H true [.ref a] [.tup xs]
  | dct {a : Addr} {kvs : List (List Key × V)} {ks : List (List Key)} {vs : List V} {xs : List Val} : ¬ P a → H a = some (.dT kvs) → kvs.length = ks.length → vs.length = ks.length →
      (∀ (i : Nat) (k : List Key) (v : V), ks[i]? = some k → vs[i]? = some v → valV kvs k = some v) → (∀ k, k ∉ ks → valV kvs k = none) → Rep cm P H false vs xs → Rep cm P H true [.ref a] [.dct ks xs]
  | ins {a dx : Addr} {c : Nat} {fs : List (Str × V)} {xs : List Val} : ¬ P a → H a = some (.ins (cm.cls c) dx fs) → Rep cm P H false (fs.map (·.2)) xs → Rep cm P H true [.ref a] [.ins c (fs.map (·.1)) xs]
  | set {a : Addr} {S : Int → Bool} {n : Nat} {xs : List Int} : ¬ P a → H a = some (SetO cm.w a S n) → (∀ i, S i = decide (i ∈ xs)) → n = xs.length → Rep cm P H true [.ref a] [.set xs]
  | dk0 {a : Addr} : ¬ P a → H a = some (.dK []) → Rep cm P H true [.ref a] [.dk0]
  | exc {a : Addr} {c : Nat} {d : Option Addr} {fs : List (Str × V)} {xs : List Val} : ¬ P a → H a = some (exo a (cm.cls c) d) → (∀ d', d = some d' → ¬ P d' ∧ H d' = some (exd d' fs)) → (d = none → fs = []) → Rep cm P H false (fs.map (·.2)) xs → Rep cm P H true [.ref a] [.exc c (fs.map (·.1)) xs]
  | loc (a : Addr) : Rep cm P H true [.ref a] [.loc a]
abbrev Re (cm : Cm) (P : Addr → Prop) (H : Hp) (v : V) (x : Val) : Prop := Rep cm P H true [v] [x]
abbrev Res (cm : Cm) (P : Addr → Prop) (H : Hp) (vs : List V) (xs : List Val) : Prop := Rep cm P H false vs xs
/-- what stands outside P stays -/
def Keep (P : Addr → Prop) (H H' : Hp) : Prop := ∀ b o, H b = some o → ¬ P b → H' b = some o
theorem Keep.of {P : Addr → Prop} {H H' : Hp} (s : Same H H') : Keep P H H' := fun b o e _ => s b o e
theorem Keep.refl {P : Addr → Prop} {H : Hp} : Keep P H H := fun _ _ e _ => e
theorem Keep.trans {P : Addr → Prop} {H H1 H2 : Hp} (a : Keep P H H1) (b : Keep P H1 H2) : Keep P H H2 := fun c o e n => b c o (a c o e n) n
section
variable {cm : Cm} {P P' : Addr → Prop} {H H' : Hp}
theorem Rep.keep (s : Keep P H H') : ∀ {b : Bool} {vs : List V} {xs : List Val}, Rep cm P H b vs xs → Rep cm P H' b vs xs := fun h => by
  induction h with
  | nil => exact .nil
  | cons _ _ i1 i2 => exact .cons i1 i2
  | non => exact .non
  | bl b => exact .bl b
  | int i => exact .int i
  | str x => exact .str x
  | lst n e _ ih => exact .lst n (s _ _ e n) ih
  | tup n e _ ih => exact .tup n (s _ _ e n) ih
  | dct n e l1 l2 g1 g2 _ ih => exact .dct n (s _ _ e n) l1 l2 g1 g2 ih
  | ins n e _ ih => exact .ins n (s _ _ e n) ih
  | set n e h1 h2 => exact .set n (s _ _ e n) h1 h2
  | dk0 n e => exact .dk0 n (s _ _ e n)
  | exc n e k z _ ih => exact .exc n (s _ _ e n) (fun d' q => ⟨(k d' q).1, s _ _ (k d' q).2 (k d' q).1⟩) z ih
  | loc a => exact .loc a
theorem Rep.same (s : Same H H') {b : Bool} {vs : List V} {xs : List Val} (h : Rep cm P H b vs xs) : Rep cm P H' b vs xs := h.keep (.of s)
/-- less is hidden -/
theorem Rep.less (s : ∀ a, P' a → P a) : ∀ {b : Bool} {vs : List V} {xs : List Val}, Rep cm P H b vs xs → Rep cm P' H b vs xs := fun h => by
  induction h with
  | nil => exact .nil
  | cons _ _ i1 i2 => exact .cons i1 i2
  | non => exact .non
  | bl b => exact .bl b
  | int i => exact .int i
  | str x => exact .str x
  | lst n e _ ih => exact .lst (fun c => n (s _ c)) e ih
  | tup n e _ ih => exact .tup (fun c => n (s _ c)) e ih
  | dct n e l1 l2 g1 g2 _ ih => exact .dct (fun c => n (s _ c)) e l1 l2 g1 g2 ih
  | ins n e _ ih => exact .ins (fun c => n (s _ c)) e ih
  | set n e h1 h2 => exact .set (fun c => n (s _ c)) e h1 h2
  | dk0 n e => exact .dk0 (fun c => n (s _ c)) e
  | exc n e k z _ ih => exact .exc (fun c => n (s _ c)) e (fun d' q => ⟨fun c => (k d' q).1 (s _ c), (k d' q).2⟩) z ih
  | loc a => exact .loc a
theorem Res.length {vs : List V} {xs : List Val} (h : Res cm P H vs xs) : vs.length = xs.length := by
  have k : ∀ (b : Bool) (vs : List V) (xs : List Val), Rep cm P H b vs xs → b = false → vs.length = xs.length := fun b vs xs h => by
    induction h with
    | nil => exact fun _ => rfl
    | cons _ _ _ i2 => exact fun e => congrArg (· + 1) (i2 e)
    | _ => exact fun e => nomatch e
  exact k _ _ _ h rfl
theorem Res.get : ∀ {vs : List V} {xs : List Val} {i : Nat} {x : Val}, Res cm P H vs xs → xs[i]? = some x → ∃ v, vs[i]? = some v ∧ Re cm P H v x
  | _, _, i, _, .nil, e => by simp at e
  | _, _, 0, _, .cons h _, e => by
    simp at e
    subst e
    exact ⟨_, rfl, h⟩
  | _, _, i + 1, _, .cons _ t, e => by
    obtain ⟨v, h1, h2⟩ := Res.get (i := i) t (by simpa using e)
    exact ⟨v, by simpa using h1, h2⟩
theorem Res.getV {vs : List V} {xs : List Val} {i : Nat} {v : V} (h : Res cm P H vs xs) (e : vs[i]? = some v) : ∃ x, xs[i]? = some x ∧ Re cm P H v x := by
  have lt := (List.getElem?_eq_some_iff.mp e).1
  rw [h.length] at lt
  obtain ⟨v', h1, h2⟩ := h.get (List.getElem?_eq_getElem lt)
  rw [e] at h1
  cases h1
  exact ⟨_, List.getElem?_eq_getElem lt, h2⟩
theorem Res.of : ∀ {vs : List V} {xs : List Val}, vs.length = xs.length → (∀ (i : Nat) v x, vs[i]? = some v → xs[i]? = some x → Re cm P H v x) → Res cm P H vs xs
  | [], [], _, _ => .nil
  | v :: vs, x :: xs, l, h => .cons (h 0 v x rfl rfl) (Res.of (by simpa using l) fun i v' x' e1 e2 => h (i + 1) v' x' e1 e2)
theorem Res.append : ∀ {vs ws : List V} {xs ys : List Val}, Res cm P H vs xs → Res cm P H ws ys → Res cm P H (vs ++ ws) (xs ++ ys)
  | _, _, _, _, .nil, s => s
  | _, _, _, _, .cons r t, s => .cons r (Res.append t s)
theorem Res.snoc {vs : List V} {xs : List Val} {v : V} {x : Val} (h : Res cm P H vs xs) (r : Re cm P H v x) : Res cm P H (vs ++ [v]) (xs ++ [x]) := h.append (.cons r .nil)
end
/-- hidden things stand somewhere, and are no tuples -/
def NT (H : Hp) (a : Addr) : Prop := ∃ o, H a = some o ∧ ∀ vs, o ≠ .tup vs
theorem NT.ne {H : Hp} {a : Addr} (h : NT H a) : H a ≠ none := by
  obtain ⟨o, e, _⟩ := h
  rw [e]
  exact fun z => nomatch z
theorem NT.same {H H' : Hp} {a : Addr} (s : Same H H') (h : NT H a) : NT H' a := by
  obtain ⟨o, e, n⟩ := h
  exact ⟨o, s _ _ e, n⟩
def Hid (P : Addr → Prop) (H : Hp) : Prop := ∀ a, P a → NT H a
theorem Hid.same {P : Addr → Prop} {H H' : Hp} (s : Same H H') (h : Hid P H) : Hid P H' := fun a p => (h a p).same s
theorem Hid.new {P : Addr → Prop} {H : Hp} (h : Hid P H) {a : Addr} (n : H a = none) : ¬ P a := fun p => (h a p).ne n
theorem Hid.tup {P : Addr → Prop} {H : Hp} (h : Hid P H) {a : Addr} {vs : List V} (e : H a = some (.tup vs)) : ¬ P a := fun p => by
  obtain ⟨o, e1, n⟩ := h a p
  rw [e] at e1
  cases e1
  exact n _ rfl
/-! ### the names' values -/
abbrev En := List (Option Val)
structure Slots (cm : Cm) (P : Addr → Prop) (H : Hp) (σ : L2.St) (env : En) : Prop where
  len : σ.length = env.length
  at_ : ∀ (i : Nat) (x : Val), env[i]? = some (some x) → ∃ v, σ[i]? = some (some v) ∧ Re cm P H v x
  hid : Hid P H
section
variable {cm : Cm} {P P' : Addr → Prop} {H H' : Hp} {σ : L2.St} {env : En}
theorem Slots.keep (s : Keep P H H') (hd : Hid P H') (h : Slots cm P H σ env) : Slots cm P H' σ env := ⟨h.len, fun i x e => let ⟨v, h1, h2⟩ := h.at_ i x e; ⟨v, h1, h2.keep s⟩, hd⟩
theorem Slots.same (s : Same H H') (h : Slots cm P H σ env) : Slots cm P H' σ env := h.keep (.of s) (h.hid.same s)
theorem Slots.set (h : Slots cm P H σ env) {i : Nat} {v : V} {x : Val} (r : Re cm P H v x) : Slots cm P H (σ.set i (some v)) (env.set i (some x)) := by
  refine ⟨by rw [List.length_set, List.length_set]; exact h.len, fun j y e => ?_, h.hid⟩
  by_cases c : i = j
  · subst c
    have lt := (List.getElem?_eq_some_iff.mp e).1
    rw [List.length_set] at lt
    rw [List.getElem?_set_self lt] at e
    cases e
    exact ⟨v, List.getElem?_set_self (by rw [h.len]; exact lt), r⟩
  · rw [List.getElem?_set_ne c] at e ⊢
    exact h.at_ j y e
theorem Slots.out (h : Slots cm P H σ env) {i : Nat} {o : Option V} : Slots cm P H (σ.set i o) (env.set i none) := by
  refine ⟨by rw [List.length_set, List.length_set]; exact h.len, fun j y e => ?_, h.hid⟩
  by_cases c : i = j
  · subst c
    have lt := (List.getElem?_eq_some_iff.mp e).1
    rw [List.length_set] at lt
    rw [List.getElem?_set_self lt] at e
    cases e
  · rw [List.getElem?_set_ne c] at e ⊢
    exact h.at_ j y e
def wipeE (env : En) : List Nat → En
  | [] => env
  | v :: vs => (wipeE env vs).set v none
theorem Slots.wipe (h : Slots cm P H σ env) : ∀ vs : List Nat, Slots cm P H (L2.wipe σ vs) (wipeE env vs)
  | [] => h
  | v :: vs => (Slots.wipe h vs).out
theorem wipe_set {σ : L2.St} {i : Nat} {o : Option V} : ∀ {vs : List Nat}, i ∈ vs → L2.wipe (σ.set i o) vs = L2.wipe σ vs
  | v :: vs, h => by
    show (L2.wipe (σ.set i o) vs).set v none = (L2.wipe σ vs).set v none
    by_cases c : i ∈ vs
    · rw [wipe_set c]
    · have e : i = v := by
        rcases List.mem_cons.mp h with z | z
        · exact z
        · exact absurd z c
      subst e
      have k : ∀ (ws : List Nat), i ∉ ws → L2.wipe (σ.set i o) ws = (L2.wipe σ ws).set i o := by
        intro ws
        induction ws with
        | nil => exact fun _ => rfl
        | cons w ws ih =>
          intro hn
          have n1 : i ≠ w := fun z => hn (z ▸ List.mem_cons_self ..)
          show (L2.wipe (σ.set i o) ws).set w none = ((L2.wipe σ ws).set w none).set i o
          rw [ih fun z => hn (List.mem_cons_of_mem _ z), List.set_comm _ _ n1]
      rw [k vs c, List.set_set]
theorem wipe_wipe {σ : L2.St} : ∀ {vs ws : List Nat}, (∀ i ∈ ws, i ∈ vs) → L2.wipe (L2.wipe σ ws) vs = L2.wipe σ vs
  | vs, [], _ => rfl
  | vs, w :: ws, h => by
    show L2.wipe ((L2.wipe σ ws).set w none) vs = _
    rw [wipe_set (h w (List.mem_cons_self ..)), wipe_wipe fun i hi => h i (List.mem_cons_of_mem _ hi)]
end
/-! ### readings that are functions -/
def tV (cm : Cm) (f : En → Option Val) : TE := fun σ H Q => ∃ (P : Addr → Prop) (env : En) (x : Val), Slots cm P H σ env ∧ f env = some x ∧ ∀ v H', Same H H' → Re cm P H' v x → Q v H'
def tVT (cm : Cm) (f : En → Option Bool) : TT := fun σ H Q => ∃ (P : Addr → Prop) (env : En) (b : Bool), Slots cm P H σ env ∧ f env = some b ∧ ∀ H', Same H H' → Q b H'
def tVA (cm : Cm) (f : En → Option (List Val)) : TA := fun σ H Q => ∃ (P : Addr → Prop) (env : En) (xs : List Val), Slots cm P H σ env ∧ f env = some xs ∧ ∀ vs H', Same H H' → Res cm P H' vs xs → Q vs H'
abbrev VE (X : Cx) (cm : Cm) (e : Expr) (f : En → Option Val) : Prop := PE X e (tV cm f)
abbrev VT (X : Cx) (cm : Cm) (e : Expr) (f : En → Option Bool) : Prop := PT X e (tVT cm f)
abbrev VA (X : Cx) (cm : Cm) (es : List Expr) (f : En → Option (List Val)) : Prop := PA X es (tVA cm f)
section
variable {X : Cx} {cm : Cm} {a b c e : Expr} {es : List Expr} {f g h : En → Option Val} {pos : Pos}
theorem _root_.L2.PE.weak {t t' : TE} (h : PE X e t) (k : ∀ σ H Q, t' σ H Q → t σ H Q) : PE X e t' := ⟨fun pins s σ H Q I q => h.run pins s σ H Q I (k σ H Q q)⟩
theorem _root_.L2.PT.weak {t t' : TT} (h : PT X e t) (k : ∀ σ H Q, t' σ H Q → t σ H Q) : PT X e t' := ⟨fun pins s σ H Q I q => h.run pins s σ H Q I (k σ H Q q)⟩
theorem _root_.L2.PA.weak {t t' : TA} (h : PA X es t) (k : ∀ σ H Q, t' σ H Q → t σ H Q) : PA X es t' := ⟨fun pos pins s σ H Q I q => h.run pos pins s σ H Q I (k σ H Q q)⟩
def getE (i : Nat) : En → Option Val := fun env => (env[i]?).join
theorem ve_var {i : Nat} {x : Str} (hN : X.N[i]? = some x) (hv : Vis X.env.scope x) (hd : (x == ("__debug__" : Str)) = false := by decide) (hcd : (x == ("__classdict__" : Str)) = false := by decide) : VE X cm (.Name x pos) (getE i) := by
  refine (pe_var hN hv hd hcd).weak fun σ H Q ⟨P, env, x, hs, hf, q⟩ => ?_
  unfold getE at hf
  obtain ⟨v, h1, h2⟩ := hs.at_ i x (by
    cases e : env[i]? with
    | none => rw [e] at hf; cases hf
    | some o =>
      rw [e] at hf
      cases o with
      | none => cases hf
      | some y => cases hf; rfl)
  exact ⟨v, h1, q v H (Same.refl H) h2⟩
def cst (x : Val) : En → Option Val := fun _ => some x
theorem ve_int {i j} : VE X cm (.Constant (.int i) j pos) (cst (.int i)) := pe_int.weak fun σ H Q ⟨P, env, x, hs, hf, q⟩ => by
  cases hf
  exact q _ H (Same.refl H) (.int i)
theorem ve_bl {k : Bool} {j} : VE X cm (.Constant (.bool k) j pos) (cst (.bl k)) := pe_bl.weak fun σ H Q ⟨P, env, x, hs, hf, q⟩ => by
  cases hf
  exact q _ H (Same.refl H) (.bl k)
theorem ve_non {j} : VE X cm (.Constant .none j pos) (cst .non) := pe_non.weak fun σ H Q ⟨P, env, x, hs, hf, q⟩ => by
  cases hf
  exact q _ H (Same.refl H) .non
theorem ve_str {z : Str} {j} : VE X cm (.Constant (.str z) j pos) (cst (.str z)) := pe_str.weak fun σ H Q ⟨P, env, x, hs, hf, q⟩ => by
  cases hf
  exact q _ H (Same.refl H) (.str z)
theorem ve_glob {x : Str} {i : Int} {t : Tok} (hg : Gl X x) (hm : X.mg x = some (.int i t)) (hd : (x == ("__debug__" : Str)) = false := by decide) : VE X cm (.Name x pos) (cst (.int i)) :=
  (pe_glob (v := .int i) hg hm ⟨t, rfl⟩ hd).weak fun σ H Q ⟨P, env, x, hs, hf, q⟩ => by
    cases hf
    exact q _ H (Same.refl H) (.int i)
/-! ### two values by an operator -/
/-- what an operator's rule gives, told by trees -/
def OpV (cm : Cm) (r : R2) (op : Val → Val → Option Val) : Prop := ∀ (P : Addr → Prop) (x y z : Val) (v u : V) (H : Hp) (Q : VK), op x y = some z → Re cm P H v x → Re cm P H u y → (∀ v' H', Same H H' → Re cm P H' v' z → Q v' H') → r v u H Q
def bin2 (op : Val → Val → Option Val) (f g : En → Option Val) : En → Option Val := fun env => (f env).bind fun x => (g env).bind fun y => op x y
theorem tV_two {r : R2} {op : Val → Val → Option Val} (o : OpV cm r op) (σ : L2.St) (H : Hp) (Q : VK) (q : tV cm (bin2 op f g) σ H Q) : tOp r (tV cm f) (tV cm g) σ H Q := by
  obtain ⟨P, env, z, hs, hf, q⟩ := q
  unfold bin2 at hf
  obtain ⟨x, ex, hf⟩ := Option.bind_eq_some_iff.mp hf
  obtain ⟨y, ey, hf⟩ := Option.bind_eq_some_iff.mp hf
  refine ⟨P, env, x, hs, ex, fun v H1 s1 r1 => ⟨P, env, y, hs.same s1, ey, fun u H2 s2 r2 => ?_⟩⟩
  exact o P x y z v u H2 Q hf (r1.same s2) r2 fun v' H3 s3 r3 => q v' H3 (s1.trans (s2.trans s3)) r3
theorem ve_op {op : Operator} {r : R2} {k : Val → Val → Option Val} (ho : OpR X (binaryOp op) r) (o : OpV cm r k) (ha : VE X cm a f) (hb : VE X cm b g) : VE X cm (.BinOp a op b pos) (bin2 k f g) := (pe_op ho ha hb).weak (tV_two o)
theorem ve_cmp {op : CmpOp} {r : R2} {k : Val → Val → Option Val} (ho : OpR X (compareOp op) r) (o : OpV cm r k) (ha : VE X cm a f) (hb : VE X cm b g) (hm : behindInMarks op b = false) : VE X cm (.Compare a [op] [b] pos) (bin2 k f g) := (pe_cmpR ho ha hb hm).weak (tV_two o)
def isB : Val → Option Bool
  | .bl b => some b
  | _ => none
def tst (f : En → Option Val) : En → Option Bool := fun env => (f env).bind isB
theorem isB_some {x : Val} {k : Bool} (h : isB x = some k) : x = .bl k := by
  cases x <;> cases h
  rfl
theorem tV_test (σ : L2.St) (H : Hp) (Q : Bool → Hp → Prop) (q : tVT cm (tst f) σ H Q) : ∀ R : VK, (∀ k H', Q k H' → R (.bl k) H') → tV cm f σ H R := fun R hR => by
  obtain ⟨P, env, k, hs, hf, q⟩ := q
  unfold tst at hf
  obtain ⟨x, ex, hf⟩ := Option.bind_eq_some_iff.mp hf
  cases isB_some hf
  refine ⟨P, env, _, hs, ex, fun v H1 s1 r1 => ?_⟩
  cases r1
  exact hR _ _ (q H1 s1)
theorem vt_cmp {op : CmpOp} {r : R2} {k : Val → Val → Option Val} (ho : OpR X (compareOp op) r) (o : OpV cm r k) (ha : VE X cm a f) (hb : VE X cm b g) (hm : behindInMarks op b = false) : VT X cm (.Compare a [op] [b] pos) (tst (bin2 k f g)) :=
  (pt_cmpR ho ha hb hm).weak fun σ H Q q => tV_two o σ H _ (tV_test σ H Q q _ fun k H' q => ⟨k, rfl, q⟩)
theorem vt_val (h : VE X cm e f) (he : ∀ whole, isTrue e X.env whole = (do let v ← whole; standAt e.pos; holding [v] (truthy v)) := by intro _; rfl) : VT X cm e (tst f) :=
  (pt_val h he).weak fun σ H Q q => tV_test σ H Q q _ fun k H' q => ⟨k, rfl, q⟩
/-! ### and, or, not; one or the other -/
def andF (f g : En → Option Val) : En → Option Val := fun env => (f env).bind fun x => (isB x).bind fun k => if k = true then g env else some (.bl false)
def orF (f g : En → Option Val) : En → Option Val := fun env => (f env).bind fun x => (isB x).bind fun k => if k = true then some (.bl true) else g env
def notF (f : En → Option Val) : En → Option Val := fun env => (f env).bind fun x => (isB x).bind fun k => some (.bl (!k))
theorem ve_one {op} (h : VE X cm a f) : VE X cm (.BoolOp op [a] pos) f := pe_one h
theorem ve_and {rest : List Expr} (ha : VE X cm a f) (hb : VE X cm (.BoolOp .And (b :: rest) pos) g) : VE X cm (.BoolOp .And (a :: b :: rest) pos) (andF f g) :=
  (pe_and ha hb).weak fun σ H Q ⟨P, env, z, hs, hf, q⟩ => by
    unfold andF at hf
    obtain ⟨x, ex, h1⟩ := Option.bind_eq_some_iff.mp hf
    obtain ⟨k, ek, h2⟩ := Option.bind_eq_some_iff.mp h1
    clear hf h1
    cases isB_some ek
    refine ⟨P, env, _, hs, ex, fun v H1 s1 r1 => ?_⟩
    cases r1
    refine ⟨k, rfl, ?_⟩
    by_cases c : k = true
    · rw [if_pos c] at h2 ⊢
      exact ⟨P, env, z, hs.same s1, h2, fun v H2 s2 r2 => q v H2 (s1.trans s2) r2⟩
    · rw [if_neg c] at h2 ⊢
      cases h2
      exact q _ H1 s1 (.bl false)
theorem ve_or {rest : List Expr} (ha : VE X cm a f) (hb : VE X cm (.BoolOp .Or (b :: rest) pos) g) : VE X cm (.BoolOp .Or (a :: b :: rest) pos) (orF f g) :=
  (pe_or ha hb).weak fun σ H Q ⟨P, env, z, hs, hf, q⟩ => by
    unfold orF at hf
    obtain ⟨x, ex, h1⟩ := Option.bind_eq_some_iff.mp hf
    obtain ⟨k, ek, h2⟩ := Option.bind_eq_some_iff.mp h1
    clear hf h1
    cases isB_some ek
    refine ⟨P, env, _, hs, ex, fun v H1 s1 r1 => ?_⟩
    cases r1
    refine ⟨k, rfl, ?_⟩
    by_cases c : k = true
    · rw [if_pos c] at h2 ⊢
      cases h2
      exact q _ H1 s1 (.bl true)
    · rw [if_neg c] at h2 ⊢
      exact ⟨P, env, z, hs.same s1, h2, fun v H2 s2 r2 => q v H2 (s1.trans s2) r2⟩
theorem ve_not (ha : VE X cm a f) : VE X cm (.UnaryOp .Not a pos) (notF f) :=
  (pe_not ha).weak fun σ H Q ⟨P, env, z, hs, hf, q⟩ => by
    unfold notF at hf
    obtain ⟨x, ex, h1⟩ := Option.bind_eq_some_iff.mp hf
    obtain ⟨k, ek, h2⟩ := Option.bind_eq_some_iff.mp h1
    clear hf h1
    cases isB_some ek
    cases h2
    refine ⟨P, env, _, hs, ex, fun v H1 s1 r1 => ?_⟩
    cases r1
    exact ⟨k, rfl, q _ H1 s1 (.bl _)⟩
abbrev VW (X : Cx) (cm : Cm) (e : Expr) (f : En → Option Bool) : Prop := PW X e (tVT cm f)
theorem _root_.L2.PW.weak {t t' : TT} (h : PW X e t) (k : ∀ σ H Q, t' σ H Q → t σ H Q) : PW X e t' := ⟨fun wh pins s σ H Q I q => h.run wh pins s σ H Q I (k σ H Q q)⟩
def andT (f g : En → Option Bool) : En → Option Bool := fun env => (f env).bind fun k => if k = true then g env else some false
def orT (f g : En → Option Bool) : En → Option Bool := fun env => (f env).bind fun k => if k = true then some true else g env
def notT (f : En → Option Bool) : En → Option Bool := fun env => (f env).bind fun k => some (!k)
theorem vw_and1 {f : En → Option Bool} (ha : VT X cm a f) : VW X cm (.BoolOp .And [a] pos) f := pw_and1 ha
theorem vw_or1 {f : En → Option Bool} (ha : VT X cm a f) : VW X cm (.BoolOp .Or [a] pos) f := pw_or1 ha
theorem vw_and {f g : En → Option Bool} {rest : List Expr} (ha : VT X cm a f) (hb : VW X cm (.BoolOp .And (b :: rest) pos) g) : VW X cm (.BoolOp .And (a :: b :: rest) pos) (andT f g) :=
  (pw_and ha hb).weak fun σ H Q ⟨P, env, z, hs, hf, q⟩ => by
    unfold andT at hf
    obtain ⟨k, ek, hf⟩ := Option.bind_eq_some_iff.mp hf
    refine ⟨P, env, k, hs, ek, fun H1 s1 => ?_⟩
    by_cases c : k = true
    · rw [if_pos c] at hf ⊢
      exact ⟨P, env, z, hs.same s1, hf, fun H2 s2 => q H2 (s1.trans s2)⟩
    · rw [if_neg c] at hf ⊢
      cases hf
      exact q H1 s1
theorem vw_or {f g : En → Option Bool} {rest : List Expr} (ha : VT X cm a f) (hb : VW X cm (.BoolOp .Or (b :: rest) pos) g) : VW X cm (.BoolOp .Or (a :: b :: rest) pos) (orT f g) :=
  (pw_or ha hb).weak fun σ H Q ⟨P, env, z, hs, hf, q⟩ => by
    unfold orT at hf
    obtain ⟨k, ek, hf⟩ := Option.bind_eq_some_iff.mp hf
    refine ⟨P, env, k, hs, ek, fun H1 s1 => ?_⟩
    by_cases c : k = true
    · rw [if_pos c] at hf ⊢
      cases hf
      exact q H1 s1
    · rw [if_neg c] at hf ⊢
      exact ⟨P, env, z, hs.same s1, hf, fun H2 s2 => q H2 (s1.trans s2)⟩
theorem vt_not {f : En → Option Bool} (ha : VT X cm a f) : VT X cm (.UnaryOp .Not a pos) (notT f) :=
  (pt_not ha).weak fun σ H Q ⟨P, env, z, hs, hf, q⟩ => by
    unfold notT at hf
    obtain ⟨k, ek, hf⟩ := Option.bind_eq_some_iff.mp hf
    cases hf
    exact ⟨P, env, k, hs, ek, fun H1 s1 => q H1 s1⟩
def iteF (c : En → Option Bool) (f g : En → Option Val) : En → Option Val := fun env => (c env).bind fun k => if k = true then f env else g env
theorem ve_ite {k : En → Option Bool} (hc : VT X cm c k) (ha : VE X cm a f) (hb : VE X cm b g) : VE X cm (.IfExp c a b pos) (iteF k f g) :=
  (pe_ifExp hc ha hb).weak fun σ H Q ⟨P, env, z, hs, hf, q⟩ => by
    unfold iteF at hf
    obtain ⟨k, ek, hf⟩ := Option.bind_eq_some_iff.mp hf
    refine ⟨P, env, k, hs, ek, fun H1 s1 => ?_⟩
    by_cases c : k = true
    · rw [if_pos c] at hf ⊢
      exact ⟨P, env, z, hs.same s1, hf, fun v H2 s2 => q v H2 (s1.trans s2)⟩
    · rw [if_neg c] at hf ⊢
      exact ⟨P, env, z, hs.same s1, hf, fun v H2 s2 => q v H2 (s1.trans s2)⟩
/-! ### lists of arguments, tuples, lists -/
def noF : En → Option (List Val) := fun _ => some []
def consF (f : En → Option Val) (g : En → Option (List Val)) : En → Option (List Val) := fun env => (f env).bind fun x => (g env).bind fun xs => some (x :: xs)
theorem va_nil : VA X cm [] noF := pa_nil.weak fun σ H Q ⟨P, env, z, hs, hf, q⟩ => by
  cases hf
  exact q [] H (Same.refl H) .nil
theorem va_cons {k : En → Option (List Val)} (ha : VE X cm e f) (hr : VA X cm es k) (hs : starEach (e :: es) X.env = (false, eval e X.env) :: starEach es X.env := by rfl) : VA X cm (e :: es) (consF f k) :=
  (pa_cons ha hr hs).weak fun σ H Q ⟨P, env, z, hs, hf, q⟩ => by
    unfold consF at hf
    obtain ⟨x, ex, hf⟩ := Option.bind_eq_some_iff.mp hf
    obtain ⟨xs, ey, hf⟩ := Option.bind_eq_some_iff.mp hf
    cases hf
    exact ⟨P, env, x, hs, ex, fun v H1 s1 r1 => ⟨P, env, xs, hs.same s1, ey, fun vs H2 s2 r2 => q (v :: vs) H2 (s1.trans s2) (.cons (r1.same s2) r2)⟩⟩
/-- a new place, not hidden -/
def most : Nat := 100000
theorem most_line {n : Nat} (h : n ≤ most) : n < sizeLine := by
  unfold most at h
  rw [sizeLine_eq]
  omega
def tupF (g : En → Option (List Val)) : En → Option Val := fun env => (g env).bind fun xs => if xs.length ≤ most then some (.tup xs) else none
def lstF (g : En → Option (List Val)) : En → Option Val := fun env => (g env).bind fun xs => if xs.length ≤ most then some (.lst xs) else none
end
end Up

namespace Up
open PySem PySem.Spec PyProof.Rows L2
section
variable {cm : Cm} {P : Addr → Prop} {H : Hp}
theorem Re.int_ {v : V} {i : Int} (h : Re cm P H v (.int i)) : v = .int i := by cases h; rfl
theorem Re.bl_ {v : V} {k : Bool} (h : Re cm P H v (.bl k)) : v = .bl k := by cases h; rfl
theorem Re.str_ {v : V} {z : Str} (h : Re cm P H v (.str z)) : v = .str z := by cases h; rfl
theorem Re.non_ {v : V} (h : Re cm P H v .non) : v = .non := by cases h; rfl
theorem Re.lst_ {v : V} {xs : List Val} (h : Re cm P H v (.lst xs)) : ∃ a vs, v = .ref a ∧ ¬ P a ∧ H a = some (.lst vs) ∧ Res cm P H vs xs := by
  cases h with
  | lst n e r => exact ⟨_, _, rfl, n, e, r⟩
theorem Re.tup_ {v : V} {xs : List Val} (h : Re cm P H v (.tup xs)) : ∃ a vs, v = .ref a ∧ ¬ P a ∧ H a = some (.tup vs) ∧ Res cm P H vs xs := by
  cases h with
  | tup n e r => exact ⟨_, _, rfl, n, e, r⟩
theorem Res.one {vs : List V} {x : Val} (h : Res cm P H vs [x]) : ∃ v, vs = [v] ∧ Re cm P H v x := by
  cases h with
  | cons r t =>
    cases t
    exact ⟨_, rfl, r⟩
theorem Res.two {vs : List V} {x y : Val} (h : Res cm P H vs [x, y]) : ∃ v u, vs = [v, u] ∧ Re cm P H v x ∧ Re cm P H u y := by
  cases h with
  | cons r t =>
    obtain ⟨u, rfl, r2⟩ := Res.one t
    exact ⟨_, _, rfl, r, r2⟩
end
/-! ### operators -/
section
variable {cm : Cm}
def iop (g : Int → Int → Val) : Val → Val → Option Val
  | .int i, .int j => some (g i j)
  | _, _ => none
theorem iop_some {g : Int → Int → Val} {x y z : Val} (h : iop g x y = some z) : ∃ i j, x = .int i ∧ y = .int j ∧ z = g i j := by
  unfold iop at h
  split at h
  · cases h
    exact ⟨_, _, rfl, rfl, rfl⟩
  · cases h
theorem ov_I0 {g : Int → Int → V} {k : Int → Int → Val} (hk : ∀ i j (P : Addr → Prop) (H : Hp), Re cm P H (g i j) (k i j)) : OpV cm (rI0 g) (iop k) := fun P x y z v u H Q e rx ry q => by
  obtain ⟨i, j, rfl, rfl, rfl⟩ := iop_some e
  cases rx.int_
  cases ry.int_
  exact ⟨i, j, rfl, rfl, q _ H (Same.refl H) (hk i j P H)⟩
theorem ov_add : OpV cm (rI0 fun i j => .int (i + j)) (iop fun i j => .int (i + j)) := ov_I0 fun i j P H => .int _
theorem ov_sub : OpV cm (rI0 fun i j => .int (i - j)) (iop fun i j => .int (i - j)) := ov_I0 fun i j P H => .int _
theorem ov_lt : OpV cm (rI0 fun i j => .bl (decide (i < j))) (iop fun i j => .bl (decide (i < j))) := ov_I0 fun i j P H => .bl _
theorem ov_le : OpV cm (rI0 fun i j => .bl (decide (i ≤ j))) (iop fun i j => .bl (decide (i ≤ j))) := ov_I0 fun i j P H => .bl _
theorem ov_gt : OpV cm (rI0 fun i j => .bl (decide (j < i))) (iop fun i j => .bl (decide (j < i))) := ov_I0 fun i j P H => .bl _
theorem ov_ge : OpV cm (rI0 fun i j => .bl (decide (j ≤ i))) (iop fun i j => .bl (decide (j ≤ i))) := ov_I0 fun i j P H => .bl _
/-- with a condition on the ints -/
def iopC (c : Int → Int → Bool) (g : Int → Int → Val) : Val → Val → Option Val
  | .int i, .int j => if c i j = true then some (g i j) else none
  | _, _ => none
theorem ov_IC {C : Int → Int → Prop} {c : Int → Int → Bool} {g : Int → Int → V} {k : Int → Int → Val} (hc : ∀ i j, c i j = true → C i j) (hk : ∀ i j (P : Addr → Prop) (H : Hp), Re cm P H (g i j) (k i j)) : OpV cm (rI C g) (iopC c k) := fun P x y z v u H Q e rx ry q => by
  unfold iopC at e
  split at e
  · split at e
    · cases e
      cases rx.int_
      cases ry.int_
      exact ⟨_, _, rfl, rfl, hc _ _ (by assumption), q _ H (Same.refl H) (hk _ _ P H)⟩
    · cases e
  · cases e
theorem ov_mul : OpV cm (rI CMul fun i j => .int (i * j)) (iopC (fun i j => decide (-(2 ^ 64) < i ∧ i < 2 ^ 64)) fun i j => .int (i * j)) := ov_IC (fun i j h => .inl (of_decide_eq_true h)) fun i j P H => .int _
theorem ov_mod : OpV cm (rI (fun _ j => 0 < j) fun i j => .int (i % j)) (iopC (fun _ j => decide (0 < j)) fun i j => .int (i % j)) := ov_IC (fun i j h => of_decide_eq_true h) fun i j P H => .int _
theorem ov_fdiv : OpV cm (rI CDiv fun i j => .int (i / j)) (iopC (fun _ j => decide (0 < j ∧ j < 1073741824)) fun i j => .int (i / j)) := ov_IC (fun i j h => (show 0 < j ∧ j < 1073741824 from of_decide_eq_true h)) fun i j P H => .int _
def isNV (neg : Bool) : Val → Val → Option Val
  | .non, .non => some (.bl (!neg))
  | _, .non => some (.bl neg)
  | _, _ => none
theorem Re.non_iff {P : Addr → Prop} {H : Hp} {v : V} {x : Val} (h : Re cm P H v x) : v = .non ↔ x = .non := by
  cases h <;> simp
theorem isNV_some {neg : Bool} {x y z : Val} (h : isNV neg x y = some z) : y = .non ∧ ((x = .non ∧ z = .bl (!neg)) ∨ (x ≠ .non ∧ z = .bl neg)) := by
  unfold isNV at h
  split at h
  · cases h
    exact ⟨rfl, .inl ⟨rfl, rfl⟩⟩
  · cases h
    refine ⟨rfl, .inr ⟨fun z => ?_, rfl⟩⟩
    subst z
    simp_all
  · cases h
theorem ov_isN : OpV cm (fun x y H Q => y = .non ∧ Q (.bl (decide (x = .non))) H) (isNV false) := fun P x y z v u H Q e rx ry q => by
  obtain ⟨rfl, h⟩ := isNV_some e
  refine ⟨ry.non_, ?_⟩
  rcases h with ⟨h, rfl⟩ | ⟨h, rfl⟩
  · rw [decide_eq_true (rx.non_iff.mpr h)]
    exact q _ H (Same.refl H) (.bl _)
  · rw [decide_eq_false fun c => h (rx.non_iff.mp c)]
    exact q _ H (Same.refl H) (.bl _)
theorem ov_notN : OpV cm (fun x y H Q => y = .non ∧ Q (.bl (!decide (x = .non))) H) (isNV true) := fun P x y z v u H Q e rx ry q => by
  obtain ⟨rfl, h⟩ := isNV_some e
  refine ⟨ry.non_, ?_⟩
  rcases h with ⟨h, rfl⟩ | ⟨h, rfl⟩
  · rw [decide_eq_true (rx.non_iff.mpr h)]
    exact q _ H (Same.refl H) (.bl _)
  · rw [decide_eq_false fun c => h (rx.non_iff.mp c)]
    exact q _ H (Same.refl H) (.bl _)
/-! data: == and != -/
mutual
def dataV : Val → Option PyData
  | .non => some .none
  | .bl b => some (.bool b)
  | .int i => some (.int i)
  | .str x => some (.str x)
  | .lst xs => (dataVs xs).map .list
  | .tup xs => (dataVs xs).map .tuple
  | _ => none
def dataVs : List Val → Option (List PyData)
  | [] => some []
  | x :: xs => (dataV x).bind fun d => (dataVs xs).bind fun ds => some (d :: ds)
end
theorem Rep.data {K : PySem.W.Frag} {P : Addr → Prop} {H : Hp} : ∀ {b : Bool} {vs : List V} {xs : List Val}, Rep cm P H b vs xs →
    (b = true → ∀ v x d, vs = [v] → xs = [x] → dataV x = some d → Dp K H v d) ∧ (b = false → ∀ ds, dataVs xs = some ds → DpAll K H vs ds) := fun h => by
  induction h with
  | nil => exact ⟨(fun e => nomatch e), fun _ ds e => by rw [dataVs] at e; cases e; exact .nil⟩
  | cons r t i1 i2 =>
    refine ⟨(fun e => nomatch e), fun _ ds e => ?_⟩
    rw [dataVs] at e
    obtain ⟨d, e1, e⟩ := Option.bind_eq_some_iff.mp e
    obtain ⟨ds', e2, e⟩ := Option.bind_eq_some_iff.mp e
    cases e
    exact .cons (i1.1 rfl _ _ _ rfl rfl e1) (i2.2 rfl _ e2)
  | non => exact ⟨fun _ v x d h1 h2 e => by cases h1; cases h2; rw [dataV] at e; cases e; exact .non, (fun e => nomatch e)⟩
  | bl b => exact ⟨fun _ v x d h1 h2 e => by cases h1; cases h2; rw [dataV] at e; cases e; exact .bl _, (fun e => nomatch e)⟩
  | int i => exact ⟨fun _ v x d h1 h2 e => by cases h1; cases h2; rw [dataV] at e; cases e; exact .int _, (fun e => nomatch e)⟩
  | str z => exact ⟨fun _ v x d h1 h2 e => by cases h1; cases h2; rw [dataV] at e; cases e; exact .str _, (fun e => nomatch e)⟩
  | lst n hh r ih =>
    refine ⟨fun _ v x d h1 h2 e => ?_, (fun e => nomatch e)⟩
    cases h1
    cases h2
    rw [dataV] at e
    obtain ⟨ds, e1, rfl⟩ := Option.map_eq_some_iff.mp e
    exact .lst (.inl (.inl hh)) (ih.2 rfl _ e1)
  | tup n hh r ih =>
    refine ⟨fun _ v x d h1 h2 e => ?_, (fun e => nomatch e)⟩
    cases h1
    cases h2
    rw [dataV] at e
    obtain ⟨ds, e1, rfl⟩ := Option.map_eq_some_iff.mp e
    exact .tup (.inl (.inl hh)) (ih.2 rfl _ e1)
  | dct n hh l1 l2 g1 g2 r ih =>
    refine ⟨fun _ v x d h1 h2 e => ?_, (fun e => nomatch e)⟩
    cases h1
    cases h2
    simp [dataV] at e
  | ins n hh r ih =>
    refine ⟨fun _ v x d h1 h2 e => ?_, (fun e => nomatch e)⟩
    cases h1
    cases h2
    simp [dataV] at e
  | set n hh k1 k2 =>
    refine ⟨fun _ v x d h1 h2 e => ?_, (fun e => nomatch e)⟩
    cases h1
    cases h2
    simp [dataV] at e
  | dk0 n hh =>
    refine ⟨fun _ v x d h1 h2 e => ?_, (fun e => nomatch e)⟩
    cases h1
    cases h2
    simp [dataV] at e
  | exc n hh k1 k2 r ih =>
    refine ⟨fun _ v x d h1 h2 e => ?_, (fun e => nomatch e)⟩
    cases h1
    cases h2
    simp [dataV] at e
  | loc a =>
    refine ⟨fun _ v x d h1 h2 e => ?_, (fun e => nomatch e)⟩
    cases h1
    cases h2
    simp [dataV] at e
theorem Re.data {K : PySem.W.Frag} {P : Addr → Prop} {H : Hp} {v : V} {x : Val} {d : PyData} (h : Re cm P H v x) (e : dataV x = some d) : Dp K H v d := (Rep.data h).1 rfl _ _ _ rfl rfl e
def eqF (neg : Bool) (x y : Val) : Option Val := (dataV x).bind fun d => (dataV y).bind fun e => if (SeqAt.shaped d && SeqAt.shaped e) = true then some (.bl (if neg then !PyData.eqv d e else PyData.eqv d e)) else none
theorem eqF_some {neg : Bool} {x y z : Val} (h : eqF neg x y = some z) : ∃ d e, dataV x = some d ∧ dataV y = some e ∧ SeqAt.shaped d = true ∧ SeqAt.shaped e = true ∧ z = .bl (if neg then !PyData.eqv d e else PyData.eqv d e) := by
  unfold eqF at h
  obtain ⟨d, e1, h⟩ := Option.bind_eq_some_iff.mp h
  obtain ⟨e, e2, h⟩ := Option.bind_eq_some_iff.mp h
  split at h
  · cases h
    have c : (SeqAt.shaped d && SeqAt.shaped e) = true := by assumption
    rw [Bool.and_eq_true] at c
    exact ⟨d, e, e1, e2, c.1, c.2, rfl⟩
  · cases h
theorem ov_eq {K : PySem.W.Frag} : OpV cm (rEqD K) (eqF false) := fun P x y z v u H Q e rx ry q => by
  obtain ⟨d, d2, e1, e2, s1, s2, rfl⟩ := eqF_some e
  exact ⟨d, d2, rx.data e1, ry.data e2, s1, s2, q _ H (Same.refl H) (.bl _)⟩
theorem ov_ne {K : PySem.W.Frag} : OpV cm (rNeD K) (eqF true) := fun P x y z v u H Q e rx ry q => by
  obtain ⟨d, d2, e1, e2, s1, s2, rfl⟩ := eqF_some e
  exact ⟨d, d2, rx.data e1, ry.data e2, s1, s2, q _ H (Same.refl H) (.bl _)⟩
/-! flat things: in, not in; keys -/
def flatOf : Val → Option V
  | .non => some .non
  | .bl b => some (.bl b)
  | .int i => some (.int i)
  | .str x => some (.str x)
  | _ => none
theorem flatOf_re {P : Addr → Prop} {H : Hp} {v w : V} {x : Val} (h : Re cm P H v x) (e : flatOf x = some w) : v = w ∧ flatV v = true := by
  cases h <;> cases e <;> exact ⟨rfl, rfl⟩
def flats : List Val → Option (List V)
  | [] => some []
  | x :: xs => (flatOf x).bind fun v => (flats xs).bind fun vs => some (v :: vs)
theorem flats_re {P : Addr → Prop} {H : Hp} : ∀ {vs ws : List V} {xs : List Val}, Res cm P H vs xs → flats xs = some ws → vs = ws ∧ vs.all flatV = true
  | _, _, _, .nil, e => by
    cases e
    exact ⟨rfl, rfl⟩
  | _, _, _, .cons r t, e => by
    unfold flats at e
    obtain ⟨w, e1, e⟩ := Option.bind_eq_some_iff.mp e
    obtain ⟨ws, e2, e⟩ := Option.bind_eq_some_iff.mp e
    cases e
    obtain ⟨rfl, k1⟩ := flatOf_re r e1
    obtain ⟨rfl, k2⟩ := flats_re t e2
    exact ⟨rfl, by rw [List.all_cons, k1, k2]; rfl⟩
def itemsOf : Val → Option (List Val)
  | .lst xs => some xs
  | .tup xs => some xs
  | _ => none
theorem itemsOf_re {K : PySem.W.Frag} {P : Addr → Prop} {H : Hp} {v : V} {x : Val} {xs : List Val} (h : Re cm P H v x) (e : itemsOf x = some xs) : ∃ p vs, v = .ref p ∧ (SqL K H p vs ∨ SqT K H p vs) ∧ Res cm P H vs xs := by
  cases h <;> cases e
  · exact ⟨_, _, rfl, .inl (.inl (.inl (by assumption))), by assumption⟩
  · exact ⟨_, _, rfl, .inr (.inl (.inl (by assumption))), by assumption⟩
def inF (neg : Bool) (x y : Val) : Option Val := (flatOf x).bind fun v => (itemsOf y).bind fun ys => (flats ys).bind fun ws => some (.bl (if neg then !inV v ws else inV v ws))
theorem ov_in {K : PySem.W.Frag} {neg : Bool} : OpV cm (rIn K neg) (inF neg) := fun P x y z v u H Q e rx ry q => by
  unfold inF at e
  obtain ⟨w, e1, e⟩ := Option.bind_eq_some_iff.mp e
  obtain ⟨ys, e2, e⟩ := Option.bind_eq_some_iff.mp e
  obtain ⟨ws, e3, e⟩ := Option.bind_eq_some_iff.mp e
  cases e
  obtain ⟨rfl, f1⟩ := flatOf_re rx e1
  obtain ⟨p, vs, rfl, hs, rs⟩ := itemsOf_re (K := K) ry e2
  obtain ⟨rfl, f2⟩ := flats_re rs e3
  exact ⟨p, vs, rfl, hs, f1, f2, q _ H (Same.refl H) (.bl _)⟩
/-! subscripts -/
theorem atI_re {P : Addr → Prop} {H : Hp} {vs : List V} {xs : List Val} {i : Int} {x : Val} (h : Res cm P H vs xs) (e : atI xs i = some x) : ∃ v, atI vs i = some v ∧ Re cm P H v x := by
  unfold atI at e ⊢
  rw [h.length]
  obtain ⟨j, e1, e2⟩ := Option.bind_eq_some_iff.mp e
  obtain ⟨v, h1, h2⟩ := h.get e2
  exact ⟨v, by rw [e1]; exact h1, h2⟩
def ixL : Val → Val → Option Val
  | .lst xs, .int i => atI xs i
  | _, _ => none
def ixT : Val → Val → Option Val
  | .tup xs, .int i => atI xs i
  | _, _ => none
theorem ov_ixL {K : PySem.W.Frag} : OpV cm (rIxL K) ixL := fun P x y z v u H Q e rx ry q => by
  unfold ixL at e
  split at e
  · obtain ⟨a, vs, rfl, n, h, r⟩ := rx.lst_
    cases ry.int_
    obtain ⟨w, h1, h2⟩ := atI_re r e
    exact ⟨a, vs, _, w, rfl, rfl, .inl (.inl h), h1, q _ H (Same.refl H) h2⟩
  · cases e
theorem ov_ixT {K : PySem.W.Frag} : OpV cm (rIxT K) ixT := fun P x y z v u H Q e rx ry q => by
  unfold ixT at e
  split at e
  · obtain ⟨a, vs, rfl, n, h, r⟩ := rx.tup_
    cases ry.int_
    obtain ⟨w, h1, h2⟩ := atI_re r e
    exact ⟨a, vs, _, w, rfl, rfl, .inl (.inl h), h1, q _ H (Same.refl H) h2⟩
  · cases e
def keyOf : Val → Option Key
  | .int i => some (.inl i)
  | .str x => some (.inr x)
  | _ => none
def keysOf : List Val → Option (List Key)
  | [] => some []
  | x :: xs => (keyOf x).bind fun k => (keysOf xs).bind fun ks => some (k :: ks)
theorem keysOf_re {P : Addr → Prop} {H : Hp} : ∀ {vs : List V} {xs : List Val} {ks : List Key}, Res cm P H vs xs → keysOf xs = some ks → vs = ks.map kV
  | _, _, _, .nil, e => by
    cases e
    rfl
  | _, _, _, .cons r t, e => by
    unfold keysOf at e
    obtain ⟨k, e1, e⟩ := Option.bind_eq_some_iff.mp e
    obtain ⟨ks, e2, e⟩ := Option.bind_eq_some_iff.mp e
    cases e
    rw [keysOf_re t e2]
    cases r <;> cases e1 <;> rfl
def tkey : Val → Option (List Key)
  | .tup xs => keysOf xs
  | _ => none
theorem tkey_re {P : Addr → Prop} {H : Hp} {v : V} {x : Val} {k : List Key} (h : Re cm P H v x) (e : tkey x = some k) : ∃ b, v = .ref b ∧ H b = some (.tup (k.map kV)) := by
  unfold tkey at e
  split at e
  · obtain ⟨a, vs, rfl, n, hh, r⟩ := h.tup_
    exact ⟨a, rfl, by rw [hh, keysOf_re r e]⟩
  · cases e
def lookK (k : List Key) : List (List Key) → List Val → Option Val
  | k' :: ks, x :: xs => if k' = k then some x else lookK k ks xs
  | _, _ => none
theorem lookK_re {P : Addr → Prop} {H : Hp} {k : List Key} : ∀ {ks : List (List Key)} {vs : List V} {xs : List Val} {x : Val}, Res cm P H vs xs → lookK k ks xs = some x → ∃ (i : Nat) (v : V), ks[i]? = some k ∧ vs[i]? = some v ∧ Re cm P H v x
  | [], _, _, _, _, e => by cases e
  | k' :: ks, _, _, _, .nil, e => by cases e
  | k' :: ks, _, _, _, .cons r t, e => by
    unfold lookK at e
    by_cases c : k' = k
    · rw [if_pos c] at e
      cases e
      exact ⟨0, _, by rw [c]; rfl, rfl, r⟩
    · rw [if_neg c] at e
      obtain ⟨i, v, h1, h2, h3⟩ := lookK_re t e
      exact ⟨i + 1, v, h1, h2, h3⟩
theorem lookK_none {k : List Key} : ∀ {ks : List (List Key)} {xs : List Val}, xs.length = ks.length → lookK k ks xs = none → k ∉ ks
  | [], _, _, _ => by simp
  | k' :: ks, [], l, _ => by simp at l
  | k' :: ks, x :: xs, l, e => by
    unfold lookK at e
    by_cases c : k' = k
    · rw [if_pos c] at e
      cases e
    · rw [if_neg c] at e
      intro h
      rcases List.mem_cons.mp h with z | z
      · exact c z.symm
      · exact lookK_none (by simpa using l) e z
def ixD : Val → Val → Option Val
  | .dct ks xs, y => (tkey y).bind fun k => lookK k ks xs
  | _, _ => none
def rDGet : R2 := fun x y H Q => ∃ a v, x = .ref a ∧ DGet H a y (some v) ∧ Q v H
theorem ov_ixD : OpV cm rDGet ixD := fun P x y z v u H Q e rx ry q => by
  unfold ixD at e
  split at e
  · obtain ⟨k, e1, e2⟩ := Option.bind_eq_some_iff.mp e
    obtain ⟨b, rfl, hb⟩ := tkey_re ry e1
    cases rx with
    | dct n hh l1 l2 g1 g2 r =>
      obtain ⟨i, w, h1, h2, h3⟩ := lookK_re r e2
      refine ⟨_, w, rfl, ?_, q _ H (Same.refl H) h3⟩
      rw [← g1 i k w h1 h2]
      exact .t hh hb
  · cases e
end
section
variable {X : Cx} {cm : Cm} {a b c e : Expr} {es : List Expr} {f g h : En → Option Val} {pos : Pos}
theorem ve_ix {r : R2} {k : Val → Val → Option Val} (hr : IxR X r) (o : OpV cm r k) (ha : VE X cm a f) (hb : VE X cm b g) (hs : PlainIx b) : VE X cm (.Subscript a b pos) (bin2 k f g) := (pe_ix hr ha hb hs).weak (tV_two o)
theorem ve_dget (hu : X.A.units + 1 < cLine) (ha : VE X cm a f) (hb : VE X cm b g) (hs : NoSl b) : VE X cm (.Subscript a b pos) (bin2 ixD f g) := (pe_dget hu ha hb hs).weak (tV_two (ov_ixD (cm := cm)))
/-! displays -/
theorem ve_tup {x1} {k : En → Option (List Val)} (h : VA X cm es k) : VE X cm (.Tuple es x1 pos) (tupF k) := (pe_tup h).weak fun σ H Q ⟨P, env, z, hs, hf, q⟩ => by
  unfold tupF at hf
  obtain ⟨xs, ex, hf⟩ := Option.bind_eq_some_iff.mp hf
  split at hf
  · cases hf
    have l : xs.length ≤ most := by assumption
    refine ⟨P, env, xs, hs, ex, fun vs H1 s1 r1 => ⟨by rw [r1.length]; exact Nat.le_of_lt (most_line l), fun p np => ?_⟩⟩
    have s2 : Same H1 (upd H1 p (.tup vs)) := fun b o eb => by rw [upd_ne (ne_of_none eb np)]; exact eb
    exact q _ _ (s1.trans s2) (.tup ((hs.hid.same s1).new np) upd_same (r1.same s2))
  · cases hf
theorem ve_lst {k : En → Option (List Val)} (h : VA X cm es k) : VE X cm (.List es pos) (lstF k) := (pe_lst h).weak fun σ H Q ⟨P, env, z, hs, hf, q⟩ => by
  unfold lstF at hf
  obtain ⟨xs, ex, hf⟩ := Option.bind_eq_some_iff.mp hf
  split at hf
  · cases hf
    have l : xs.length ≤ most := by assumption
    refine ⟨P, env, xs, hs, ex, fun vs H1 s1 r1 => ⟨by rw [r1.length]; exact Nat.le_of_lt (most_line l), fun p np => ?_⟩⟩
    have s2 : Same H1 (upd H1 p (.lst vs)) := fun b o eb => by rw [upd_ne (ne_of_none eb np)]; exact eb
    exact q _ _ (s1.trans s2) (.lst ((hs.hid.same s1).new np) upd_same (r1.same s2))
  · cases hf
/-! calls of what is built in, by values -/
def CaV (cm : Cm) (r : List V → Hp → VK → Prop) (op : List Val → Option Val) : Prop := ∀ (P : Addr → Prop) (xs : List Val) (z : Val) (vs : List V) (H : Hp) (Q : VK), Hid P H → op xs = some z → Res cm P H vs xs → (∀ v' H', Same H H' → Re cm P H' v' z → Q v' H') → r vs H Q
def appF (op : List Val → Option Val) (k : En → Option (List Val)) : En → Option Val := fun env => (k env).bind op
theorem tV_call {r : List V → Hp → VK → Prop} {op : List Val → Option Val} {k : En → Option (List Val)} (o : CaV cm r op) (σ : L2.St) (H : Hp) (Q : VK) (q : tV cm (appF op k) σ H Q) : tCB r (tVA cm k) σ H Q := by
  obtain ⟨P, env, z, hs, hf, q⟩ := q
  obtain ⟨xs, ex, hf⟩ := Option.bind_eq_some_iff.mp hf
  exact ⟨P, env, xs, hs, ex, fun vs H1 s1 r1 => o P xs z vs H1 Q (hs.hid.same s1) hf r1 fun v' H2 s2 r2 => q v' H2 (s1.trans s2) r2⟩
theorem ve_callB {id : String} {r : List V → Hp → VK → Prop} {op : List Val → Option Val} {k : En → Option (List Val)} {x : Str} {p : Pos} (hc : CallR X (.builtin id) r) (o : CaV cm r op) (hg : Gl X x) (hm : X.mg x = none) (hv : bootBuiltins x = some (.builtin id)) (ha : VA X cm (e :: es) k)
    (hn : x ≠ "__name__" := by decide) (hdb : (x == ("__debug__" : Str)) = false := by decide) (he : starEach (e :: es) X.env = (false, eval e X.env) :: starEach es X.env := by rfl) (hpl : (backTo pos (starEach es X.env)).any (·.1) = false := by rfl) :
    VE X cm (.Call (.Name x p) (e :: es) [] pos) (appF op k) := (pe_callB hc hg hm hv ha hn hdb he hpl).weak (tV_call o)
theorem ve_callTy {T : String} {r : List V → Hp → VK → Prop} {op : List Val → Option Val} {k : En → Option (List Val)} {x : Str} {p : Pos} (hc : CallR X (.type T) r) (o : CaV cm r op) (hg : Gl X x) (hm : X.mg x = none) (hv : bootBuiltins x = some (.type T)) (ha : VA X cm (e :: es) k)
    (hn : x ≠ "__name__" := by decide) (hdb : (x == ("__debug__" : Str)) = false := by decide) (he : starEach (e :: es) X.env = (false, eval e X.env) :: starEach es X.env := by rfl) (hpl : (backTo pos (starEach es X.env)).any (·.1) = false := by rfl) :
    VE X cm (.Call (.Name x p) (e :: es) [] pos) (appF op k) := (pe_callTy hc hg hm hv ha hn hdb he hpl).weak (tV_call o)
def lenF : List Val → Option Val
  | [x] => (itemsOf x).map fun xs => .int xs.length
  | _ => none
theorem cv_len : CaV cm (fun xs H Q => ∃ p ys, xs = [.ref p] ∧ (SqL X.K H p ys ∨ SqT X.K H p ys) ∧ Q (.int ys.length) H) lenF := fun P xs z vs H Q hd e r q => by
  unfold lenF at e
  split at e
  · obtain ⟨v, rfl, r1⟩ := r.one
    obtain ⟨ys, e1, rfl⟩ := Option.map_eq_some_iff.mp e
    obtain ⟨p, ws, rfl, h, rs⟩ := itemsOf_re (K := X.K) r1 e1
    refine ⟨p, ws, rfl, h, q _ H (Same.refl H) ?_⟩
    rw [rs.length]
    exact .int _
  · cases e
def tupleF : List Val → Option Val
  | [.lst xs] => some (.tup xs)
  | [.tup xs] => some (.tup xs)
  | _ => none
theorem cv_tuple : CaV cm (fun xs H Q => ∃ p ys, xs = [.ref p] ∧ ((SqL X.K H p ys ∧ ∀ l, H l = none → Q (.ref l) (upd H l (.tup ys))) ∨ (SqT X.K H p ys ∧ Q (.ref p) H))) tupleF := fun P xs z vs H Q hd e r q => by
  unfold tupleF at e
  split at e
  · obtain ⟨v, rfl, r1⟩ := r.one
    cases e
    obtain ⟨a, ws, rfl, n, h, rs⟩ := r1.lst_
    refine ⟨a, ws, rfl, .inl ⟨.inl (.inl h), fun p np => ?_⟩⟩
    have s2 : Same H (upd H p (.tup ws)) := fun b o eb => by rw [upd_ne (ne_of_none eb np)]; exact eb
    exact q _ _ s2 (.tup (hd.new np) upd_same (rs.same s2))
  · obtain ⟨v, rfl, r1⟩ := r.one
    cases e
    obtain ⟨a, ws, rfl, n, h, rs⟩ := r1.tup_
    exact ⟨a, ws, rfl, .inr ⟨.inl (.inl h), q _ H (Same.refl H) (.tup n h rs)⟩⟩
  · cases e
def listF : List Val → Option Val
  | [.lst xs] => some (.lst xs)
  | [.tup xs] => some (.lst xs)
  | _ => none
theorem cv_list : CaV cm (fun xs H Q => ∃ p ys, xs = [.ref p] ∧ (SqL X.K H p ys ∨ SqT X.K H p ys) ∧ ∀ l, H l = none → Q (.ref l) (upd H l (.lst ys))) listF := fun P xs z vs H Q hd e r q => by
  have fin : ∀ (ws : List V) (ys : List Val), Res cm P H ws ys → z = .lst ys → ∀ p, H p = none → Q (.ref p) (upd H p (.lst ws)) := fun ws ys rs ez p np => by
    subst ez
    have s2 : Same H (upd H p (.lst ws)) := fun b o eb => by rw [upd_ne (ne_of_none eb np)]; exact eb
    exact q _ _ s2 (.lst (hd.new np) upd_same (rs.same s2))
  unfold listF at e
  split at e
  · obtain ⟨v, rfl, r1⟩ := r.one
    cases e
    obtain ⟨a, ws, rfl, n, h, rs⟩ := r1.lst_
    exact ⟨a, ws, rfl, .inl (.inl (.inl h)), fin ws _ rs rfl⟩
  · obtain ⟨v, rfl, r1⟩ := r.one
    cases e
    obtain ⟨a, ws, rfl, n, h, rs⟩ := r1.tup_
    exact ⟨a, ws, rfl, .inr (.inl (.inl h)), fin ws _ rs rfl⟩
  · cases e
def max2F : List Val → Option Val
  | [.int i, .int j] => some (.int (if j > i then j else i))
  | _ => none
def min2F : List Val → Option Val
  | [.int i, .int j] => some (.int (if j < i then j else i))
  | _ => none
theorem cv_max2 : CaV cm (fun xs H Q => ∃ i j, xs = [.int i, .int j] ∧ Q (.int (if j > i then j else i)) H) max2F := fun P xs z vs H Q hd e r q => by
  unfold max2F at e
  split at e
  · obtain ⟨v, u, rfl, r1, r2⟩ := r.two
    cases e
    cases r1.int_
    cases r2.int_
    exact ⟨_, _, rfl, q _ H (Same.refl H) (.int _)⟩
  · cases e
theorem cv_min2 : CaV cm (fun xs H Q => ∃ i j, xs = [.int i, .int j] ∧ Q (.int (if j < i then j else i)) H) min2F := fun P xs z vs H Q hd e r q => by
  unfold min2F at e
  split at e
  · obtain ⟨v, u, rfl, r1, r2⟩ := r.two
    cases e
    cases r1.int_
    cases r2.int_
    exact ⟨_, _, rfl, q _ H (Same.refl H) (.int _)⟩
  · cases e
/-! a type's name asked -/
def tyOf : Val → Option String
  | .non => some "NoneType"
  | .bl _ => some "bool"
  | .int _ => some "int"
  | .str _ => some "str"
  | .lst _ => some "list"
  | .tup _ => some "tuple"
  | .dct _ _ => some "dict"
  | .set _ => none
  | .ins _ _ _ => none
  | .dk0 => some "dict"
  | .exc _ _ _ => none
  | .loc _ => none
theorem tyOf_re {K : PySem.W.Frag} {P : Addr → Prop} {H : Hp} {v : V} {x : Val} {t : String} (h : Re cm P H v x) (e : tyOf x = some t) : TyX K H v (.type t) := by
  cases h <;> cases e
  · exact .base .non
  · exact .base (.bl _)
  · exact .base (.int _)
  · exact .base (.str _)
  · exact .base (.lst (by assumption))
  · exact .base (.tup (by assumption))
  · exact .base (.dT (by assumption))
  · exact .base (.dK (by assumption))
def isiF (T : String) (f : En → Option Val) : En → Option Val := fun env => (f env).bind fun x => (tyOf x).bind fun t => (kitB t T).map .bl
theorem ve_isi {T : String} {x : Str} {p p2 : Pos} (hg2 : Gl X x) (hm2 : X.mg x = none) (hv2 : bootBuiltins x = some (.type T)) (hg : Gl X "isinstance") (hm : X.mg "isinstance" = none) (hv : bootBuiltins "isinstance" = some (.builtin "isinstance")) (ha : VE X cm e f)
    (hn2 : x ≠ "__name__" := by decide) (hd2 : (x == ("__debug__" : Str)) = false := by decide) (he : starEach [e, .Name x p2] X.env = (false, eval e X.env) :: starEach [.Name x p2] X.env := by rfl) (he2 : starEach [.Name x p2] X.env = (false, eval (.Name x p2) X.env) :: starEach [] X.env := by rfl) (hpl : (backTo pos (starEach [.Name x p2] X.env)).any (·.1) = false := by rfl) :
    VE X cm (.Call (.Name "isinstance" p) [e, .Name x p2] [] pos) (isiF T f) :=
  (pe_callB call_isi hg hm hv (pa_cons ha (pa_cons (pe_bltn (v := .ty T) hg2 hm2 hv2 rfl hn2 hd2) pa_nil he2) he) (by decide) (by decide) he hpl).weak fun σ H Q ⟨P, env, z, hs, hf, q⟩ => by
    unfold isiF at hf
    obtain ⟨x, ex, h1⟩ := Option.bind_eq_some_iff.mp hf
    obtain ⟨t, et, h2⟩ := Option.bind_eq_some_iff.mp h1
    obtain ⟨b, eb, rfl⟩ := Option.map_eq_some_iff.mp h2
    exact ⟨P, env, x, hs, ex, fun v H1 s1 r1 => ⟨v, .ty T, .type t, .type T, b, rfl, .ty T, tyOf_re r1 et, kit_ty eb, q _ H1 s1 (.bl b)⟩⟩
/-! fields -/
def lookF (f : Str) : List Str → List Val → Option Val
  | n :: ns, x :: xs => if n = f then some x else lookF f ns xs
  | _, _ => none
theorem lookF_re {P : Addr → Prop} {H : Hp} {f : Str} : ∀ {fs : List (Str × V)} {xs : List Val} {x : Val}, Res cm P H (fs.map (·.2)) xs → lookF f (fs.map (·.1)) xs = some x → ∃ v, fs.lookup f = some v ∧ Re cm P H v x
  | [], _, _, _, e => by cases e
  | (n, v) :: fs, [], _, h, _ => by cases h
  | (n, v) :: fs, y :: xs, x, h, e => by
    cases h with
    | cons r t =>
      replace e : (if n = f then some y else lookF f (fs.map (·.1)) xs) = some x := e
      by_cases c : n = f
      · rw [if_pos c] at e
        cases e
        subst c
        exact ⟨v, by simp [List.lookup], r⟩
      · rw [if_neg c] at e
        obtain ⟨w, h1, h2⟩ := lookF_re t e
        refine ⟨w, ?_, h2⟩
        have hb : (f == n) = false := beq_eq_false_iff_ne.mpr fun z => c z.symm
        simp only [List.lookup, hb]
        exact h1
def fldF (c : Nat) (f : Str) (k : En → Option Val) : En → Option Val := fun env => (k env).bind fun x => match x with
  | .ins c' ns xs => if c' = c then lookF f ns xs else none
  | _ => none
theorem ve_fld {c : Nat} {fl : Str} (hc : Cls X.K (cm.cls c)) (hn : NoAttr X.K (cm.cls c) fl) (he : VE X cm e f) (hb : attributeBase e fl X.env (eval e X.env) = eval e X.env) : VE X cm (.Attribute e fl pos) (fldF c fl f) :=
  (pe_fld he hb).weak fun σ H Q ⟨P, env, z, hs, hf, q⟩ => by
    unfold fldF at hf
    obtain ⟨x, ex, h1⟩ := Option.bind_eq_some_iff.mp hf
    refine ⟨P, env, x, hs, ex, fun v H1 s1 r1 => ?_⟩
    cases r1 with
    | ins n hh r =>
      replace h1 : (if _ = c then lookF fl _ _ else none) = some z := h1
      split at h1
      · rename_i ec
        subst ec
        obtain ⟨w, k1, k2⟩ := lookF_re r h1
        exact ⟨_, _, _, _, w, rfl, hh, hc, hn, k1, q _ H1 s1 k2⟩
      · cases h1
    | _ => cases h1
end
end Up

namespace Up
open PySem PySem.Spec PyProof.Rows L2
section
variable {X : Cx} {cm : Cm} {a b c e : Expr} {es : List Expr} {f g h : En → Option Val} {pos : Pos}
/-! ### defs -/
/-- the promise of a def that is a function of its arguments' trees -/
def spV (cm : Cm) (F : List Val → Option Val) : Sp := fun vs H Q _ => ∃ (P : Addr → Prop) (xs : List Val) (z : Val), Hid P H ∧ Res cm P H vs xs ∧ F xs = some z ∧ ∀ v H', Same H H' → Re cm P H' v z → Q v H'
theorem ve_call {CX : CXT} {E : XK} {k : Nat} {fa : Addr} {fd : FuncData} {ps : List Str} {F : List Val → Option Val} {x : Str} {p : Pos} {t : En → Option (List Val)} (G : FnOk X.prog X.w X.K X.mg X.base CX k fa fd ps (spV cm F)) (hr : Room k X.A) (hg : Gl X x) (hm : X.mg x = some (.ref fa)) (hk : PySem.W.keepIn X.K (.ref fa) = true)
    (hb : Binds X.K fd ps []) (hx : Passes CX X E) (ha : VA X cm (e :: es) t) (hdb : (x == ("__debug__" : Str)) = false := by decide) (he : starEach (e :: es) X.env = (false, eval e X.env) :: starEach es X.env := by rfl) (hpl : (backTo pos (starEach es X.env)).any (·.1) = false := by rfl) :
    VE X cm (.Call (.Name x p) (e :: es) [] pos) (appF F t) :=
  (pe_call G hr hg hm hk hb .nil hx ha hdb he hpl).weak fun σ H Q ⟨P, env, z, hs, hf, q⟩ => by
    obtain ⟨xs, ex, hf⟩ := Option.bind_eq_some_iff.mp hf
    refine ⟨P, env, xs, hs, ex, fun vs H1 s1 r1 => ?_⟩
    show spV cm F (vs ++ []) H1 Q E
    rw [List.append_nil]
    exact ⟨P, xs, z, hs.hid.same s1, r1, hf, fun v H2 s2 r2 => q v H2 (s1.trans s2) r2⟩
/-! ### slices -/
def cutG (xs : List Val) (lo hi : Option Int) : List Val := (xs.drop (HT.sIx xs.length 0 lo)).take (HT.sIx xs.length xs.length hi - HT.sIx xs.length 0 lo)
theorem Res.drop {P : Addr → Prop} {H : Hp} : ∀ {vs : List V} {xs : List Val} (n : Nat), Res cm P H vs xs → Res cm P H (vs.drop n) (xs.drop n)
  | _, _, 0, r => r
  | _, _, _ + 1, .nil => .nil
  | _, _, n + 1, .cons _ t => Res.drop n t
theorem Res.take {P : Addr → Prop} {H : Hp} : ∀ {vs : List V} {xs : List Val} (n : Nat), Res cm P H vs xs → Res cm P H (vs.take n) (xs.take n)
  | _, _, 0, _ => .nil
  | _, _, _ + 1, .nil => .nil
  | _, _, n + 1, .cons r t => .cons r (Res.take n t)
theorem cutG_re {P : Addr → Prop} {H : Hp} {vs : List V} {xs : List Val} {lo hi : Option Int} (r : Res cm P H vs xs) : Res cm P H (cutV vs lo hi) (cutG xs lo hi) := by
  unfold cutV cutG
  rw [r.length]
  exact Res.take _ (Res.drop _ r)
/-- a part of a slice -/
def partF (f : En → Option Val) : En → Option (Option Int) := fun env => (f env).bind fun x => match x with
  | .int i => some (some i)
  | _ => none
def noPart : En → Option (Option Int) := fun _ => some none
def tVO (cm : Cm) (f : En → Option (Option Int)) : TO := fun σ H Q => ∃ (P : Addr → Prop) (env : En) (o : Option Int), Slots cm P H σ env ∧ f env = some o ∧ ∀ H', Same H H' → Q o H'
theorem _root_.L2.PO.weak {o : Option Expr} {t t' : TO} (h : PO X o t) (k : ∀ σ H Q, t' σ H Q → t σ H Q) : PO X o t' := ⟨fun pins s σ H Q I q => h.run pins s σ H Q I (k σ H Q q)⟩
theorem vo_none : PO X none (tVO cm noPart) := po_none.weak fun σ H Q ⟨P, env, o, hs, hf, q⟩ => by
  cases hf
  exact q H (Same.refl H)
theorem vo_some (h : VE X cm e f) : PO X (some e) (tVO cm (partF f)) := (po_some h).weak fun σ H Q ⟨P, env, o, hs, hf, q⟩ => by
  unfold partF at hf
  obtain ⟨x, ex, hf⟩ := Option.bind_eq_some_iff.mp hf
  refine ⟨P, env, x, hs, ex, fun v H1 s1 r1 => ?_⟩
  cases r1 <;> cases hf
  exact ⟨_, rfl, q H1 s1⟩
def slF (op : Val → Option Int → Option Int → Option Val) (f : En → Option Val) (l u : En → Option (Option Int)) : En → Option Val := fun env => (f env).bind fun x => (l env).bind fun i => (u env).bind fun j => op x i j
def cutL : Val → Option Int → Option Int → Option Val
  | .lst xs, lo, hi => some (.lst (cutG xs lo hi))
  | _, _, _ => none
def cutT : Val → Option Int → Option Int → Option Val
  | .tup xs, lo, hi => if HT.sIx xs.length 0 lo = 0 ∧ HT.sIx xs.length xs.length hi = xs.length then none else some (.tup (cutG xs lo hi))
  | _, _, _ => none
theorem ve_slice {r : V → Option Int → Option Int → Hp → VK → Prop} {op : Val → Option Int → Option Int → Option Val} {lo hi : Option Expr} {l u : En → Option (Option Int)} {p2 : Pos} (hr : SlR X r) (o : ∀ (P : Addr → Prop) (x z : Val) (i j : Option Int) (v : V) (H : Hp) (Q : VK), Hid P H → op x i j = some z → Re cm P H v x → (∀ v' H', Same H H' → Re cm P H' v' z → Q v' H') → r v i j H Q)
    (he : VE X cm e f) (hl : PO X lo (tVO cm l)) (hu : PO X hi (tVO cm u)) : VE X cm (.Subscript e (.Slice lo hi none p2) pos) (slF op f l u) :=
  (pe_slice hr he hl hu).weak fun σ H Q ⟨P, env, z, hs, hf, q⟩ => by
    unfold slF at hf
    obtain ⟨x, ex, h1⟩ := Option.bind_eq_some_iff.mp hf
    obtain ⟨i, ei, h2⟩ := Option.bind_eq_some_iff.mp h1
    obtain ⟨j, ej, h3⟩ := Option.bind_eq_some_iff.mp h2
    exact ⟨P, env, x, hs, ex, fun v H1 s1 r1 => ⟨P, env, i, hs.same s1, ei, fun H2 s2 => ⟨P, env, j, (hs.same s1).same s2, ej, fun H3 s3 => o P x z i j v H3 Q (((hs.hid.same s1).same s2).same s3) h3 ((r1.same s2).same s3) fun v' H4 s4 r4 => q v' H4 (s1.trans (s2.trans (s3.trans s4))) r4⟩⟩⟩
theorem vs_list (P : Addr → Prop) (x z : Val) (i j : Option Int) (v : V) (H : Hp) (Q : VK) (hd : Hid P H) (e : cutL x i j = some z) (r : Re cm P H v x) (q : ∀ v' H', Same H H' → Re cm P H' v' z → Q v' H') : rSlL X.K v i j H Q := by
  unfold cutL at e
  split at e
  · cases e
    obtain ⟨a, vs, rfl, n, hh, rs⟩ := r.lst_
    refine ⟨a, vs, rfl, .inl (.inl hh), fun p np => ?_⟩
    have s2 : Same H (upd H p (.lst (cutV vs i j))) := fun b o eb => by rw [upd_ne (ne_of_none eb np)]; exact eb
    exact q _ _ s2 (.lst (hd.new np) upd_same (Rep.same s2 (cutG_re rs)))
  · cases e
theorem vs_tup (P : Addr → Prop) (x z : Val) (i j : Option Int) (v : V) (H : Hp) (Q : VK) (hd : Hid P H) (e : cutT x i j = some z) (r : Re cm P H v x) (q : ∀ v' H', Same H H' → Re cm P H' v' z → Q v' H') : rSlT X.K v i j H Q := by
  unfold cutT at e
  split at e
  · split at e
    · cases e
    · rename_i c
      cases e
      obtain ⟨a, vs, rfl, n, hh, rs⟩ := r.tup_
      refine ⟨a, vs, rfl, .inl (.inl hh), by rw [Res.length rs]; exact c, fun p np => ?_⟩
      have s2 : Same H (upd H p (.tup (cutV vs i j))) := fun b o eb => by rw [upd_ne (ne_of_none eb np)]; exact eb
      exact q _ _ s2 (.tup (hd.new np) upd_same (Rep.same s2 (cutG_re rs)))
  · cases e
/-! ### targets -/
def setA (σ : L2.St) : List (Nat × V) → L2.St
  | [] => σ
  | q :: qs => setA (σ.set q.1 (some q.2)) qs
def setE (env : En) : List (Nat × Val) → En
  | [] => env
  | q :: qs => setE (env.set q.1 (some q.2)) qs
abbrev Prs (cm : Cm) (P : Addr → Prop) (H : Hp) : List (Nat × V) → List (Nat × Val) → Prop := Paired fun q p => q.1 = p.1 ∧ Re cm P H q.2 p.2
theorem setA_app : ∀ (qs rs : List (Nat × V)) (σ : L2.St), setA σ (qs ++ rs) = setA (setA σ qs) rs
  | [], _, _ => rfl
  | q :: qs, rs, σ => setA_app qs rs _
theorem Slots.sets {P : Addr → Prop} {H : Hp} : ∀ {qs : List (Nat × V)} {ps : List (Nat × Val)} {σ : L2.St} {env : En}, Prs cm P H qs ps → Slots cm P H σ env → Slots cm P H (setA σ qs) (setE env ps)
  | _, _, _, _, .nil, h => h
  | _, _, _, _, .cons (a := q) (b := p) r t, h => by
    obtain ⟨e, r⟩ := r
    obtain ⟨i, v⟩ := q
    obtain ⟨j, x⟩ := p
    obtain rfl : i = j := e
    have k := Slots.sets t (Slots.set (i := i) h r)
    exact k
theorem wipe_setA {vs : List Nat} : ∀ {qs : List (Nat × V)} {σ : L2.St}, (∀ q ∈ qs, q.1 ∈ vs) → L2.wipe (setA σ qs) vs = L2.wipe σ vs
  | [], _, _ => rfl
  | q :: qs, σ, h => by
    show L2.wipe (setA (σ.set q.1 (some q.2)) qs) vs = _
    rw [wipe_setA fun r hr => h r (List.mem_cons_of_mem _ hr), wipe_set (h q (List.mem_cons_self ..))]
/-- a target: what a value does to the names -/
structure TgV (cm : Cm) (g : TG) (m : Val → Option (List (Nat × Val))) (is : List Nat) : Prop where
  go : ∀ (P : Addr → Prop) (H : Hp) (v : V) (x : Val) (ps : List (Nat × Val)), Re cm P H v x → m x = some ps → ∃ qs : List (Nat × V), Prs cm P H qs ps ∧ (∀ q ∈ qs, q.1 ∈ is) ∧ ∀ (σ : L2.St) (Q : L2.St → Hp → Prop), Q (setA σ qs) H → g v σ H Q
def setV (i : Nat) : Val → Option (List (Nat × Val)) := fun x => some [(i, x)]
theorem tg_name {i : Nat} : TgV cm (gName i) (setV i) [i] := ⟨fun P H v x ps r e => by
  cases e
  exact ⟨[(i, v)], .cons ⟨rfl, r⟩ .nil, (fun q hq => by simpa using congrArg Prod.fst (List.mem_singleton.mp hq)), fun σ Q q => q⟩⟩
structure TgsV (cm : Cm) (g : TGs) (m : List Val → Option (List (Nat × Val))) (is : List Nat) : Prop where
  go : ∀ (P : Addr → Prop) (H : Hp) (vs : List V) (xs : List Val) (ps : List (Nat × Val)), Res cm P H vs xs → m xs = some ps → ∃ qs : List (Nat × V), Prs cm P H qs ps ∧ (∀ q ∈ qs, q.1 ∈ is) ∧ ∀ (σ : L2.St) (Q : L2.St → Hp → Prop), Q (setA σ qs) H → g vs σ H Q
def setNo : List Val → Option (List (Nat × Val))
  | [] => some []
  | _ :: _ => none
def setCo (b : Val → Option (List (Nat × Val))) (bs : List Val → Option (List (Nat × Val))) : List Val → Option (List (Nat × Val))
  | x :: xs => (b x).bind fun ps => (bs xs).map (ps ++ ·)
  | [] => none
theorem tgs_nil : TgsV cm gNil setNo [] := ⟨fun P H vs xs ps r e => by
  cases r with
  | nil =>
    cases e
    exact ⟨[], .nil, (fun q hq => by cases hq), fun σ Q q => ⟨rfl, q⟩⟩
  | cons _ _ => cases e⟩
theorem Prs.append {P : Addr → Prop} {H : Hp} : ∀ {qs rs : List (Nat × V)} {ps us : List (Nat × Val)}, Prs cm P H qs ps → Prs cm P H rs us → Prs cm P H (qs ++ rs) (ps ++ us)
  | _, _, _, _, .nil, s => s
  | _, _, _, _, .cons r t, s => .cons r (Prs.append t s)
theorem tgs_cons {g : TG} {gs : TGs} {b : Val → Option (List (Nat × Val))} {bs : List Val → Option (List (Nat × Val))} {is js : List Nat} (h1 : TgV cm g b is) (h2 : TgsV cm gs bs js) : TgsV cm (gCons g gs) (setCo b bs) (is ++ js) := ⟨fun P H vs xs ps r e => by
  cases r with
  | nil => cases e
  | cons r t =>
    obtain ⟨p1, e1, e2⟩ := Option.bind_eq_some_iff.mp (show (b _).bind (fun ps => (bs _).map (ps ++ ·)) = some ps from e)
    obtain ⟨p2, e3, rfl⟩ := Option.map_eq_some_iff.mp e2
    obtain ⟨q1, k1, m1, g1⟩ := h1.go P H _ _ _ r e1
    obtain ⟨q2, k2, m2, g2⟩ := h2.go P H _ _ _ t e3
    refine ⟨q1 ++ q2, Prs.append k1 k2, fun q hq => ?_, fun σ Q q => ⟨_, _, rfl, g1 σ _ (g2 _ Q (by rw [← setA_app]; exact q))⟩⟩
    rcases List.mem_append.mp hq with z | z
    · exact List.mem_append_left _ (m1 q z)
    · exact List.mem_append_right _ (m2 q z)⟩
def setTup (n : Nat) (bs : List Val → Option (List (Nat × Val))) : Val → Option (List (Nat × Val)) := fun x => match x with
  | .tup xs => if xs.length = n then bs xs else none
  | _ => none
theorem tg_tup {K : PySem.W.Frag} {n : Nat} {gs : TGs} {bs : List Val → Option (List (Nat × Val))} {is : List Nat} (h : TgsV cm gs bs is) : TgV cm (gTup K n gs) (setTup n bs) is := ⟨fun P H v x ps r e => by
  unfold setTup at e
  split at e
  · split at e
    · rename_i l
      obtain ⟨a, vs, rfl, n', hh, rs⟩ := r.tup_
      obtain ⟨qs, k1, k2, k3⟩ := h.go P H vs _ ps rs e
      exact ⟨qs, k1, k2, fun σ Q q => ⟨a, vs, rfl, .inl (.inl hh), by rw [Res.length rs]; exact l, k3 σ Q q⟩⟩
    · cases e
  · cases e⟩
/-! ### what is walked -/
def WalkV (cm : Cm) (P : Addr → Prop) (J : It) (xs : List Val) (H1 : Hp) : Prop := Walk J xs.length (fun H => Keep P H1 H ∧ Hid P H) (fun i H x H' => Same H H' ∧ ∃ y, xs[i]? = some y ∧ ∀ P2 : Addr → Prop, (∀ a, P2 a → P a ∨ H1 a = none) → Hid P2 H → Re cm P2 H' x y)
def iV (cm : Cm) (f : En → Option (List Val)) : TI := fun σ H R => ∃ (P : Addr → Prop) (env : En) (xs : List Val), Slots cm P H σ env ∧ f env = some xs ∧ ∀ J H', Same H H' → WalkV cm P J xs H' → R J H'
abbrev VI (X : Cx) (cm : Cm) (tg it : Expr) (f : En → Option (List Val)) : Prop := PI X tg it (iV cm f)
theorem _root_.L2.PI.weak {tg it : Expr} {t t' : TI} (h : PI X tg it t) (k : ∀ σ H R, t' σ H R → t σ H R) : PI X tg it t' := ⟨fun pins s σ H R I q => h.run pins s σ H R I (k σ H R q)⟩
end
end Up

namespace Up
open PySem PySem.Spec PyProof.Rows L2
/-- more is hidden, of what does not stand -/
theorem Rep.more {cm : Cm} {P P' : Addr → Prop} {H : Hp} (s : ∀ a, P' a → P a ∨ H a = none) : ∀ {b : Bool} {vs : List V} {xs : List Val}, Rep cm P H b vs xs → Rep cm P' H b vs xs := fun h => by
  have k : ∀ (a : Addr) (o : HO), ¬ P a → H a = some o → ¬ P' a := fun a o n e c => by
    rcases s a c with z | z
    · exact n z
    · rw [e] at z
      cases z
  induction h with
  | nil => exact .nil
  | cons _ _ i1 i2 => exact .cons i1 i2
  | non => exact .non
  | bl b => exact .bl b
  | int i => exact .int i
  | str x => exact .str x
  | lst n e _ ih => exact .lst (k _ _ n e) e ih
  | tup n e _ ih => exact .tup (k _ _ n e) e ih
  | dct n e l1 l2 g1 g2 _ ih => exact .dct (k _ _ n e) e l1 l2 g1 g2 ih
  | ins n e _ ih => exact .ins (k _ _ n e) e ih
  | set n e h1 h2 => exact .set (k _ _ n e) e h1 h2
  | dk0 n e => exact .dk0 (k _ _ n e) e
  | exc n e q z _ ih => exact .exc (k _ _ n e) e (fun d' c => ⟨k _ _ (q d' c).1 (q d' c).2, (q d' c).2⟩) z ih
  | loc a => exact .loc a
theorem Rep.move {cm : Cm} {P P' : Addr → Prop} {H H' : Hp} (s : ∀ a, P' a → P a ∨ H a = none) (kp : Keep P H H') {b : Bool} {vs : List V} {xs : List Val} (h : Rep cm P H b vs xs) : Rep cm P' H' b vs xs := by
  have h1 : Rep cm (fun a => P a ∨ P' a) H b vs xs := h.more fun a c => c.elim .inl (s a)
  exact (h1.keep fun a o e n => kp a o e fun c => n (.inl c)).less fun a c => .inr c
section
variable {X : Cx} {cm : Cm} {a b c e : Expr} {es : List Expr} {f g h : En → Option Val} {pos : Pos}
theorem vi_of {J : It} {P : Addr → Prop} {vs : List V} {xs : List Val} {H1 : Hp} {G : Hp → Prop} (w : Walk J vs.length G (YAt vs)) (hG : ∀ H, Keep P H1 H → G H) (r : Res cm P H1 vs xs) : WalkV cm P J xs H1 := by
  unfold WalkV
  rw [← Res.length r]
  refine w.mono (fun H h => hG H h.1) fun i H x H' hi h y => ?_
  obtain ⟨rfl, e⟩ := y
  obtain ⟨y, e2, r2⟩ := Res.getV r e
  exact ⟨Same.refl _, y, e2, fun P2 s _ => r2.move s h.1⟩
def itF (f : En → Option Val) : En → Option (List Val) := fun env => (f env).bind itemsOf
def itL (f : En → Option Val) : En → Option (List Val) := fun env => (f env).bind fun x => match x with
  | .lst xs => some xs
  | _ => none
def itT (f : En → Option Val) : En → Option (List Val) := fun env => (f env).bind fun x => match x with
  | .tup xs => some xs
  | _ => none
theorem vi_list {tg : Expr} (he : VE X cm e f) : VI X cm tg e (itL f) := (pi_list he).weak fun σ H R ⟨P, env, z, hs, hf, q⟩ => by
  obtain ⟨x, ex, hf⟩ := Option.bind_eq_some_iff.mp hf
  refine ⟨P, env, x, hs, ex, fun v H1 s1 r1 => ?_⟩
  cases r1 <;> cases hf
  rename_i a vs n hh r
  exact ⟨a, rfl, ⟨vs, .inl (.inl hh)⟩, q _ H1 s1 (vi_of walk_list (fun H k => .inl (.inl (k _ _ hh n))) r)⟩
theorem vi_tup {tg : Expr} (he : VE X cm e f) : VI X cm tg e (itT f) := (pi_tup he).weak fun σ H R ⟨P, env, z, hs, hf, q⟩ => by
  obtain ⟨x, ex, hf⟩ := Option.bind_eq_some_iff.mp hf
  refine ⟨P, env, x, hs, ex, fun v H1 s1 r1 => ?_⟩
  cases r1 <;> cases hf
  rename_i a vs n hh r
  exact ⟨a, rfl, ⟨vs, .inl (.inl hh)⟩, q _ H1 s1 (vi_of walk_tup (fun H k => .inl (.inl (k _ _ hh n))) r)⟩
theorem vi_seq {tg : Expr} (he : VE X cm e f) : VI X cm tg e (itF f) := (pi_seq he).weak fun σ H R ⟨P, env, z, hs, hf, q⟩ => by
  obtain ⟨x, ex, hf⟩ := Option.bind_eq_some_iff.mp hf
  refine ⟨P, env, x, hs, ex, fun v H1 s1 r1 => ?_⟩
  cases r1 <;> cases hf
  · rename_i a vs n hh r
    exact ⟨a, rfl, .inl ⟨vs, .inl (.inl hh), q _ H1 s1 (vi_of walk_list (fun H k => .inl (.inl (k _ _ hh n))) r)⟩⟩
  · rename_i a vs n hh r
    exact ⟨a, rfl, .inr ⟨vs, .inl (.inl hh), q _ H1 s1 (vi_of walk_tup (fun H k => .inl (.inl (k _ _ hh n))) r)⟩⟩
/-! ranges -/
def rangeV (lo : Int) : Nat → List Val
  | 0 => []
  | n + 1 => .int lo :: rangeV (lo + 1) n
theorem rangeV_len : ∀ (n : Nat) (lo : Int), (rangeV lo n).length = n
  | 0, _ => rfl
  | n + 1, lo => by rw [rangeV, List.length_cons, rangeV_len n]
theorem rangeV_get : ∀ {n i : Nat} {lo : Int}, i < n → (rangeV lo n)[i]? = some (.int (lo + i))
  | 0, i, lo, h => absurd h (Nat.not_lt_zero _)
  | n + 1, 0, lo, _ => by
    show some (Val.int lo) = _
    rw [show lo + ((0 : Nat) : Int) = lo by omega]
  | n + 1, i + 1, lo, h => by
    show (rangeV (lo + 1) n)[i]? = _
    rw [rangeV_get (by omega), show lo + 1 + (i : Int) = lo + ((i + 1 : Nat) : Int) by omega]
theorem vi_rng {P : Addr → Prop} {lo : Int} {n : Nat} {H1 : Hp} : WalkV cm P (Itr lo n) (rangeV lo n) H1 := by
  unfold WalkV
  rw [rangeV_len]
  refine walk_range.mono (fun H h => True.intro) fun i H x H' hi h y => ?_
  obtain ⟨rfl, rfl⟩ := y
  exact ⟨Same.refl _, _, rangeV_get hi, fun P2 s _ => .int _⟩
def rng1 (k : En → Option (List Val)) : En → Option (List Val) := fun env => (k env).bind fun xs => match xs with
  | [.int j] => if -1000000 ≤ j ∧ j ≤ 1000000 then some (rangeV 0 j.toNat) else none
  | _ => none
theorem vi_range1 {tg : Expr} {p : Pos} {k : En → Option (List Val)} (hg : Gl X "range") (hm : X.mg "range" = none) (ha : VA X cm [a] k) (hs : starEach [a] X.env = [(false, eval a X.env)] := by rfl) : VI X cm tg (.Call (.Name "range" p) [a] [] pos) (rng1 k) :=
  (pi_range1 hg hm ha hs).weak fun σ H R ⟨P, env, z, hs, hf, q⟩ => by
    unfold rng1 at hf
    obtain ⟨xs, ex, hf⟩ := Option.bind_eq_some_iff.mp hf
    refine ⟨P, env, xs, hs, ex, fun vs H1 s1 r1 => ?_⟩
    split at hf
    · split at hf
      · rename_i j c
        cases hf
        obtain ⟨v, rfl, r2⟩ := Res.one r1
        cases r2.int_
        exact ⟨j, rfl, by omega, by omega, q _ H1 s1 vi_rng⟩
      · cases hf
    · cases hf
def rng2 (k : En → Option (List Val)) : En → Option (List Val) := fun env => (k env).bind fun xs => match xs with
  | [.int i, .int j] => if -1000000 ≤ i ∧ i ≤ 1000000 ∧ -1000000 ≤ j ∧ j ≤ 1000000 then some (rangeV i (j - i).toNat) else none
  | _ => none
theorem vi_range2 {tg : Expr} {p : Pos} {k : En → Option (List Val)} (hg : Gl X "range") (hm : X.mg "range" = none) (ha : VA X cm [a, b] k) (hs : starEach [a, b] X.env = [(false, eval a X.env), (false, eval b X.env)] := by rfl) (hs2 : starEach [b] X.env = [(false, eval b X.env)] := by rfl) :
    VI X cm tg (.Call (.Name "range" p) [a, b] [] pos) (rng2 k) :=
  (pi_range2 hg hm ha hs hs2).weak fun σ H R ⟨P, env, z, hs, hf, q⟩ => by
    unfold rng2 at hf
    obtain ⟨xs, ex, hf⟩ := Option.bind_eq_some_iff.mp hf
    refine ⟨P, env, xs, hs, ex, fun vs H1 s1 r1 => ?_⟩
    split at hf
    · split at hf
      · rename_i i j c
        cases hf
        obtain ⟨v, u, rfl, r2, r3⟩ := Res.two r1
        cases r2.int_
        cases r3.int_
        exact ⟨i, j, rfl, ⟨by omega, by omega, by omega, by omega⟩, q _ H1 s1 vi_rng⟩
      · cases hf
    · cases hf
/-! pairs made anew -/
def pairV : List Val → List Val → List Val
  | x :: xs, y :: ys => .tup [x, y] :: pairV xs ys
  | _, _ => []
theorem pairV_len : ∀ (xs ys : List Val), (pairV xs ys).length = min xs.length ys.length
  | [], ys => by simp [pairV]
  | x :: xs, [] => by simp [pairV]
  | x :: xs, y :: ys => by
    rw [pairV, List.length_cons, pairV_len xs ys, List.length_cons, List.length_cons]
    omega
theorem pairV_get : ∀ {xs ys : List Val} {i : Nat} {x y : Val}, xs[i]? = some x → ys[i]? = some y → (pairV xs ys)[i]? = some (.tup [x, y])
  | [], _, _, _, _, e, _ => by simp at e
  | _ :: _, [], _, _, _, _, e => by simp at e
  | x :: xs, y :: ys, 0, _, _, e1, e2 => by
    simp at e1 e2
    subst e1 e2
    rfl
  | x :: xs, y :: ys, i + 1, _, _, e1, e2 => by
    show (pairV xs ys)[i]? = _
    exact pairV_get (by simpa using e1) (by simpa using e2)
theorem vi_pair {J : It} {P : Addr → Prop} {n : Nat} {xs ys : List Val} {fx fy : Nat → Option V} {H1 : Hp} {G : Hp → Prop} (w : Walk J n G (YPair fx fy)) (hn : n = min xs.length ys.length) (hG : ∀ H, Keep P H1 H → G H)
    (hx : ∀ i v, fx i = some v → i < n → ∃ x, xs[i]? = some x ∧ ∀ P2, (∀ a, P2 a → P a ∨ H1 a = none) → Re cm P2 H1 v x ∨ ∀ H, Re cm P2 H v x) (hy : ∀ i v, fy i = some v → i < n → ∃ y, ys[i]? = some y ∧ Re cm P H1 v y)
    (hx2 : ∀ i v x, fx i = some v → xs[i]? = some x → ∀ P2 H, (∀ a, P2 a → P a ∨ H1 a = none) → Keep P H1 H → Re cm P2 H v x) : WalkV cm P J (pairV xs ys) H1 := by
  unfold WalkV
  rw [pairV_len, ← hn]
  refine w.mono (fun H h => hG H h.1) fun i H x H' hi h y => ?_
  obtain ⟨T, v, u, rfl, nT, rfl, e1, e2⟩ := y
  obtain ⟨x, ex, _⟩ := hx i v e1 hi
  obtain ⟨y, ey, ry⟩ := hy i u e2 hi
  have sT : Same H (upd H T (.tup [v, u])) := fun b o eb => by rw [upd_ne (ne_of_none eb nT)]; exact eb
  refine ⟨sT, _, pairV_get ex ey, fun P2 s hd => ?_⟩
  have r1 : Re cm P2 H v x := hx2 i v x e1 ex P2 H s h.1
  have r2 : Re cm P2 H u y := ry.move s h.1
  exact .tup (hd.new nT) upd_same (.cons (r1.same sT) (.cons (r2.same sT) .nil))
theorem vi_zipR {J : It} {P : Addr → Prop} {vs us : List V} {xs ys : List Val} {H1 : Hp} {G : Hp → Prop} (w : Walk J (min vs.length us.length) G (YPair (fun i => vs[i]?) (fun i => us[i]?))) (hG : ∀ H, Keep P H1 H → G H) (rx : Res cm P H1 vs xs) (ry : Res cm P H1 us ys) : WalkV cm P J (pairV xs ys) H1 := by
  refine vi_pair w (by rw [Res.length rx, Res.length ry]) hG (fun i v e _ => ?_) (fun i v e _ => Res.getV ry e) (fun i v x e ex P2 H s k => ?_)
  · obtain ⟨x, e1, r⟩ := Res.getV rx e
    exact ⟨x, e1, fun P2 s => .inl (r.more s)⟩
  · obtain ⟨x', e1, r⟩ := Res.getV rx e
    rw [ex] at e1
    cases e1
    exact r.move s k
def zipA (k : En → Option (List Val)) : En → Option (List Val) := fun env => (k env).bind fun xs => match xs with
  | [.lst xs, .lst ys] => some (pairV xs ys)
  | [.tup xs, .tup ys] => some (pairV xs ys)
  | _ => none
theorem walk_zT {K : PySem.W.Frag} {a b : Addr} {xs ys : List V} : Walk (RZ.ItzT K a b) (min xs.length ys.length) (fun H => SqT K H a xs ∧ SqT K H b ys) (YPair (fun i => xs[i]?) (fun i => ys[i]?)) := by
  refine ⟨fun i _ hi q => ?_, fun _ q => ⟨xs, ys, q.1, q.2, by omega⟩, fun i H v H' _ q y => ?_⟩
  · have h1 : i < xs.length := by omega
    have h2 : i < ys.length := by omega
    exact ⟨xs, ys, xs[i], ys[i], q.1, q.2, by simp [h1], by simp [h2]⟩
  · obtain ⟨T, x, z, h1, h2, h3, h4, h5⟩ := y
    exact ⟨T, x, z, h1, h2, h3, h4 xs q.1, h5 ys q.2⟩
theorem vi_zip {p tp : Pos} {elts : List Expr} {kk : Nat} {k : En → Option (List Val)} (hg : Gl X "zip") (hm : X.mg "zip" = none) (ha : VA X cm [a, b] k)
    (hs : starEach [a, b] X.env = (false, eval a X.env) :: starEach [b] X.env := by rfl) (hpl : (backTo pos (starEach [b] X.env)).any (·.1) = false := by rfl) : VI X cm (.Tuple elts kk tp) (.Call (.Name "zip" p) [a, b] [] pos) (zipA k) :=
  (RZ.pi_zipA hg hm ha hs hpl).weak fun σ H R ⟨P, env, z, hs, hf, q⟩ => by
    unfold zipA at hf
    obtain ⟨xs, ex, hf⟩ := Option.bind_eq_some_iff.mp hf
    refine ⟨P, env, xs, hs, ex, fun vs H1 s1 r1 => ?_⟩
    split at hf
    · cases hf
      obtain ⟨v, u, rfl, r2, r3⟩ := Res.two r1
      obtain ⟨p1, ws1, rfl, n1, h1, t1⟩ := r2.lst_
      obtain ⟨p2, ws2, rfl, n2, h2, t2⟩ := r3.lst_
      exact ⟨p1, p2, ws1, ws2, rfl, .inl ⟨.inl (.inl h1), .inl (.inl h2), q _ H1 s1 (vi_zipR (walk_zip rfl) (fun H k => ⟨.inl (.inl (k _ _ h1 n1)), .inl (.inl (k _ _ h2 n2))⟩) t1 t2)⟩⟩
    · cases hf
      obtain ⟨v, u, rfl, r2, r3⟩ := Res.two r1
      obtain ⟨p1, ws1, rfl, n1, h1, t1⟩ := r2.tup_
      obtain ⟨p2, ws2, rfl, n2, h2, t2⟩ := r3.tup_
      exact ⟨p1, p2, ws1, ws2, rfl, .inr ⟨.inl (.inl h1), .inl (.inl h2), q _ H1 s1 (vi_zipR walk_zT (fun H k => ⟨.inl (.inl (k _ _ h1 n1)), .inl (.inl (k _ _ h2 n2))⟩) t1 t2)⟩⟩
    · cases hf
theorem vi_enumR {J : It} {P : Addr → Prop} {us : List V} {ys : List Val} {H1 : Hp} {G : Hp → Prop} (w : Walk J us.length G (YPair (fun i => some (.int (i : Nat))) (fun i => us[i]?))) (hG : ∀ H, Keep P H1 H → G H) (ry : Res cm P H1 us ys) : WalkV cm P J (pairV (rangeV 0 ys.length) ys) H1 := by
  refine vi_pair w (by rw [rangeV_len, Nat.min_self, Res.length ry]) hG (fun i v e hi => ?_) (fun i v e _ => Res.getV ry e) (fun i v x e ex P2 H s k => ?_)
  · cases e
    refine ⟨.int (0 + (i : Int)), rangeV_get (by rw [← Res.length ry]; exact hi), fun P2 s => .inr fun H => ?_⟩
    rw [show (0 : Int) + (i : Int) = (i : Int) by omega]
    exact .int _
  · cases e
    have lt := (List.getElem?_eq_some_iff.mp ex).1
    rw [rangeV_len] at lt
    rw [rangeV_get lt] at ex
    cases ex
    rw [show (0 : Int) + (i : Int) = (i : Int) by omega]
    exact .int _
def enuT (k : En → Option (List Val)) : En → Option (List Val) := fun env => (k env).bind fun xs => match xs with
  | [.tup ys] => some (pairV (rangeV 0 ys.length) ys)
  | _ => none
def enuL (k : En → Option (List Val)) : En → Option (List Val) := fun env => (k env).bind fun xs => match xs with
  | [.lst ys] => some (pairV (rangeV 0 ys.length) ys)
  | _ => none
theorem vi_enT {p tp : Pos} {elts : List Expr} {kk : Nat} {k : En → Option (List Val)} (hg : Gl X "enumerate") (hm : X.mg "enumerate" = none) (ha : VA X cm [a] k) (hs : starEach [a] X.env = [(false, eval a X.env)] := by rfl) : VI X cm (.Tuple elts kk tp) (.Call (.Name "enumerate" p) [a] [] pos) (enuT k) :=
  (pi_enT hg hm ha hs).weak fun σ H R ⟨P, env, z, hs, hf, q⟩ => by
    unfold enuT at hf
    obtain ⟨xs, ex, hf⟩ := Option.bind_eq_some_iff.mp hf
    refine ⟨P, env, xs, hs, ex, fun vs H1 s1 r1 => ?_⟩
    split at hf
    · cases hf
      obtain ⟨v, rfl, r2⟩ := Res.one r1
      obtain ⟨p1, ws1, rfl, n1, h1, t1⟩ := r2.tup_
      exact ⟨p1, ws1, rfl, .inl (.inl h1), q _ H1 s1 (vi_enumR walk_enT (fun H k => .inl (.inl (k _ _ h1 n1))) t1)⟩
    · cases hf
theorem vi_enL {p tp : Pos} {elts : List Expr} {kk : Nat} {k : En → Option (List Val)} (hg : Gl X "enumerate") (hm : X.mg "enumerate" = none) (ha : VA X cm [a] k) (hs : starEach [a] X.env = [(false, eval a X.env)] := by rfl) : VI X cm (.Tuple elts kk tp) (.Call (.Name "enumerate" p) [a] [] pos) (enuL k) :=
  (pi_enum hg hm ha hs).weak fun σ H R ⟨P, env, z, hs, hf, q⟩ => by
    unfold enuL at hf
    obtain ⟨xs, ex, hf⟩ := Option.bind_eq_some_iff.mp hf
    refine ⟨P, env, xs, hs, ex, fun vs H1 s1 r1 => ?_⟩
    split at hf
    · cases hf
      obtain ⟨v, rfl, r2⟩ := Res.one r1
      obtain ⟨p1, ws1, rfl, n1, h1, t1⟩ := r2.lst_
      exact ⟨p1, ws1, rfl, .inl (.inl h1), q _ H1 s1 (vi_enumR walk_enum (fun H k => .inl (.inl (k _ _ h1 n1))) t1)⟩
    · cases hf
end
/-! ### comprehensions -/
def lcGo (bnd : Val → Option (List (Nat × Val))) (ft : En → Option Bool) (fe : En → Option Val) (env : En) : List Val → Option (List Val)
  | [] => some []
  | x :: xs => (bnd x).bind fun ps => (ft (setE env ps)).bind fun k => if k = true then (fe (setE env ps)).bind fun y => (lcGo bnd ft fe env xs).bind fun ys => some (y :: ys) else lcGo bnd ft fe env xs
def lcF (fi : En → Option (List Val)) (bnd : Val → Option (List (Nat × Val))) (ft : En → Option Bool) (fe : En → Option Val) (vs : List Nat) : En → Option (List Val) := fun env => (fi env).bind fun xs => if xs.length ≤ most then lcGo bnd ft fe (wipeE env vs) xs else none
def TtV (cm : Cm) (tt : TT) (f : En → Option Bool) : Prop := ∀ (P : Addr → Prop) (env : En) (b : Bool) (σ : L2.St) (H : Hp) (Q : Bool → Hp → Prop), Slots cm P H σ env → f env = some b → (∀ H', Same H H' → Q b H') → tt σ H Q
def yesF : En → Option Bool := fun _ => some true
theorem tt_yes {cm : Cm} : TtV cm tYes yesF := fun P env b σ H Q hs e q => by
  cases e
  exact q H (Same.refl H)
theorem tt_of {cm : Cm} {f : En → Option Bool} : TtV cm (tVT cm f) f := fun P env b σ H Q hs e q => ⟨P, env, b, hs, e, q⟩
/-- a new list -/
def tN (cm : Cm) (f : En → Option (List Val)) : TE := fun σ H Q => ∃ (P : Addr → Prop) (env : En) (xs : List Val), Slots cm P H σ env ∧ f env = some xs ∧ ∀ a vs H', Same H H' → H a = none → H' a = some (.lst vs) → Res cm (fun b => P b ∨ b = a) H' vs xs → xs.length ≤ most → Q (.ref a) H'
abbrev VN (X : Cx) (cm : Cm) (e : Expr) (f : En → Option (List Val)) : Prop := PE X e (tN cm f)
theorem lcGo_len {bnd : Val → Option (List (Nat × Val))} {ft : En → Option Bool} {fe : En → Option Val} {env : En} : ∀ {xs ys : List Val}, lcGo bnd ft fe env xs = some ys → ys.length ≤ xs.length
  | [], ys, e => by
    cases e
    exact Nat.le_refl _
  | x :: xs, ys, e => by
    unfold lcGo at e
    obtain ⟨env1, e1, e⟩ := Option.bind_eq_some_iff.mp e
    obtain ⟨k, e2, e⟩ := Option.bind_eq_some_iff.mp e
    by_cases c : k = true
    · rw [if_pos c] at e
      obtain ⟨y, e3, e⟩ := Option.bind_eq_some_iff.mp e
      obtain ⟨ys', e4, e⟩ := Option.bind_eq_some_iff.mp e
      cases e
      have := lcGo_len e4
      rw [List.length_cons, List.length_cons]
      omega
    · rw [if_neg c] at e
      have := lcGo_len e
      rw [List.length_cons]
      omega
theorem tLc_of {cm : Cm} {fi : En → Option (List Val)} {g : TG} {bnd : Val → Option (List (Nat × Val))} {is vs : List Nat} {tt : TT} {ft : En → Option Bool} {fe : En → Option Val} (hg : TgV cm g bnd is) (hi : ∀ i ∈ is, i ∈ vs) (ht : TtV cm tt ft) (σ : L2.St) (H : Hp) (Q : VK) (q : tN cm (lcF fi bnd ft fe vs) σ H Q) :
    tLc (iV cm fi) g tt (tV cm fe) vs σ H Q := by
  obtain ⟨P, env, ys, hs, hf, q⟩ := q
  unfold lcF at hf
  obtain ⟨xs, ex, hf⟩ := Option.bind_eq_some_iff.mp hf
  split at hf
  case isFalse => cases hf
  rename_i hl
  refine ⟨P, env, xs, hs, ex, fun J H1 s1 w D nD => ?_⟩
  have hs1 := hs.same s1
  have nPD : ¬ P D := hs1.hid.new nD
  refine lc_it w (fun i H2 => ∃ (acc : List V) (dn rest : List Val), H2 D = some (.lst acc) ∧ Same H1 H2 ∧ Res cm (fun b => P b ∨ b = D) H2 acc dn ∧ lcGo bnd ft fe (wipeE env vs) (xs.drop i) = some rest ∧ dn ++ rest = ys ∧ acc.length ≤ i) ⟨[], [], ys, upd_same, fun b o e => by rw [upd_ne (ne_of_none e nD)]; exact e, .nil, hf, rfl, Nat.le_refl _⟩ (fun i H2 _ ⟨_, _, _, _, s2, _⟩ => ⟨.of s2, hs1.hid.same s2⟩) ?_ ?_
  · rintro i x H2 H3 hi2 ⟨acc, dn, rest, hD, s2, rs, hr, hy, la⟩ ⟨s3, y, ey, ry⟩
    have hid2 : Hid (fun b => P b ∨ b = D) H2 := fun a c => by
      rcases c with c | c
      · exact (hs1.hid.same s2) a c
      · exact ⟨.lst acc, by rw [c]; exact hD, fun vs z => nomatch z⟩
    have ry2 := ry (fun b => P b ∨ b = D) (fun a c => c.elim .inl fun z => .inr (by rw [z]; exact nD)) hid2
    have hs2 : Slots cm (fun b => P b ∨ b = D) H3 (L2.wipe σ vs) (wipeE env vs) := by
      have k : Slots cm (fun b => P b ∨ b = D) H2 σ env := ⟨hs.len, fun j z ez => by
        obtain ⟨v, h1, h2⟩ := hs1.at_ j z ez
        exact ⟨v, h1, h2.move (fun a c => c.elim .inl fun z => .inr (by rw [z]; exact nD)) (.of s2)⟩, hid2⟩
      exact (k.same s3).wipe vs
    have dr : xs.drop i = y :: xs.drop (i + 1) := by
      obtain ⟨lt, eq⟩ := List.getElem?_eq_some_iff.mp ey
      rw [List.drop_eq_getElem_cons lt, eq]
    rw [dr] at hr
    unfold lcGo at hr
    obtain ⟨env1, e1, hr⟩ := Option.bind_eq_some_iff.mp hr
    obtain ⟨k, e2, hr⟩ := Option.bind_eq_some_iff.mp hr
    obtain ⟨qs, pr, mem, go⟩ := hg.go _ H3 x y env1 ry2 e1
    have hs3 := Slots.sets pr hs2
    refine go _ _ ⟨?_, ht _ _ k _ H3 _ hs3 e2 fun H4 s4 => ?_⟩
    · rw [wipe_setA fun q hq => hi _ (mem q hq), wipe_wipe fun _ h => h]
    · have hD4 := s4 _ _ (s3 _ _ hD)
      have s14 := s2.trans (s3.trans s4)
      have rs4 := (Rep.same s3 rs).same s4
      by_cases c : k = true
      · rw [if_pos c] at hr ⊢
        obtain ⟨z, e3, hr⟩ := Option.bind_eq_some_iff.mp hr
        obtain ⟨ys', e4, hr⟩ := Option.bind_eq_some_iff.mp hr
        cases hr
        refine ⟨_, _, z, hs3.same s4, e3, fun u H5 s5 ru => ⟨acc, s5 _ _ hD4, most_line (by omega), ?_⟩⟩
        have kp : Keep (fun b => P b ∨ b = D) H5 (upd H5 D (.lst (acc ++ [u]))) := fun b o e n => by
          rw [upd_ne fun z => n (.inr z)]
          exact e
        refine ⟨acc ++ [u], dn ++ [z], ys', upd_same, fun b o e => ?_, Res.snoc ((Rep.same s5 rs4).keep kp) (ru.keep kp), e4, by rw [List.append_assoc]; exact hy, by rw [List.length_append]; show acc.length + 1 ≤ i + 1; omega⟩
        rw [upd_ne (ne_of_none e nD)]
        exact s5 _ _ (s14 _ _ e)
      · rw [if_neg c] at hr ⊢
        exact ⟨acc, dn, rest, hD4, s14, rs4, hr, hy, by omega⟩
  · rintro H2 ⟨acc, dn, rest, hD, s2, rs, hr, hy, la⟩
    rw [List.drop_length] at hr
    cases hr
    rw [List.append_nil] at hy
    subst hy
    exact q D acc H2 (s1.trans s2) (s1.free nD) hD rs (by rw [← Res.length rs]; omega)
section
variable {X : Cx} {cm : Cm} {a b c e : Expr} {es : List Expr} {f g h : En → Option Val} {pos : Pos}
/-- a new list as any other value -/
theorem vn_ve {k : En → Option (List Val)} (h : VN X cm e k) : VE X cm e (fun env => (k env).map .lst) := h.weak fun σ H Q ⟨P, env, z, hs, hf, q⟩ => by
  obtain ⟨xs, ex, rfl⟩ := Option.map_eq_some_iff.mp hf
  exact ⟨P, env, xs, hs, ex, fun a vs H' s na ha rs _ => q _ H' s (.lst (hs.hid.new na) ha (rs.less fun b c => .inl c))⟩
theorem vn_lc {elt tg iter : Expr} {ifs : List Expr} {scope : Scope} {own : List (Str × Nat)} {g : TG} {tt : TT} {fi : En → Option (List Val)} {bnd : Val → Option (List (Nat × Val))} {ft : En → Option Bool} {fe : En → Option Val} {is : List Nat} (hc : X.calm = true) (hN : X.N.Nodup) (hi : VI X cm tg iter fi) (ok : BlkOk X.N X.env.scope scope own)
    (hg : ∀ (s : Shared) (H : Hp) (C : Addr) (cl : List (Str × Addr)) (fp : List Addr), PG (X.blk s H scope (compEnvC scope cl C X.env) fp) tg g) (ht : ∀ (s : Shared) (H : Hp) (C : Addr) (cl : List (Str × Addr)) (fp : List Addr), PTs (X.blk s H scope (compEnvC scope cl C X.env) fp) ifs tt)
    (he : ∀ (s : Shared) (H : Hp) (C : Addr) (cl : List (Str × Addr)) (fp : List Addr), VE (X.blk s H scope (compEnvC scope cl C X.env) fp) cm elt fe) (tg_ : TgV cm g bnd is) (hi2 : ∀ i ∈ is, i ∈ own.map (·.2)) (tt_ : TtV cm tt ft) (hs : ∀ x, foldedSetIterable iter X.env x = pure x := by intro _; rfl) :
    VN X cm (.ListComp elt [⟨tg, iter, ifs, 0⟩] scope pos) (lcF fi bnd ft fe (own.map (·.2))) := (pe_lc hc hN hi ok hg ht he hs).weak (tLc_of tg_ hi2 tt_)
end
end Up

namespace Up
open PySem PySem.Spec PyProof.Rows L2
/-! ### statements: names that hold values, and names in ow that hold lists of their own -/
def isOwn (ow : List Nat) (env : En) (σ : L2.St) (a : Addr) : Prop := ∃ i ∈ ow, (∃ x, env[i]? = some (some x)) ∧ σ[i]? = some (some (.ref a))
def Ow (P : Addr → Prop) (ow : List Nat) (env : En) (σ : L2.St) (a : Addr) : Prop := P a ∨ isOwn ow env σ a
/-- what is owned: a list, a set, a dict whose keys are tuples -/
inductive Top (cm : Cm) (P : Addr → Prop) (H : Hp) (a : Addr) : Val → Prop where
  | lst {vs : List V} {xs : List Val} : H a = some (.lst vs) → Res cm P H vs xs → Top cm P H a (.lst xs)
  | set {S : Int → Bool} {n : Nat} {xs : List Int} : H a = some (SetO cm.w a S n) → (∀ i, S i = decide (i ∈ xs)) → n = xs.length → Top cm P H a (.set xs)
  | dct {kvs : List (List Key × V)} {ks : List (List Key)} {vs : List V} {xs : List Val} : H a = some (.dT kvs) → kvs.length = ks.length → vs.length = ks.length →
      (∀ (i : Nat) (k : List Key) (v : V), ks[i]? = some k → vs[i]? = some v → valV kvs k = some v) → (∀ k, k ∉ ks → valV kvs k = none) → Res cm P H vs xs → Top cm P H a (.dct ks xs)
theorem Top.re {cm : Cm} {P P' : Addr → Prop} {H : Hp} {a : Addr} {x : Val} (s : ∀ b, P' b → P b) (n : ¬ P' a) (t : Top cm P H a x) : Re cm P' H (.ref a) x := by
  cases t with
  | lst h r => exact .lst n h (r.less s)
  | set h h1 h2 => exact .set n h h1 h2
  | dct h l1 l2 g1 g2 r => exact .dct n h l1 l2 g1 g2 (r.less s)
theorem Top.same {cm : Cm} {P : Addr → Prop} {H H' : Hp} {a : Addr} {x : Val} (s : Same H H') (t : Top cm P H a x) : Top cm P H' a x := by
  cases t with
  | lst h r => exact .lst (s _ _ h) (Rep.same s r)
  | set h h1 h2 => exact .set (s _ _ h) h1 h2
  | dct h l1 l2 g1 g2 r => exact .dct (s _ _ h) l1 l2 g1 g2 (Rep.same s r)
/-- another object of one's own was changed -/
theorem Top.keep {cm : Cm} {P : Addr → Prop} {H H' : Hp} {a : Addr} {x : Val} (e : ∀ o, H a = some o → H' a = some o) (s : Keep P H H') (t : Top cm P H a x) : Top cm P H' a x := by
  cases t with
  | lst h r => exact .lst (e _ h) (Rep.keep s r)
  | set h h1 h2 => exact .set (e _ h) h1 h2
  | dct h l1 l2 g1 g2 r => exact .dct (e _ h) l1 l2 g1 g2 (Rep.keep s r)
theorem Top.no {cm : Cm} {P : Addr → Prop} {H : Hp} {a : Addr} {x : Val} (t : Top cm P H a x) : ∃ o, H a = some o ∧ ∀ vs, o ≠ .tup vs := by
  cases t with
  | lst h r => exact ⟨_, h, fun vs z => by cases z⟩
  | set h h1 h2 => exact ⟨_, h, fun vs z => by cases z⟩
  | dct h l1 l2 g1 g2 r => exact ⟨_, h, fun vs z => by cases z⟩
structure StV (cm : Cm) (P : Addr → Prop) (ow : List Nat) (H0 : Hp) (env : En) (σ : L2.St) (H : Hp) : Prop where
  sl : Slots cm (Ow P ow env σ) H σ (wipeE env ow)
  own : ∀ i ∈ ow, ∀ x, env[i]? = some (some x) → ∃ a, σ[i]? = some (some (.ref a)) ∧ ¬ P a ∧ H0 a = none ∧ Top cm (Ow P ow env σ) H a x
  dis : ∀ i ∈ ow, ∀ j ∈ ow, ∀ a, (∃ x, env[i]? = some (some x)) → (∃ x, env[j]? = some (some x)) → σ[i]? = some (some (.ref a)) → σ[j]? = some (some (.ref a)) → i = j
  len : σ.length = env.length
  base : Same H0 H
inductive Out where
  | nx (env : En)
  | rt (x : Val)
  | bk (env : En)
  | ct (env : En)
/-- what stood stays, but what is owned; what is newly owned is new -/
structure Fr (P : Addr → Prop) (ow : List Nat) (env : En) (σ : L2.St) (H : Hp) (env' : En) (σ' : L2.St) (H' : Hp) : Prop where
  kp : Keep (Ow P ow env σ) H H'
  nw : ∀ a, Ow P ow env' σ' a → Ow P ow env σ a ∨ H a = none
  st : ∀ a, NT H a → NT H' a
theorem Fr.refl {P : Addr → Prop} {ow : List Nat} {env : En} {σ : L2.St} {H : Hp} : Fr P ow env σ H env σ H := ⟨.refl, fun a c => .inl c, fun a n => n⟩
theorem Fr.trans {P : Addr → Prop} {ow : List Nat} {env e1 e2 : En} {σ s1 s2 : L2.St} {H H1 H2 : Hp} (a : Fr P ow env σ H e1 s1 H1) (b : Fr P ow e1 s1 H1 e2 s2 H2) : Fr P ow env σ H e2 s2 H2 := by
  have back : ∀ c, H1 c = none → Ow P ow env σ c ∨ H c = none := fun c h => by
    by_cases k : Ow P ow env σ c
    · exact .inl k
    · cases e : H c with
      | none => exact .inr rfl
      | some o =>
        rw [a.kp c o e k] at h
        cases h
  refine ⟨fun c o e n => b.kp c o (a.kp c o e n) fun k => ?_, fun c k => ?_, fun c n => b.st c (a.st c n)⟩
  · rcases a.nw c k with z | z
    · exact n z
    · rw [e] at z
      cases z
  · rcases b.nw c k with z | z
    · exact a.nw c z
    · exact back c z
def Ends.at_ (cm : Cm) (P : Addr → Prop) (ow : List Nat) (H0 : Hp) (env : En) (σ : L2.St) (H : Hp) (D : Ends) : Out → Prop
  | .nx env' => ∀ σ' H', StV cm P ow H0 env' σ' H' → Fr P ow env σ H env' σ' H' → D.nx σ' H'
  | .bk env' => ∀ σ' H', StV cm P ow H0 env' σ' H' → Fr P ow env σ H env' σ' H' → D.bk σ' H'
  | .ct env' => ∀ σ' H', StV cm P ow H0 env' σ' H' → Fr P ow env σ H env' σ' H' → D.ct σ' H'
  | .rt x => ∀ v H', Same H0 H' → Re cm P H' v x → D.rt v H'
def tSV (cm : Cm) (ow : List Nat) (g : En → Option Out) : TS := fun D σ H => ∃ (P : Addr → Prop) (H0 : Hp) (env : En) (o : Out), StV cm P ow H0 env σ H ∧ g env = some o ∧ Ends.at_ cm P ow H0 env σ H D o
abbrev SV (X : Cx) (cm : Cm) (ow : List Nat) (st : Stmt) (g : En → Option Out) : Prop := PS X st (tSV cm ow g)
abbrev SVs (X : Cx) (cm : Cm) (ow : List Nat) (st : List Stmt) (g : En → Option Out) : Prop := PSs X st (tSV cm ow g)
theorem _root_.L2.PS.weak {X : Cx} {st : Stmt} {t t' : TS} (h : PS X st t) (k : ∀ D σ H, t' D σ H → t D σ H) : PS X st t' := ⟨fun pins s σ H D I q => h.run pins s σ H D I (k D σ H q)⟩
theorem _root_.L2.PSs.weak {X : Cx} {st : List Stmt} {t t' : TS} (h : PSs X st t) (k : ∀ D σ H, t' D σ H → t D σ H) : PSs X st t' := ⟨fun pins s σ H D I q => h.run pins s σ H D I (k D σ H q)⟩
section
variable {cm : Cm} {P : Addr → Prop} {ow : List Nat} {H0 H H' : Hp} {env : En} {σ : L2.St}
theorem StV.same (s : Same H H') (h : StV cm P ow H0 env σ H) : StV cm P ow H0 env σ H' :=
  ⟨h.sl.same s, fun i hi x e => let ⟨a, h2, h4, h5, h6⟩ := h.own i hi x e; ⟨a, h2, h4, h5, h6.same s⟩, h.dis, h.len, h.base.trans s⟩
theorem Fr.same (s : Same H H') : Fr P ow env σ H env σ H' := ⟨.of s, fun a c => .inl c, fun a n => n.same s⟩
theorem wipeE_len (env : En) : ∀ vs : List Nat, (wipeE env vs).length = env.length
  | [] => rfl
  | v :: vs => by
    show ((wipeE env vs).set v none).length = _
    rw [List.length_set, wipeE_len env vs]
theorem wipeE_in {env : En} {i : Nat} : ∀ {vs : List Nat}, i ∈ vs → ∀ x, (wipeE env vs)[i]? ≠ some (some x)
  | v :: vs, h, x, e => by
    replace e : ((wipeE env vs).set v none)[i]? = some (some x) := e
    by_cases c : v = i
    · subst c
      have lt := (List.getElem?_eq_some_iff.mp e).1
      rw [List.length_set] at lt
      rw [List.getElem?_set_self lt] at e
      cases e
    · rw [List.getElem?_set_ne c] at e
      rcases List.mem_cons.mp h with z | z
      · exact c z.symm
      · exact wipeE_in z x e
theorem wipeE_out {env : En} {i : Nat} : ∀ {vs : List Nat}, i ∉ vs → (wipeE env vs)[i]? = env[i]?
  | [], _ => rfl
  | v :: vs, h => by
    show ((wipeE env vs).set v none)[i]? = _
    rw [List.getElem?_set_ne (fun (c : v = i) => h (by rw [c]; exact List.mem_cons_self ..))]
    exact wipeE_out fun c => h (List.mem_cons_of_mem _ c)
theorem wipeE_set {env : En} {i : Nat} {o : Option Val} : ∀ {vs : List Nat}, i ∉ vs → wipeE (env.set i o) vs = (wipeE env vs).set i o
  | [], _ => rfl
  | v :: vs, h => by
    show (wipeE (env.set i o) vs).set v none = ((wipeE env vs).set v none).set i o
    rw [wipeE_set fun c => h (List.mem_cons_of_mem _ c), List.set_comm _ _ (fun (c : i = v) => h (by rw [c]; exact List.mem_cons_self ..))]
/-- all of it, as it is read -/
theorem StV.view (h : StV cm P ow H0 env σ H) : Slots cm P H σ env := by
  refine ⟨h.len, fun i x e => ?_, fun a p => h.sl.hid a (.inl p)⟩
  by_cases c : i ∈ ow
  · obtain ⟨a, h2, h4, h5, h6⟩ := h.own i c x e
    exact ⟨_, h2, h6.re (fun b z => .inl z) h4⟩
  · obtain ⟨v, h1, h2⟩ := h.sl.at_ i x (by rw [wipeE_out c]; exact e)
    exact ⟨v, h1, h2.less fun b z => .inl z⟩
theorem Ow.set {i : Nat} {o : Option V} {x : Option Val} (hi : i ∉ ow) (a : Addr) : Ow P ow (env.set i x) (σ.set i o) a ↔ Ow P ow env σ a := by
  have k : ∀ {α : Type} (l : List α) (y : α) (j : Nat), j ∈ ow → (l.set i y)[j]? = l[j]? := fun l y j hj => List.getElem?_set_ne (fun (c : i = j) => hi (by rw [c]; exact hj))
  constructor
  · rintro (c | ⟨j, hj, ⟨y, hy⟩, hs⟩)
    · exact .inl c
    · rw [k _ _ j hj] at hy hs
      exact .inr ⟨j, hj, ⟨y, hy⟩, hs⟩
  · rintro (c | ⟨j, hj, ⟨y, hy⟩, hs⟩)
    · exact .inl c
    · exact .inr ⟨j, hj, ⟨y, by rw [k _ _ j hj]; exact hy⟩, by rw [k _ _ j hj]; exact hs⟩
theorem StV.set (h : StV cm P ow H0 env σ H) {i : Nat} (hi : i ∉ ow) {v : V} {x : Val} (r : Re cm (Ow P ow env σ) H v x) : StV cm P ow H0 (env.set i (some x)) (σ.set i (some v)) H := by
  have k : ∀ {α : Type} (l : List α) (y : α) (j : Nat), j ∈ ow → (l.set i y)[j]? = l[j]? := fun l y j hj => List.getElem?_set_ne (fun (c : i = j) => hi (by rw [c]; exact hj))
  have e1 : Ow P ow (env.set i (some x)) (σ.set i (some v)) = Ow P ow env σ := funext fun a => propext (Ow.set hi a)
  refine ⟨?_, fun j hj y e => ?_, fun j hj l hl a x1 x2 e3 e4 => ?_, by rw [List.length_set, List.length_set]; exact h.len, h.base⟩
  · rw [e1, wipeE_set hi]
    exact h.sl.set r
  · rw [k _ _ j hj] at e
    obtain ⟨a, h2, h4, h5, h6⟩ := h.own j hj y e
    exact ⟨a, by rw [k _ _ j hj]; exact h2, h4, h5, by rw [e1]; exact h6⟩
  · rw [k _ _ j hj] at x1 e3
    rw [k _ _ l hl] at x2 e4
    exact h.dis j hj l hl a x1 x2 e3 e4
theorem Fr.set {i : Nat} (hi : i ∉ ow) {o : Option V} {x : Option Val} (s : Same H H') : Fr P ow env σ H (env.set i x) (σ.set i o) H' := ⟨.of s, fun a c => .inl ((Ow.set hi a).mp c), fun a n => n.same s⟩
end
section
variable {X : Cx} {cm : Cm} {ow : List Nat} {a b c e : Expr} {es : List Expr} {f g h : En → Option Val} {pos : Pos} {st : Stmt} {rest : List Stmt}
def nilG : En → Option Out := fun env => some (.nx env)
def seqG (g k : En → Option Out) : En → Option Out := fun env => (g env).bind fun o => match o with
  | .nx env' => k env'
  | o => some o
theorem sv_nil : SVs X cm ow [] nilG := pss_nil.weak fun D σ H ⟨P, H0, env, o, hs, hg, q⟩ => by
  cases hg
  exact q σ H hs .refl
theorem sv_one {k : En → Option Out} (h : SV X cm ow st k) : SVs X cm ow [st] k := pss_one h
theorem sv_cons {k l : En → Option Out} (h1 : SV X cm ow st k) (h2 : SVs X cm ow rest l) : SVs X cm ow (st :: rest) (seqG k l) := (pss_cons h1 h2).weak fun D σ H ⟨P, H0, env, o, hs, hg, q⟩ => by
  unfold seqG at hg
  obtain ⟨o1, e1, hg⟩ := Option.bind_eq_some_iff.mp hg
  refine ⟨P, H0, env, o1, hs, e1, ?_⟩
  cases o1 with
  | nx env1 =>
    intro σ1 H1 hs1 f1
    refine ⟨P, H0, env1, o, hs1, hg, ?_⟩
    cases o with
    | nx env2 => exact fun σ2 H2 hs2 f2 => q σ2 H2 hs2 (f1.trans f2)
    | bk env2 => exact fun σ2 H2 hs2 f2 => q σ2 H2 hs2 (f1.trans f2)
    | ct env2 => exact fun σ2 H2 hs2 f2 => q σ2 H2 hs2 (f1.trans f2)
    | rt x => exact q
  | bk env1 =>
    cases hg
    exact q
  | ct env1 =>
    cases hg
    exact q
  | rt x =>
    cases hg
    exact q
def passG : En → Option Out := fun env => some (.nx env)
theorem sv_pass : SV X cm ow (.Pass pos) passG := ps_pass.weak fun D σ H ⟨P, H0, env, o, hs, hg, q⟩ => by
  cases hg
  exact q σ H hs .refl
def brkG : En → Option Out := fun env => some (.bk env)
theorem sv_break : SV X cm ow (.Break pos) brkG := ps_break.weak fun D σ H ⟨P, H0, env, o, hs, hg, q⟩ => by
  cases hg
  exact q σ H hs .refl
def ctnG : En → Option Out := fun env => some (.ct env)
theorem sv_continue : SV X cm ow (.Continue pos) ctnG := ps_continue.weak fun D σ H ⟨P, H0, env, o, hs, hg, q⟩ => by
  cases hg
  exact q σ H hs .refl
def nevG : En → Option Out := fun _ => none
theorem sv_never : SV X cm ow st nevG := ps_never.weak fun D σ H ⟨P, H0, env, o, hs, hg, q⟩ => by cases hg
def retG (f : En → Option Val) : En → Option Out := fun env => (f env).map .rt
theorem sv_ret (he : VE X cm e f) : SV X cm ow (.Return (some e) pos) (retG f) := (ps_ret he).weak fun D σ H ⟨P, H0, env, o, hs, hg, q⟩ => by
  obtain ⟨x, ex, rfl⟩ := Option.map_eq_some_iff.mp hg
  exact ⟨P, env, x, hs.view, ex, fun v H1 s1 r1 => q v H1 (hs.base.trans s1) r1⟩
def retNG : En → Option Out := fun _ => some (.rt .non)
theorem sv_retN : SV X cm ow (.Return none pos) retNG := ps_retN.weak fun D σ H ⟨P, H0, env, o, hs, hg, q⟩ => by
  cases hg
  exact q _ H hs.base .non
def doG (f : En → Option Val) : En → Option Out := fun env => (f env).map fun _ => .nx env
theorem sv_do (he : VE X cm e f) (hs : swapsWith e none pos.line X.env = pure false := by rfl) : SV X cm ow (.Expr e pos) (doG f) := (ps_expr he hs).weak fun D σ H ⟨P, H0, env, o, hs, hg, q⟩ => by
  obtain ⟨x, ex, rfl⟩ := Option.map_eq_some_iff.mp hg
  exact ⟨P, env, x, hs.view, ex, fun v H1 s1 r1 => q σ H1 (hs.same s1) (.same s1)⟩
def ifG (t : En → Option Bool) (k l : En → Option Out) : En → Option Out := fun env => (t env).bind fun c => if c = true then k env else l env
theorem sv_if {t : En → Option Bool} {k l : En → Option Out} {x y : List Stmt} (hc : VT X cm c t) (ha : SVs X cm ow x k) (hb : SVs X cm ow y l) : SV X cm ow (.If c x y pos) (ifG t k l) := (ps_if hc ha hb).weak fun D σ H ⟨P, H0, env, o, hs, hg, q⟩ => by
  unfold ifG at hg
  obtain ⟨k1, e1, hg⟩ := Option.bind_eq_some_iff.mp hg
  refine ⟨P, env, k1, hs.view, e1, fun H1 s1 => ?_⟩
  have q1 : Ends.at_ cm P ow H0 env σ H1 D o := by
    cases o with
    | nx env2 => exact fun σ2 H2 hs2 f2 => q σ2 H2 hs2 (Fr.trans (.same s1) f2)
    | bk env2 => exact fun σ2 H2 hs2 f2 => q σ2 H2 hs2 (Fr.trans (.same s1) f2)
    | ct env2 => exact fun σ2 H2 hs2 f2 => q σ2 H2 hs2 (Fr.trans (.same s1) f2)
    | rt x => exact q
  show if k1 = true then tSV cm ow k D σ H1 else tSV cm ow l D σ H1
  by_cases c : k1 = true
  · rw [if_pos c] at hg ⊢
    exact ⟨P, H0, env, o, hs.same s1, hg, q1⟩
  · rw [if_neg c] at hg ⊢
    exact ⟨P, H0, env, o, hs.same s1, hg, q1⟩
/-- nothing of it is a list, a dict, an instance -/
def imm : Val → Bool
  | .lst _ => false
  | .dct _ _ => false
  | .ins _ _ _ => false
  | .set _ => false
  | .dk0 => false
  | .exc _ _ _ => false
  | .tup xs => imms xs
  | _ => true
where imms : List Val → Bool
  | [] => true
  | x :: xs => imm x && imms xs
theorem Rep.imm {P P' : Addr → Prop} {H : Hp} (hP : ∀ a, P' a → P a ∨ ∃ o, H a = some o ∧ ∀ vs, o ≠ .tup vs) : ∀ {b : Bool} {vs : List V} {xs : List Val}, Rep cm P H b vs xs → (b = true → ∀ x, xs = [x] → Up.imm x = true → Rep cm P' H b vs xs) ∧ (b = false → imm.imms xs = true → Rep cm P' H b vs xs) := fun h => by
  induction h with
  | nil => exact ⟨(fun e => nomatch e), fun _ _ => .nil⟩
  | cons r t i1 i2 =>
    refine ⟨(fun e => nomatch e), fun _ c => ?_⟩
    rw [imm.imms, Bool.and_eq_true] at c
    exact .cons (i1.1 rfl _ rfl c.1) (i2.2 rfl c.2)
  | non => exact ⟨fun _ x e c => .non, (fun e => nomatch e)⟩
  | bl b => exact ⟨fun _ x e c => .bl b, (fun e => nomatch e)⟩
  | int i => exact ⟨fun _ x e c => .int i, (fun e => nomatch e)⟩
  | str z => exact ⟨fun _ x e c => .str z, (fun e => nomatch e)⟩
  | loc a => exact ⟨fun _ x e c => .loc a, (fun e => nomatch e)⟩
  | lst n hh r ih =>
    refine ⟨fun _ x e c => ?_, (fun e => nomatch e)⟩
    cases e
    rw [Up.imm] at c
    cases c
  | tup n hh r ih =>
    refine ⟨fun _ x e c => ?_, (fun e => nomatch e)⟩
    cases e
    rw [Up.imm] at c
    refine .tup (fun z => ?_) hh (ih.2 rfl c)
    rcases hP _ z with k | ⟨o, k, no⟩
    · exact n k
    · rw [hh] at k
      cases k
      exact no _ rfl
  | dct n hh l1 l2 g1 g2 r ih =>
    refine ⟨fun _ x e c => ?_, (fun e => nomatch e)⟩
    cases e
    rw [Up.imm] at c
    cases c
  | ins n hh r ih =>
    refine ⟨fun _ x e c => ?_, (fun e => nomatch e)⟩
    cases e
    rw [Up.imm] at c
    cases c
  | set n hh k1 k2 =>
    refine ⟨fun _ x e c => ?_, (fun e => nomatch e)⟩
    cases e
    rw [Up.imm] at c
    cases c
  | dk0 n hh =>
    refine ⟨fun _ x e c => ?_, (fun e => nomatch e)⟩
    cases e
    rw [Up.imm] at c
    cases c
  | exc n hh k1 k2 r ih =>
    refine ⟨fun _ x e c => ?_, (fun e => nomatch e)⟩
    cases e
    rw [Up.imm] at c
    cases c
theorem StV.owl {P : Addr → Prop} {H0 H : Hp} {env : En} {σ : L2.St} (h : StV cm P ow H0 env σ H) : ∀ a, Ow P ow env σ a → P a ∨ ∃ o, H a = some o ∧ ∀ vs, o ≠ .tup vs := by
  rintro a (c | ⟨i, hi, ⟨x, hx⟩, hs⟩)
  · exact .inl c
  · obtain ⟨b, h2, _, _, h3⟩ := h.own i hi x hx
    rw [hs] at h2
    cases h2
    exact .inr h3.no
theorem StV.imm {P : Addr → Prop} {H0 H : Hp} {env : En} {σ : L2.St} (h : StV cm P ow H0 env σ H) {v : V} {x : Val} (r : Re cm P H v x) (c : Up.imm x = true) : Re cm (Ow P ow env σ) H v x := (Rep.imm h.owl r).1 rfl x rfl c
/-- how a value is read that is kept: without what is owned, or told without lists -/
def SrV (cm : Cm) (ow : List Nat) (r : En → Option Val) (t : TE) : Prop := ∀ (P : Addr → Prop) (H0 H : Hp) (env : En) (σ : L2.St) (x : Val) (Q : VK), StV cm P ow H0 env σ H → r env = some x → (∀ v H', Same H H' → Re cm (Ow P ow env σ) H' v x → Q v H') → t σ H Q
def stF (ow : List Nat) (f : En → Option Val) : En → Option Val := fun env => f (wipeE env ow)
def boF (f : En → Option Val) : En → Option Val := fun env => (f env).bind fun x => if imm x = true then some x else none
theorem sr_st : SrV cm ow (stF ow f) (tV cm f) := fun P H0 H env σ x Q hs e q => ⟨_, wipeE env ow, x, hs.sl, e, q⟩
theorem sr_bo : SrV cm ow (boF f) (tV cm f) := fun P H0 H env σ x Q hs e q => by
  unfold boF at e
  obtain ⟨y, ey, e⟩ := Option.bind_eq_some_iff.mp e
  split at e
  case isFalse => cases e
  rename_i ci
  cases e
  exact ⟨P, env, _, hs.view, ey, fun v H1 s1 r1 => q v H1 s1 ((hs.same s1).imm r1 ci)⟩
def setG (i : Nat) (r : En → Option Val) : En → Option Out := fun env => (r env).map fun x => .nx (env.set i (some x))
theorem sv_set {r : En → Option Val} {i : Nat} {x : Str} {pos' : Pos} (hN : X.N.Nodup) (hi : X.N[i]? = some x) (hx : Loc X.env.scope x) (ho : i ∉ ow) (he : VE X cm e f) (sr : SrV cm ow r (tV cm f)) (hs : swapsWith e (some (.Name x pos')) pos.line X.env = pure false := by rfl) (hf : X.fn x = true ∨ X.env.scope.names.lookup x = some .local := by first | exact .inl rfl | exact .inr rfl | assumption) :
    SV X cm ow (.Assign [.Name x pos'] e pos) (setG i r) := (ps_set hN hi hx he hs hf).weak fun D σ H ⟨P, H0, env, o, hs, hg, q⟩ => by
  obtain ⟨y, ey, rfl⟩ := Option.map_eq_some_iff.mp hg
  exact sr P H0 H env σ y _ hs ey fun v H1 s1 r1 => q _ H1 ((hs.same s1).set ho r1) (Fr.set ho s1)
/-! tuples taken apart -/
theorem StV.sets {P : Addr → Prop} {H0 H : Hp} {qs : List (Nat × V)} {ps : List (Nat × Val)} {Q : Addr → Prop} (pr : Prs cm Q H qs ps) : ∀ {env : En} {σ : L2.St}, (∀ q ∈ qs, q.1 ∉ ow) → Q = Ow P ow env σ → StV cm P ow H0 env σ H → StV cm P ow H0 (setE env ps) (setA σ qs) H ∧ ∀ a, Ow P ow (setE env ps) (setA σ qs) a ↔ Ow P ow env σ a := by
  induction pr with
  | nil => exact fun _ _ h => ⟨h, fun _ => .rfl⟩
  | @cons q p qs ps r t ih =>
    intro env σ hn eQ h
    obtain ⟨e, r⟩ := r
    obtain ⟨i, v⟩ := q
    obtain ⟨j, x⟩ := p
    obtain rfl : i = j := e
    have n1 : i ∉ ow := hn (i, v) (List.mem_cons_self ..)
    have e1 : Ow P ow (env.set i (some x)) (σ.set i (some v)) = Ow P ow env σ := funext fun a => propext (Ow.set n1 a)
    subst eQ
    have h1 := h.set n1 r
    obtain ⟨h2, h3⟩ := ih (fun q hq => hn q (List.mem_cons_of_mem _ hq)) e1.symm h1
    exact ⟨h2, fun a => (h3 a).trans (Ow.set n1 a)⟩
def asgG (m : Val → Option (List (Nat × Val))) (r : En → Option Val) : En → Option Out := fun env => (r env).bind fun x => (m x).map fun ps => .nx (setE env ps)
theorem sv_asg {r : En → Option Val} {tg : Expr} {g : TG} {m : Val → Option (List (Nat × Val))} {is : List Nat} (he : VE X cm e f) (sr : SrV cm ow r (tV cm f)) (hg : PG X tg g) (tg_ : TgV cm g m is) (ho : ∀ i ∈ is, i ∉ ow) (hs : swapsWithSole [tg] e pos.line X.env = pure false := by rfl) (hw : swappedStores [tg] e X.env = pure none := by rfl)
    (h1 : (assignEach [tg] X.env).map (·.2) = [assign tg X.env] := by rfl) : SV X cm ow (.Assign [tg] e pos) (asgG m r) := (ps_asg he hg hs hw h1).weak fun D σ H ⟨P, H0, env, o, hs, hk, q⟩ => by
  unfold asgG at hk
  obtain ⟨y, ey, hk⟩ := Option.bind_eq_some_iff.mp hk
  obtain ⟨ps, e2, rfl⟩ := Option.map_eq_some_iff.mp hk
  refine sr P H0 H env σ y _ hs ey fun v H1 s1 r1 => ?_
  obtain ⟨qs, pr, mem, go⟩ := tg_.go _ H1 v y ps r1 e2
  obtain ⟨h2, h3⟩ := StV.sets pr (fun q hq => ho _ (mem q hq)) rfl (hs.same s1)
  exact go σ _ (q _ H1 h2 ⟨.of s1, fun a c => .inl ((h3 a).mp c), fun a n => n.same s1⟩)
end
end Up

namespace Up
open PySem PySem.Spec PyProof.Rows L2
section
variable {X : Cx} {cm : Cm} {ow : List Nat} {a b c e : Expr} {es : List Expr} {f g h : En → Option Val} {pos : Pos} {st : Stmt} {rest : List Stmt}
/-! ### loops -/
def forGo (m : Val → Option (List (Nat × Val))) (body : En → Option Out) : List Val → En → Option Out
  | [], env => some (.nx env)
  | x :: xs, env => (m x).bind fun ps => (body (setE env ps)).bind fun o => match o with
    | .nx env' => forGo m body xs env'
    | .ct env' => forGo m body xs env'
    | .bk env' => some (.nx env')
    | .rt y => some (.rt y)
def forG (ow : List Nat) (fi : En → Option (List Val)) (m : Val → Option (List (Nat × Val))) (body : En → Option Out) : En → Option Out := fun env => (fi (wipeE env ow)).bind fun xs => forGo m body xs env
theorem sv_for {tg iter : Expr} {body : List Stmt} {fi : En → Option (List Val)} {gt : TG} {m : Val → Option (List (Nat × Val))} {is : List Nat} {k : En → Option Out} (hp : PassesOwn (model X.prog X.w) X.A X.env X.xe) (hc : X.calm = true) (hi : VI X cm tg iter fi) (hg : PG X tg gt) (hb : SVs X cm ow body k) (tg_ : TgV cm gt m is) (ho : ∀ i ∈ is, i ∉ ow)
    (hs : ∀ x, foldedSetIterable iter X.env x = pure x := by intro _; rfl) : SV X cm ow (.For tg iter body [] pos) (forG ow fi m k) := (ps_for hp hc hi hg hb hs).weak fun D σ H ⟨P, H0, env, o, hs, hk, q⟩ => by
  unfold forG at hk
  obtain ⟨xs, ex, hk⟩ := Option.bind_eq_some_iff.mp hk
  refine ⟨_, wipeE env ow, xs, hs.sl, ex, fun J H1 s1 w => ?_⟩
  refine for_it w (fun i σ' H' => ∃ env', StV cm P ow H0 env' σ' H' ∧ Fr P ow env σ H env' σ' H' ∧ Keep (Ow P ow env σ) H1 H' ∧ (∀ a, Ow P ow env' σ' a → Ow P ow env σ a ∨ H1 a = none) ∧ Hid (Ow P ow env σ) H' ∧ forGo m k (xs.drop i) env' = some o) ⟨env, hs.same s1, .same s1, .refl, fun a c => .inl c, (hs.same s1).sl.hid, hk⟩ (fun i σ' H' _ ⟨_, _, _, k1, _, k2, _⟩ => ⟨k1, k2⟩) ?_ ?_
  · rintro i x σ' H' H2 hi2 ⟨env', hs', fr, kp, nw, hid, hgo⟩ ⟨s2, y, ey, ry⟩
    have ry2 := ry _ nw hs'.sl.hid
    have dr : xs.drop i = y :: xs.drop (i + 1) := by
      obtain ⟨lt, eq⟩ := List.getElem?_eq_some_iff.mp ey
      rw [List.drop_eq_getElem_cons lt, eq]
    rw [dr] at hgo
    unfold forGo at hgo
    obtain ⟨ps, e1, hgo⟩ := Option.bind_eq_some_iff.mp hgo
    obtain ⟨o1, e2, hgo⟩ := Option.bind_eq_some_iff.mp hgo
    obtain ⟨qs, pr, mem, go⟩ := tg_.go _ H2 x y ps ry2 e1
    obtain ⟨h2, h3⟩ := StV.sets pr (fun q hq => ho _ (mem q hq)) rfl (hs'.same s2)
    have f2 : Fr P ow env' σ' H' (setE env' ps) (setA σ' qs) H2 := ⟨.of s2, fun a c => .inl ((h3 a).mp c), fun a n => n.same s2⟩
    have turn : ∀ (env3 : En) (σ3 : L2.St) (H3 : Hp), StV cm P ow H0 env3 σ3 H3 → Fr P ow (setE env' ps) (setA σ' qs) H2 env3 σ3 H3 → Fr P ow env σ H env3 σ3 H3 ∧ Keep (Ow P ow env σ) H1 H3 ∧ (∀ a, Ow P ow env3 σ3 a → Ow P ow env σ a ∨ H1 a = none) ∧ Hid (Ow P ow env σ) H3 := fun env3 σ3 H3 hs3 f3 => by
      have f23 := f2.trans f3
      refine ⟨fr.trans f23, fun b o e n => ?_, fun a c => ?_, fun b c => ?_⟩
      · refine f23.kp b o (kp b o e n) fun z => ?_
        rcases nw b z with y | y
        · exact n y
        · rw [e] at y
          cases y
      · rcases f23.nw a c with z | z
        · exact nw a z
        · by_cases n : Ow P ow env σ a
          · exact .inl n
          · cases e : H1 a with
            | none => exact .inr rfl
            | some o =>
              rw [kp a o e n] at z
              cases z
      · exact f23.st b (hid b c)
    refine go σ' _ ⟨P, H0, _, o1, h2, e2, ?_⟩
    cases o1 with
    | nx env3 =>
      intro σ3 H3 hs3 f3
      obtain ⟨t1, t2, t3, t4⟩ := turn env3 σ3 H3 hs3 f3
      exact ⟨env3, hs3, t1, t2, t3, t4, hgo⟩
    | ct env3 =>
      intro σ3 H3 hs3 f3
      obtain ⟨t1, t2, t3, t4⟩ := turn env3 σ3 H3 hs3 f3
      exact ⟨env3, hs3, t1, t2, t3, t4, hgo⟩
    | bk env3 =>
      cases hgo
      intro σ3 H3 hs3 f3
      exact q σ3 H3 hs3 (turn env3 σ3 H3 hs3 f3).1
    | rt z =>
      cases hgo
      exact q
  · rintro σ' H' ⟨env', hs', fr, kp, nw, hid, hgo⟩
    rw [List.drop_length] at hgo
    cases hgo
    exact q σ' H' hs' fr
/-! while, with a number of turns that is enough -/
def whGo (t : En → Option Bool) (body : En → Option Out) : Nat → En → Option Out
  | 0, _ => none
  | n + 1, env => (t env).bind fun c => if c = true then (body env).bind fun o => match o with
    | .nx env' => whGo t body n env'
    | .ct env' => whGo t body n env'
    | .bk env' => some (.nx env')
    | .rt y => some (.rt y)
    else some (.nx env)
theorem sv_while {t : En → Option Bool} {body : List Stmt} {k : En → Option Out} {n : Nat} (hp : PassesOwn (model X.prog X.w) X.A X.env X.xe) (hc : VT X cm c t) (hb : SVs X cm ow body k) : SV X cm ow (.While c body [] pos) (whGo t k n) := (ps_while hp hc hb).weak fun D σ H ⟨P, H0, env, o, hs, hk, q⟩ => by
  refine ⟨fun m σ' H' => ∃ env', StV cm P ow H0 env' σ' H' ∧ Fr P ow env σ H env' σ' H' ∧ whGo t k m env' = some o, ⟨n, env, hs, .refl, hk⟩, ?_⟩
  rintro m σ' H' ⟨env', hs', fr, hw⟩
  cases m with
  | zero => cases hw
  | succ m =>
    unfold whGo at hw
    obtain ⟨k1, e1, hw⟩ := Option.bind_eq_some_iff.mp hw
    refine ⟨P, env', k1, hs'.view, e1, fun H1 s1 => ?_⟩
    show if k1 = true then _ else _
    by_cases c : k1 = true
    · rw [if_pos c] at hw ⊢
      obtain ⟨o1, e2, hw⟩ := Option.bind_eq_some_iff.mp hw
      refine ⟨fun σ2 H2 => ∃ m', m' < m + 1 ∧ ∃ env', StV cm P ow H0 env' σ2 H2 ∧ Fr P ow env σ H env' σ2 H2 ∧ whGo t k m' env' = some o, fun σ2 H2 h => h, ?_⟩
      refine ⟨P, H0, env', o1, hs'.same s1, e2, ?_⟩
      have f1 : Fr P ow env σ H env' σ' H1 := fr.trans (.same s1)
      cases o1 with
      | nx env3 => exact fun σ3 H3 hs3 f3 => ⟨m, Nat.lt_succ_self _, env3, hs3, f1.trans f3, hw⟩
      | ct env3 => exact fun σ3 H3 hs3 f3 => ⟨m, Nat.lt_succ_self _, env3, hs3, f1.trans f3, hw⟩
      | bk env3 =>
        cases hw
        exact fun σ3 H3 hs3 f3 => q σ3 H3 hs3 (f1.trans f3)
      | rt z =>
        cases hw
        exact q
    · rw [if_neg c] at hw ⊢
      cases hw
      exact q σ' H1 (hs'.same s1) (fr.trans (.same s1))
/-! ### a def -/
def runV (n k : Nat) (g : En → Option Out) (xs : List Val) : Option Val := if xs.length = k then (g (xs.map some ++ List.replicate (n - xs.length) none)).bind fun o => match o with
  | .nx _ => some .non
  | .rt y => some y
  | _ => none
  else none
theorem start_slots {P : Addr → Prop} {H : Hp} {N : List Str} {vs : List V} {xs : List Val} (hd : Hid P H) (r : Res cm P H vs xs) : Slots cm P H (start N vs) (xs.map some ++ List.replicate (N.length - xs.length) none) := by
  have l := Res.length r
  refine ⟨by simp [L2.start, l], fun i x e => ?_, hd⟩
  by_cases c : i < xs.length
  · rw [List.getElem?_append_left (by rw [List.length_map]; exact c), List.getElem?_map, List.getElem?_eq_getElem c] at e
    cases e
    obtain ⟨v, h1, h2⟩ := Res.get r (List.getElem?_eq_getElem c)
    refine ⟨v, ?_, h2⟩
    unfold L2.start
    rw [List.getElem?_append_left (by rw [List.length_map, l]; exact c), List.getElem?_map, h1]
    rfl
  · rw [List.getElem?_append_right (by rw [List.length_map]; omega)] at e
    have := List.mem_of_getElem? e
    rw [List.mem_replicate] at this
    cases this.2
theorem start_wipe {xs : List Val} {n : Nat} : ∀ {ow : List Nat}, (∀ i ∈ ow, xs.length ≤ i) → wipeE (xs.map some ++ List.replicate n none) ow = xs.map some ++ List.replicate n none
  | [], _ => rfl
  | i :: ow, h => by
    show (wipeE _ ow).set i none = _
    rw [start_wipe fun j hj => h j (List.mem_cons_of_mem _ hj)]
    have hi := h i (List.mem_cons_self ..)
    refine List.ext_getElem? fun j => ?_
    by_cases c : i = j
    · subst c
      rw [List.getElem?_set]
      split
      · split
        · rename_i lt
          rw [List.getElem?_append_right (by rw [List.length_map]; exact hi), List.getElem?_replicate, if_pos]
          rw [List.length_append, List.length_map, List.length_replicate] at lt
          rw [List.length_map]
          omega
        · rename_i lt
          rw [List.getElem?_eq_none]
          omega
      · rename_i c
        exact absurd rfl c
    · rw [List.getElem?_set_ne c]
theorem start_st {P : Addr → Prop} {H : Hp} {N : List Str} {vs : List V} {xs : List Val} (hd : Hid P H) (r : Res cm P H vs xs) (ho : ∀ i ∈ ow, xs.length ≤ i) : StV cm P ow H (xs.map some ++ List.replicate (N.length - xs.length) none) (start N vs) H := by
  have sl := start_slots (N := N) hd r
  have no : ∀ i ∈ ow, ∀ x, (xs.map some ++ List.replicate (N.length - xs.length) none)[i]? ≠ some (some x) := fun i hi x e => by
    rw [List.getElem?_append_right (by rw [List.length_map]; exact ho i hi)] at e
    have := List.mem_of_getElem? e
    rw [List.mem_replicate] at this
    cases this.2
  have eo : Ow P ow (xs.map some ++ List.replicate (N.length - xs.length) none) (start N vs) = P := funext fun a => propext ⟨fun c => c.elim id fun ⟨i, hi, ⟨x, hx⟩, _⟩ => absurd hx (no i hi x), .inl⟩
  exact ⟨by rw [eo, start_wipe ho]; exact sl, fun i hi x e => absurd e (no i hi x), fun i hi j hj a ⟨x, hx⟩ => absurd hx (no i hi x), sl.len, Same.refl H⟩
end
section
variable {P : Program} {w : World} {K : PySem.W.Frag} {mg : Str → Option Value} {base : Heap} {cm : Cm}
/-- a def that is a function of its arguments' trees -/
theorem okV {x qual : Str} {st : Stmt} {f : Addr} {fd : FuncData} {N ps : List Str} {k : Nat} (ow : List Nat) {g : En → Option Out} (F : Fun K x qual st f fd) (S : FnScope N ps (defScope st)) (ho : ∀ i ∈ ow, ps.length ≤ i)
    (hbody : ∀ (cdv : Value) (A : Around) (outer : List Env) (s : Shared) (H : Hp) (E : XK), Room k (A.deeper (envOfC qual (defScope st) s.heap.objs.size f cdv)) → SVs (cxOf CX0 P w K mg base N qual (defScope st) f cdv A outer s H E).nox cm ow (defBody st) g) :
    FnOk P w K mg base CX0 (k + 1) f fd ps (spV cm (runV N.length ps.length g)) := by
  refine F.ok S (fun vs H Q E h => ?_) (fun cdv A outer s H vs Q E hr h => ?_)
  · obtain ⟨P', xs, z, _, r, e, _⟩ := h
    unfold runV at e
    split at e
    · rename_i l
      rw [Res.length r]
      exact l
    · cases e
  · obtain ⟨P', xs, z, hd, r, e, q⟩ := h
    refine ⟨_, hbody cdv A outer s H E hr, ?_⟩
    unfold runV at e
    split at e
    case isFalse => cases e
    rename_i l
    obtain ⟨o, e1, e⟩ := Option.bind_eq_some_iff.mp e
    refine ⟨P', H, _, o, start_st (N := N) hd r (by rw [l]; exact ho), e1, ?_⟩
    cases o with
    | nx env' =>
      cases e
      exact fun σ' H' hs f => q _ H' hs.base .non
    | rt y =>
      cases e
      exact fun v H' s r => q v H' s r
    | bk env' => cases e
    | ct env' => cases e
end
end Up

namespace Up
open PySem PySem.Spec PyProof.Rows L2
section
variable {cm : Cm} {P : Addr → Prop} {ow : List Nat} {H0 H H' : Hp} {env : En} {σ : L2.St}
theorem wipeE_set_in {env : En} {i : Nat} {o : Option Val} : ∀ {vs : List Nat}, i ∈ vs → wipeE (env.set i o) vs = wipeE env vs
  | v :: vs, h => by
    show (wipeE (env.set i o) vs).set v none = (wipeE env vs).set v none
    by_cases c : i ∈ vs
    · rw [wipeE_set_in c]
    · rcases List.mem_cons.mp h with z | z
      · subst z
        rw [wipeE_set c, List.set_set]
      · exact absurd z c
theorem Top.move {P' : Addr → Prop} {a : Addr} {x : Val} (s : ∀ b, P' b → P b ∨ H b = none) (kp : Keep P H H') (e : ∀ o, H a = some o → H' a = some o) (t : Top cm P H a x) : Top cm P' H' a x := by
  cases t with
  | lst h r => exact .lst (e _ h) (Rep.move s kp r)
  | set h h1 h2 => exact .set (e _ h) h1 h2
  | dct h l1 l2 g1 g2 r => exact .dct (e _ h) l1 l2 g1 g2 (Rep.move s kp r)
theorem Top.less {P' : Addr → Prop} {a : Addr} {x : Val} (s : ∀ b, P' b → P b) (t : Top cm P H a x) : Top cm P' H a x := by
  cases t with
  | lst h r => exact .lst h (r.less s)
  | set h h1 h2 => exact .set h h1 h2
  | dct h l1 l2 g1 g2 r => exact .dct h l1 l2 g1 g2 (r.less s)
/-- a new thing of one's own -/
theorem StV.newO (h : StV cm P ow H0 env σ H) {i : Nat} (hi : i ∈ ow) (lt : i < env.length) {p : Addr} (np : H p = none) (s : Same H H') {x : Val} (t : Top cm (fun b => Ow P ow env σ b ∨ b = p) H' p x) :
    StV cm P ow H0 (env.set i (some x)) (σ.set i (some (.ref p))) H' ∧ Fr P ow env σ H (env.set i (some x)) (σ.set i (some (.ref p))) H' := by
  have nPp : ¬ Ow P ow env σ p := fun c => h.sl.hid.new np c
  have ll : i < σ.length := by
    rw [h.len]
    exact lt
  have k1 : ∀ a, Ow P ow (env.set i (some x)) (σ.set i (some (.ref p))) a → Ow P ow env σ a ∨ a = p := by
    rintro a (c | ⟨j, hj, ⟨y, hy⟩, hs⟩)
    · exact .inl (.inl c)
    · by_cases e : i = j
      · subst e
        rw [List.getElem?_set_self ll] at hs
        cases hs
        exact .inr rfl
      · rw [List.getElem?_set_ne e] at hy hs
        exact .inl (.inr ⟨j, hj, ⟨y, hy⟩, hs⟩)
  have k2 : ∀ a, Ow P ow (env.set i (some x)) (σ.set i (some (.ref p))) a → Ow P ow env σ a ∨ H a = none := fun a c => (k1 a c).imp id fun z => by rw [z]; exact np
  refine ⟨⟨⟨?_, fun j y e => ?_, fun a c => ?_⟩, fun j hj y e => ?_, fun j hj l hl a x1 x2 e3 e4 => ?_, by rw [List.length_set, List.length_set]; exact h.len, h.base.trans s⟩, .of s, k2, fun a n => n.same s⟩
  · rw [wipeE_set_in hi, List.length_set]
    exact h.sl.len
  · rw [wipeE_set_in hi] at e
    have n : i ≠ j := fun z => wipeE_in hi y (by rw [z]; exact e)
    obtain ⟨v, h1, h2⟩ := h.sl.at_ j y e
    exact ⟨v, by rw [List.getElem?_set_ne n]; exact h1, h2.move k2 (.of s)⟩
  · rcases k1 a c with z | z
    · exact (h.sl.hid.same s) a z
    · rw [z]
      exact t.no
  · by_cases e1 : i = j
    · subst e1
      rw [List.getElem?_set_self lt] at e
      cases e
      exact ⟨p, List.getElem?_set_self ll, fun c => nPp (.inl c), h.base.free np, t.less k1⟩
    · rw [List.getElem?_set_ne e1] at e
      obtain ⟨a, h2, h4, h5, h6⟩ := h.own j hj y e
      exact ⟨a, by rw [List.getElem?_set_ne e1]; exact h2, h4, h5, h6.move k2 (.of s) fun o eo => s _ _ eo⟩
  · have no : ∀ l, l ∈ ow → i ≠ l → (∃ y, env[l]? = some (some y)) → σ[l]? = some (some (.ref p)) → False := fun l hl n ⟨y, hy⟩ e => by
      obtain ⟨a, h2, _, _, h6⟩ := h.own l hl y hy
      rw [e] at h2
      cases h2
      obtain ⟨o, eo, _⟩ := h6.no
      rw [np] at eo
      cases eo
    by_cases n1 : i = j
    · by_cases n2 : i = l
      · exact n1.symm.trans n2
      · subst n1
        rw [List.getElem?_set_self ll] at e3
        cases e3
        rw [List.getElem?_set_ne n2] at x2 e4
        exact (no l hl n2 x2 e4).elim
    · by_cases n2 : i = l
      · subst n2
        rw [List.getElem?_set_self ll] at e4
        cases e4
        rw [List.getElem?_set_ne n1] at x1 e3
        exact (no j hj n1 x1 e3).elim
      · rw [List.getElem?_set_ne n1] at x1 e3
        rw [List.getElem?_set_ne n2] at x2 e4
        exact h.dis j hj l hl a x1 x2 e3 e4
/-- a thing of one's own is changed -/
theorem StV.putO (h : StV cm P ow H0 env σ H) {i : Nat} (hi : i ∈ ow) {a : Addr} {y : Val} (ex : env[i]? = some (some y)) (hσ : σ[i]? = some (some (.ref a))) {o : HO} {x : Val} (t : Top cm (Ow P ow env σ) (upd H a o) a x) :
    StV cm P ow H0 (env.set i (some x)) σ (upd H a o) ∧ Fr P ow env σ H (env.set i (some x)) σ (upd H a o) := by
  have lt := (List.getElem?_eq_some_iff.mp ex).1
  obtain ⟨a', h2, nP, h5, _⟩ := h.own i hi y ex
  rw [hσ] at h2
  cases h2
  have oa : Ow P ow env σ a := .inr ⟨i, hi, ⟨y, ex⟩, hσ⟩
  have as : ∀ j, (∃ z, (env.set i (some x))[j]? = some (some z)) ↔ ∃ z, env[j]? = some (some z) := fun j => by
    by_cases e : i = j
    · subst e
      exact ⟨fun _ => ⟨y, ex⟩, fun _ => ⟨x, List.getElem?_set_self lt⟩⟩
    · rw [List.getElem?_set_ne e]
  have eo : Ow P ow (env.set i (some x)) σ = Ow P ow env σ := funext fun b => propext ⟨fun c => c.imp id fun ⟨j, hj, hy, hs⟩ => ⟨j, hj, (as j).mp hy, hs⟩, fun c => c.imp id fun ⟨j, hj, hy, hs⟩ => ⟨j, hj, (as j).mpr hy, hs⟩⟩
  have kp : Keep (Ow P ow env σ) H (upd H a o) := fun b u e n => by
    rw [upd_ne fun z => n (by rw [z]; exact oa)]
    exact e
  have st : ∀ b, NT H b → NT (upd H a o) b := fun b n => by
    by_cases z : b = a
    · rw [z]
      exact t.no
    · obtain ⟨u, eu, nu⟩ := n
      exact ⟨u, by rw [upd_ne z]; exact eu, nu⟩
  refine ⟨⟨?_, fun j hj z e => ?_, fun j hj l hl b x1 x2 e3 e4 => h.dis j hj l hl b ((as j).mp x1) ((as l).mp x2) e3 e4, by rw [List.length_set]; exact h.len, fun b u e => ?_⟩, kp, fun b c => .inl (by rw [← eo]; exact c), st⟩
  · rw [eo, wipeE_set_in hi]
    exact h.sl.keep kp fun b c => st b (h.sl.hid b c)
  · rw [eo]
    by_cases e1 : i = j
    · subst e1
      rw [List.getElem?_set_self lt] at e
      cases e
      exact ⟨a, hσ, nP, h5, t⟩
    · rw [List.getElem?_set_ne e1] at e
      obtain ⟨b, k2, k4, k5, k6⟩ := h.own j hj z e
      refine ⟨b, k2, k4, k5, k6.keep (fun u eu => ?_) kp⟩
      rw [upd_ne]
      · exact eu
      · intro z
        exact e1 (h.dis i hi j hj a ⟨_, ex⟩ ⟨_, e⟩ hσ (by rw [← z]; exact k2))
  · rw [upd_ne (ne_of_none e h5)]
    exact h.base _ _ e
end
section
variable {X : Cx} {cm : Cm} {ow : List Nat} {a b c e : Expr} {es : List Expr} {f g h : En → Option Val} {pos : Pos} {st : Stmt} {rest : List Stmt}
/-! ### new lists -/
theorem vn_lst {k : En → Option (List Val)} (h : VA X cm es k) : VN X cm (.List es pos) (fun env => (k env).bind fun xs => if xs.length ≤ most then some xs else none) := (pe_lst h).weak fun σ H Q ⟨P, env, z, hs, hf, q⟩ => by
  obtain ⟨xs, ex, hf⟩ := Option.bind_eq_some_iff.mp hf
  split at hf
  · rename_i l
    cases hf
    refine ⟨P, env, _, hs, ex, fun vs H1 s1 r1 => ⟨by rw [Res.length r1]; exact Nat.le_of_lt (most_line l), fun p np => ?_⟩⟩
    have s2 : Same H1 (upd H1 p (.lst vs)) := fun b o eb => by rw [upd_ne (ne_of_none eb np)]; exact eb
    exact q p vs _ (s1.trans s2) (s1.free np) upd_same (r1.move (fun b c => c.imp id fun z => by rw [z]; exact np) (.of s2)) l
  · cases hf
theorem vn_list {k : En → Option Val} {x : Str} {p : Pos} (hg : Gl X x) (hm : X.mg x = none) (hv : bootBuiltins x = some (.type "list")) (ha : VE X cm e k)
    (hn : x ≠ "__name__" := by decide) (hdb : (x == ("__debug__" : Str)) = false := by decide) (he : starEach [e] X.env = (false, eval e X.env) :: starEach [] X.env := by rfl) (hpl : (backTo pos (starEach [] X.env)).any (·.1) = false := by rfl) :
    VN X cm (.Call (.Name x p) [e] [] pos) (fun env => (k env).bind fun y => (itemsOf y).bind fun xs => if xs.length ≤ most then some xs else none) :=
  (pe_callTy call_list_of hg hm hv (pa_cons ha pa_nil he) hn hdb he hpl).weak fun σ H Q ⟨P, env, z, hs, hf, q⟩ => by
    obtain ⟨y, ey, h1⟩ := Option.bind_eq_some_iff.mp hf
    obtain ⟨xs, ex, h2⟩ := Option.bind_eq_some_iff.mp h1
    split at h2
    · rename_i l
      cases h2
      refine ⟨P, env, y, hs, ey, fun v H1 s1 r1 => ?_⟩
      obtain ⟨p, vs, rfl, hsq, rs⟩ := itemsOf_re (K := X.K) r1 ex
      refine ⟨p, vs, rfl, hsq, fun l np => ?_⟩
      have s2 : Same H1 (upd H1 l (.lst vs)) := fun b o eb => by rw [upd_ne (ne_of_none eb np)]; exact eb
      exact q l vs _ (s1.trans s2) (s1.free np) upd_same (Rep.move (fun b c => c.imp id fun z => by rw [z]; exact np) (.of s2) rs) (by assumption)
    · cases h2
/-- [c] * n -/
theorem rep_len (x : V) : ∀ n : Nat, (List.replicate n [x]).flatten = List.replicate n x
  | 0 => rfl
  | n + 1 => by
    rw [List.replicate_succ, List.flatten_cons, rep_len x n, List.replicate_succ]
    rfl
theorem Res.rep {P : Addr → Prop} {H : Hp} {v : V} {x : Val} (r : Re cm P H v x) : ∀ n : Nat, Res cm P H (List.replicate n v) (List.replicate n x)
  | 0 => .nil
  | n + 1 => .cons r (Res.rep r n)
def repN (f g : En → Option Val) : En → Option (List Val) := fun env => (f env).bind fun x => (g env).bind fun y => match y with
  | .int n => if n ≤ 100000 ∧ -100000 ≤ n then some (List.replicate n.toNat x) else none
  | _ => none
theorem vn_rep {p1 : Pos} (ha : VE X cm a f) (hb : VE X cm b g) (hs : starEach [a] X.env = (false, eval a X.env) :: starEach [] X.env := by rfl) : VN X cm (.BinOp (.List [a] p1) .Mult b pos) (repN f g) :=
  (pe_op op_rep (pe_lst (pa_cons ha pa_nil hs)) hb).weak fun σ H Q ⟨P, env, z, hs, hf, q⟩ => by
    unfold repN at hf
    obtain ⟨x, ex, h1⟩ := Option.bind_eq_some_iff.mp hf
    obtain ⟨y, ey, h2⟩ := Option.bind_eq_some_iff.mp h1
    split at h2
    · split at h2
      · rename_i n c
        cases h2
        refine ⟨P, env, x, hs, ex, fun v H1 s1 r1 => ⟨by show 1 ≤ sizeLine; rw [sizeLine_eq]; omega, fun p np => ?_⟩⟩
        have s2 : Same H1 (upd H1 p (.lst [v])) := fun b o eb => by rw [upd_ne (ne_of_none eb np)]; exact eb
        refine ⟨P, env, .int n, (hs.same s1).same s2, ey, fun u H3 s3 r3 => ?_⟩
        cases r3.int_
        have ln : n.toNat ≤ most := by
          unfold most
          omega
        refine ⟨p, n, [v], rfl, rfl, s3 _ _ upd_same, by omega, by omega, ?_, fun l nl => ?_⟩
        · show 1 * n.toNat ≤ sizeLine
          rw [Nat.one_mul]
          exact Nat.le_of_lt (most_line ln)
        · have s4 : Same H3 (upd H3 l (.lst (List.replicate n.toNat [v]).flatten)) := fun b o eb => by rw [upd_ne (ne_of_none eb nl)]; exact eb
          have s14 := s1.trans (s2.trans (s3.trans s4))
          refine q l (List.replicate n.toNat v) _ s14 (s1.free (s2.free (s3.free nl))) (by rw [upd_same, rep_len]) ?_ (by rw [List.length_replicate]; exact ln)
          exact Res.rep (r1.move (fun b c => c.imp id fun z => by rw [z]; exact s2.free (s3.free nl)) (.of (s2.trans (s3.trans s4)))) _
      · cases h2
    · cases h2
/-! ### lists of one's own -/
def SnV (cm : Cm) (ow : List Nat) (r : En → Option (List Val)) (t : TE) : Prop := ∀ (P : Addr → Prop) (H0 H : Hp) (env : En) (σ : L2.St) (xs : List Val) (Q : VK), StV cm P ow H0 env σ H → r env = some xs → (∀ a vs H', Same H H' → H a = none → H' a = some (.lst vs) → Res cm (fun b => Ow P ow env σ b ∨ b = a) H' vs xs → Q (.ref a) H') → t σ H Q
def stN (ow : List Nat) (f : En → Option (List Val)) : En → Option (List Val) := fun env => f (wipeE env ow)
def boN (f : En → Option (List Val)) : En → Option (List Val) := fun env => (f env).bind fun xs => if imm.imms xs = true then some xs else none
theorem sn_st {k : En → Option (List Val)} : SnV cm ow (stN ow k) (tN cm k) := fun P H0 H env σ xs Q hs e q => ⟨_, wipeE env ow, xs, hs.sl, e, fun a vs H' s na ha r _ => q a vs H' s na ha r⟩
theorem sn_bo {k : En → Option (List Val)} : SnV cm ow (boN k) (tN cm k) := fun P H0 H env σ xs Q hs e q => by
  unfold boN at e
  obtain ⟨y, ey, e⟩ := Option.bind_eq_some_iff.mp e
  split at e
  case isFalse => cases e
  rename_i ci
  cases e
  refine ⟨P, env, _, hs.view, ey, fun a vs H' s na ha r _ => q a vs H' s na ha ?_⟩
  refine (Rep.imm (fun b c => ?_) r).2 rfl ci
  rcases c with c | c
  · rcases (hs.same s).owl b c with z | z
    · exact .inl (.inl z)
    · exact .inr z
  · exact .inl (.inr c)
def newG (i : Nat) (r : En → Option (List Val)) : En → Option Out := fun env => if i < env.length then (r env).map fun xs => .nx (env.set i (some (.lst xs))) else none
theorem sv_new0 {r : En → Option (List Val)} {t : TE} {i : Nat} {hst : PS X st (tAsg t (gName i))} (ho : i ∈ ow) (sn : SnV cm ow r t) : SV X cm ow st (newG i r) := hst.weak fun D σ H ⟨P, H0, env, o, hs, hg, q⟩ => by
  unfold newG at hg
  split at hg
  case isFalse => cases hg
  rename_i lt
  obtain ⟨xs, ey, rfl⟩ := Option.map_eq_some_iff.mp hg
  refine sn P H0 H env σ xs _ hs ey fun a vs H' s na ha rs => ?_
  obtain ⟨h1, h2⟩ := hs.newO ho lt na s (.lst ha rs)
  exact q _ H' h1 h2
theorem sv_new {r k : En → Option (List Val)} {i : Nat} {x : Str} {pos' : Pos} (hN : X.N.Nodup) (hi : X.N[i]? = some x) (hx : Loc X.env.scope x) (ho : i ∈ ow) (he : VN X cm e k) (sn : SnV cm ow r (tN cm k)) (hs : swapsWith e (some (.Name x pos')) pos.line X.env = pure false := by rfl) (hf : X.fn x = true ∨ X.env.scope.names.lookup x = some .local := by first | exact .inl rfl | exact .inr rfl | assumption) :
    SV X cm ow (.Assign [.Name x pos'] e pos) (newG i r) := sv_new0 (hst := ps_set hN hi hx he hs hf) ho sn
/-- x.append(e) -/
def appG (i : Nat) (r : En → Option Val) : En → Option Out := fun env => match env[i]? with
  | some (some (.lst xs)) => if xs.length ≤ most then (r env).map fun y => .nx (env.set i (some (.lst (xs ++ [y])))) else none
  | _ => none
theorem sv_app0 {r : En → Option Val} {t : TE} {i : Nat} (hst : PS X st (tDrop (tBM X.K "list" rAppend (tVar i) (tCons t tNil)))) (ho : i ∈ ow) (sr : SrV cm ow r t) : SV X cm ow st (appG i r) := hst.weak fun D σ H ⟨P, H0, env, o, hs, hg, q⟩ => by
  unfold appG at hg
  split at hg
  case h_2 => cases hg
  rename_i xs ex
  split at hg
  case isFalse => cases hg
  rename_i lm
  obtain ⟨y, ey, rfl⟩ := Option.map_eq_some_iff.mp hg
  obtain ⟨a, hσ, nP, h0, tp⟩ := hs.own i ho _ ex
  cases tp with
  | @lst vs0 _ ha ra =>
    refine ⟨_, hσ, .inl ⟨rfl, _, .inl (.inl ha)⟩, sr P H0 H env σ y _ hs ey fun v H1 s1 r1 => ?_⟩
    refine ⟨a, _, v, rfl, rfl, s1 _ _ ha, most_line (by rw [Res.length ra]; exact lm), ?_⟩
    have hs1 := hs.same s1
    have oa : Ow P ow env σ a := .inr ⟨i, ho, ⟨_, ex⟩, hσ⟩
    have kp : Keep (Ow P ow env σ) H1 (upd H1 a (.lst (vs0 ++ [v]))) := fun b o e n => by
      rw [upd_ne fun z => n (by rw [z]; exact oa)]
      exact e
    obtain ⟨h1, h2⟩ := hs1.putO ho ex hσ (.lst upd_same (Res.snoc (Rep.keep kp (Rep.same s1 ra)) (r1.keep kp)))
    exact q _ _ h1 (Fr.trans (.same s1) h2)
/-- x[k] = e -/
def putG (i : Nat) (f : En → Option Val) (r : En → Option Val) : En → Option Out := fun env => match env[i]? with
  | some (some (.lst xs)) => (r env).bind fun y => (f env).bind fun k => match k with
    | .int j => (ixN xs.length j).map fun n => .nx (env.set i (some (.lst (xs.set n y))))
    | _ => none
  | _ => none
theorem Res.set {P : Addr → Prop} {H : Hp} {v : V} {x : Val} (r : Re cm P H v x) : ∀ {vs : List V} {xs : List Val} (n : Nat), Res cm P H vs xs → Res cm P H (vs.set n v) (xs.set n x)
  | _, _, _, .nil => .nil
  | _, _, 0, .cons _ t => .cons r t
  | _, _, n + 1, .cons q t => .cons q (Res.set r n t)
theorem sv_put0 {r : En → Option Val} {t : TE} {i : Nat} (hst : PS X st (tAsg t (gSub (tVar i) (tV cm f) rSetL))) (ho : i ∈ ow) (sr : SrV cm ow r t) : SV X cm ow st (putG i f r) := hst.weak fun D σ H ⟨P, H0, env, o, hs, hg, q⟩ => by
  unfold putG at hg
  split at hg
  case h_2 => cases hg
  rename_i xs ex
  obtain ⟨y, ey, hg⟩ := Option.bind_eq_some_iff.mp hg
  obtain ⟨k, ek, hg⟩ := Option.bind_eq_some_iff.mp hg
  split at hg
  case h_2 => cases hg
  rename_i j
  obtain ⟨n, en, rfl⟩ := Option.map_eq_some_iff.mp hg
  obtain ⟨a, hσ, nP, h0, tp⟩ := hs.own i ho _ ex
  cases tp with
  | @lst vs0 _ ha ra =>
    refine sr P H0 H env σ y _ hs ey fun v H1 s1 r1 => ⟨_, hσ, ⟨P, env, .int j, (hs.same s1).view, ek, fun u H2 s2 r2 => ?_⟩⟩
    cases r2.int_
    have s12 := s1.trans s2
    refine ⟨a, _, j, n, rfl, rfl, s12 _ _ ha, by rw [Res.length ra]; exact en, ?_⟩
    have hs2 := hs.same s12
    have oa : Ow P ow env σ a := .inr ⟨i, ho, ⟨_, ex⟩, hσ⟩
    have kp : Keep (Ow P ow env σ) H2 (upd H2 a (.lst (vs0.set n v))) := fun b o e n => by
      rw [upd_ne fun z => n (by rw [z]; exact oa)]
      exact e
    obtain ⟨h1, h2⟩ := hs2.putO ho ex hσ (.lst upd_same (Res.set ((r1.same s2).keep kp) n (Rep.keep kp (Rep.same s12 ra))))
    exact q _ _ h1 (Fr.trans (.same s12) h2)
end
end Up

namespace Up
open PySem PySem.Spec PyProof.Rows L2
/-- a def of the text under its name -/
structure Dd (K : PySem.W.Frag) (mg : Str → Option Value) (x : Str) (st : Stmt) (ps : List Str) (f : Addr) (fd : FuncData) : Prop where
  fn : Fun K x x st f fd
  at_ : mg x = some (.ref f)
  bd : Binds K fd ps []
/-- a def that is a function of its arguments' trees, under its name, to be called at level k -/
structure Df (P : Program) (w : World) (K : PySem.W.Frag) (mg : Str → Option Value) (base : Heap) (cm : Cm) (x : Str) (k : Nat) (ps : List Str) (F : List Val → Option Val) (f : Addr) (fd : FuncData) : Prop where
  ok : FnOk P w K mg base CX0 k f fd ps (spV cm F)
  at_ : mg x = some (.ref f)
  kp : PySem.W.keepIn K (.ref f) = true
  bd : Binds K fd ps []
theorem Df.mono {P : Program} {w : World} {K : PySem.W.Frag} {mg : Str → Option Value} {base : Heap} {cm : Cm} {x : Str} {k j : Nat} {ps : List Str} {F : List Val → Option Val} {f : Addr} {fd : FuncData} (d : Df P w K mg base cm x k ps F f fd) (h : k ≤ j) : Df P w K mg base cm x j ps F f fd := ⟨d.ok.mono h, d.at_, d.kp, d.bd⟩
theorem spV.imp {cm : Cm} {F G : List Val → Option Val} (h : ∀ xs z, G xs = some z → F xs = some z) (vs : List V) (H : Hp) (Q : VK) (E : XK) : spV cm G vs H Q E → spV cm F vs H Q E := fun ⟨P', xs, z, a, b, c, q⟩ => ⟨P', xs, z, a, b, h _ _ c, q⟩
section
variable {X : Cx} {cm : Cm} {a b c e : Expr} {es : List Expr} {f g h : En → Option Val} {pos : Pos}
theorem vv (i : Nat) {x : Str} (hN : X.N[i]? = some x := by rfl) (hv : Vis X.env.scope x := by first | exact Or.inl rfl | exact Or.inr (Or.inl rfl) | exact Or.inr (Or.inr rfl)) (hd : (x == ("__debug__" : Str)) = false := by decide)
    (hcd : (x == ("__classdict__" : Str)) = false := by decide) : VE X cm (.Name x pos) (getE i) := ve_var hN hv hd hcd
theorem ve_callD {k : Nat} {ps : List Str} {F : List Val → Option Val} {x : Str} {p : Pos} {t : En → Option (List Val)} {fa : Addr} {fd : FuncData} (d : Df X.prog X.w X.K X.mg X.base cm x k ps F fa fd) (hr : Room k X.A) (hg : Gl X x) (ha : VA X cm (e :: es) t) (hdb : (x == ("__debug__" : Str)) = false := by decide)
    (he : starEach (e :: es) X.env = (false, eval e X.env) :: starEach es X.env := by rfl) (hpl : (backTo pos (starEach es X.env)).any (·.1) = false := by rfl) : VE X cm (.Call (.Name x p) (e :: es) [] pos) (appF F t) := ve_call d.ok hr hg d.at_ d.kp d.bd pass0 ha hdb he hpl
def negF (f : En → Option Val) : En → Option Val := fun env => (f env).bind fun x => match x with
  | .int i => some (.int (-i))
  | _ => none
theorem ve_neg (ha : VE X cm a f) : VE X cm (.UnaryOp .USub a pos) (negF f) := (pe_un un_neg ha).weak fun σ H Q ⟨P, env, z, hs, hf, q⟩ => by
  unfold negF at hf
  obtain ⟨x, ex, hf⟩ := Option.bind_eq_some_iff.mp hf
  refine ⟨P, env, x, hs, ex, fun v H1 s1 r1 => ?_⟩
  split at hf
  · cases hf
    cases r1.int_
    exact ⟨_, rfl, q _ H1 s1 (.int _)⟩
  · cases hf
/-- 0 <= x < n -/
def chainF (p r : Int → Int → Bool) (f g h : En → Option Val) : En → Option Val := fun env => (f env).bind fun x => (g env).bind fun y => match x, y with
  | .int i, .int j => if p i j = true then (h env).bind fun z => match z with
    | .int k => some (.bl (r j k))
    | _ => none
    else some (.bl false)
  | _, _ => none
theorem chain_go {p r : Int → Int → Bool} {σ : L2.St} {H : Hp} {Q : VK} (t : tV cm (chainF p r f g h) σ H Q) : tChain (rI0 fun i j => .bl (p i j)) (rI0 fun i j => .bl (r i j)) (tV cm f) (tV cm g) (tV cm h) σ H Q := by
  obtain ⟨P, env, z, hs, hf, q⟩ := t
  unfold chainF at hf
  obtain ⟨x, ex, h1⟩ := Option.bind_eq_some_iff.mp hf
  obtain ⟨y, ey, h2⟩ := Option.bind_eq_some_iff.mp h1
  split at h2
  case h_2 => cases h2
  rename_i i j
  refine ⟨P, env, _, hs, ex, fun v H1 s1 r1 => ⟨P, env, _, hs.same s1, ey, fun u H2 s2 r2 => ?_⟩⟩
  cases r1.int_
  cases r2.int_
  refine ⟨i, j, rfl, rfl, p i j, rfl, ?_⟩
  by_cases c : p i j = true
  · rw [if_pos c] at h2 ⊢
    obtain ⟨w, ew, h3⟩ := Option.bind_eq_some_iff.mp h2
    refine ⟨P, env, w, (hs.same s1).same s2, ew, fun t H3 s3 r3 => ?_⟩
    split at h3
    · cases h3
      cases r3.int_
      exact ⟨_, _, rfl, rfl, q _ H3 (s1.trans (s2.trans s3)) (.bl _)⟩
    · cases h3
  · rw [if_neg c] at h2 ⊢
    cases h2
    exact q _ H2 (s1.trans s2) (.bl _)
theorem ve_chain {op op' : CmpOp} {p r : Int → Int → Bool} (ho : OpR X (compareOp op) (rI0 fun i j => .bl (p i j))) (ho' : OpR X (compareOp op') (rI0 fun i j => .bl (r i j))) (ha : VE X cm a f) (hb : VE X cm b g) (hc : VE X cm c h)
    (hm : lastMarks [op, op'] [b, c] = false := by with_unfolding_all rfl) : VE X cm (.Compare a [op, op'] [b, c] pos) (chainF p r f g h) := (pe_chain ho ho' ha hb hc hm).weak fun σ H Q q => chain_go q
theorem vt_chain {op op' : CmpOp} {p r : Int → Int → Bool} (ho : OpR X (compareOp op) (rI0 fun i j => .bl (p i j))) (ho' : OpR X (compareOp op') (rI0 fun i j => .bl (r i j))) (ha : VE X cm a f) (hb : VE X cm b g) (hc : VE X cm c h)
    (hm : lastMarks [op, op'] [b, c] = false := by with_unfolding_all rfl) : VT X cm (.Compare a [op, op'] [b, c] pos) (tst (chainF p r f g h)) := (pt_chain ho ho' ha hb hc hm).weak fun σ H Q q => chain_go (tV_test σ H Q q _ fun k H' q => ⟨k, rfl, q⟩)
/-! + of tuples -/
def catTF : Val → Val → Option Val
  | .tup (x :: xs), .tup ys => if (x :: xs).length + ys.length ≤ most then some (.tup (x :: xs ++ ys)) else none
  | _, _ => none
theorem ov_catT {K : PySem.W.Frag} (P : Addr → Prop) (x y z : Val) (v u : V) (H : Hp) (Q : VK) (hd : Hid P H) (e : catTF x y = some z) (rx : Re cm P H v x) (ry : Re cm P H u y) (q : ∀ v' H', Same H H' → Re cm P H' v' z → Q v' H') : rCatT K v u H Q := by
  unfold catTF at e
  split at e
  case h_2 => cases e
  split at e
  case isFalse => cases e
  rename_i l
  cases e
  obtain ⟨a, vs, rfl, n1, h1, r1⟩ := rx.tup_
  obtain ⟨b, us, rfl, n2, h2, r2⟩ := ry.tup_
  have l1 := Res.length r1
  have l2 := Res.length r2
  refine ⟨a, b, vs, us, rfl, rfl, .inl (.inl h1), .inl (.inl h2), fun z => ?_, by rw [l1, l2]; exact Nat.le_of_lt (most_line l), fun z => ?_, fun z p np => ?_⟩
  · rw [z] at l1
    simp at l1
  · subst z
    cases r2
    rw [List.append_nil] at q
    exact q _ H (Same.refl H) (.tup n1 h1 r1)
  · have s2 : Same H (upd H p (.tup (vs ++ us))) := fun b o eb => by rw [upd_ne (ne_of_none eb np)]; exact eb
    exact q _ _ s2 (.tup (hd.new np) upd_same ((Res.append r1 r2 : Res cm P H _ _).same s2))
theorem ve_catT (ha : VE X cm a f) (hb : VE X cm b g) : VE X cm (.BinOp a .Add b pos) (bin2 catTF f g) := (pe_op op_catT ha hb).weak fun σ H Q q => by
  obtain ⟨P, env, z, hs, hf, q⟩ := q
  unfold bin2 at hf
  obtain ⟨x, ex, h1⟩ := Option.bind_eq_some_iff.mp hf
  obtain ⟨y, ey, h2⟩ := Option.bind_eq_some_iff.mp h1
  refine ⟨P, env, x, hs, ex, fun v H1 s1 r1 => ⟨P, env, y, hs.same s1, ey, fun u H2 s2 r2 => ?_⟩⟩
  exact ov_catT P x y z v u H2 Q ((hs.hid.same s1).same s2) h2 (r1.same s2) r2 fun v' H3 s3 r3 => q v' H3 (s1.trans (s2.trans s3)) r3
end
section
variable {X : Cx} {cm : Cm} {ow : List Nat} {a b c e : Expr} {es : List Expr} {f g h : En → Option Val} {pos : Pos} {st : Stmt}
theorem sv_set0 {r : En → Option Val} {t : TE} {i : Nat} (hst : PS X st (tAsg t (gName i))) (ho : i ∉ ow) (sr : SrV cm ow r t) : SV X cm ow st (setG i r) := hst.weak fun D σ H ⟨P, H0, env, o, hs, hg, q⟩ => by
  obtain ⟨y, ey, rfl⟩ := Option.map_eq_some_iff.mp hg
  exact sr P H0 H env σ y _ hs ey fun v H1 s1 r1 => q _ H1 ((hs.same s1).set ho r1) (Fr.set ho s1)
theorem sr_sn {r : En → Option (List Val)} {t : TE} (sn : SnV cm ow r t) : SrV cm ow (fun env => (r env).map .lst) t := fun P H0 H env σ x Q hs e q => by
  obtain ⟨xs, ex, rfl⟩ := Option.map_eq_some_iff.mp e
  exact sn P H0 H env σ xs Q hs ex fun a vs H' s na ha rs => q _ H' s (.lst (fun c => hs.sl.hid.new na c) ha (rs.less fun b c => .inl c))
theorem SnV.weak {r : En → Option (List Val)} {t t' : TE} (sn : SnV cm ow r t') (k : ∀ σ H Q, t' σ H Q → t σ H Q) : SnV cm ow r t := fun P H0 H env σ xs Q hs e q => k σ H Q (sn P H0 H env σ xs Q hs e q)
theorem sv_setLc {i : Nat} {y : Str} {py : Pos} {elt tg iter : Expr} {ifs : List Expr} {scope : Scope} {own : List (Str × Nat)} {spos : Pos} {gt : TG} {tt : TT} {fi : En → Option (List Val)} {bnd : Val → Option (List (Nat × Val))} {ft : En → Option Bool} {fe : En → Option Val} {is : List Nat} {r : En → Option (List Val)} (hc : X.calm = true) (hN : X.N.Nodup) (hy : X.N[i]? = some y) (hyl : X.env.scope.names.lookup y = some .local)
    (hsw : swapsWith (.ListComp elt [⟨tg, iter, ifs, 0⟩] scope pos) (some (.Name y py)) spos.line X.env = pure true) (hi : VI X cm tg iter fi) (ok : BlkOk X.N X.env.scope scope own)
    (hg : ∀ (s : Shared) (H : Hp) (C : Addr) (cl : List (Str × Addr)) (fp : List Addr), PG (X.blk s H scope (compEnvC scope cl C X.env) fp) tg gt) (ht : ∀ (s : Shared) (H : Hp) (C : Addr) (cl : List (Str × Addr)) (fp : List Addr), PTs (X.blk s H scope (compEnvC scope cl C X.env) fp) ifs tt)
    (he : ∀ (s : Shared) (H : Hp) (C : Addr) (cl : List (Str × Addr)) (fp : List Addr), VE (X.blk s H scope (compEnvC scope cl C X.env) fp) cm elt fe) (tg_ : TgV cm gt bnd is) (hi2 : ∀ i ∈ is, i ∈ own.map (·.2)) (tt_ : TtV cm tt ft) (ho : i ∉ ow) (sn : SnV cm ow r (tN cm (lcF fi bnd ft fe (own.map (·.2))))) (hs : ∀ x, foldedSetIterable iter X.env x = pure x := by intro _; rfl) :
    SV X cm ow (.Assign [.Name y py] (.ListComp elt [⟨tg, iter, ifs, 0⟩] scope pos) spos) (setG i (fun env => (r env).map .lst)) :=
  sv_set0 (ps_setLc hc hN hy hyl hsw hi ok hg ht he hs) ho (sr_sn (sn.weak (tLc_of tg_ hi2 tt_)))
theorem sv_newLc {i : Nat} {y : Str} {py : Pos} {elt tg iter : Expr} {ifs : List Expr} {scope : Scope} {own : List (Str × Nat)} {spos : Pos} {gt : TG} {tt : TT} {fi : En → Option (List Val)} {bnd : Val → Option (List (Nat × Val))} {ft : En → Option Bool} {fe : En → Option Val} {is : List Nat} {r : En → Option (List Val)} (hc : X.calm = true) (hN : X.N.Nodup) (hy : X.N[i]? = some y) (hyl : X.env.scope.names.lookup y = some .local)
    (hsw : swapsWith (.ListComp elt [⟨tg, iter, ifs, 0⟩] scope pos) (some (.Name y py)) spos.line X.env = pure true) (hi : VI X cm tg iter fi) (ok : BlkOk X.N X.env.scope scope own)
    (hg : ∀ (s : Shared) (H : Hp) (C : Addr) (cl : List (Str × Addr)) (fp : List Addr), PG (X.blk s H scope (compEnvC scope cl C X.env) fp) tg gt) (ht : ∀ (s : Shared) (H : Hp) (C : Addr) (cl : List (Str × Addr)) (fp : List Addr), PTs (X.blk s H scope (compEnvC scope cl C X.env) fp) ifs tt)
    (he : ∀ (s : Shared) (H : Hp) (C : Addr) (cl : List (Str × Addr)) (fp : List Addr), VE (X.blk s H scope (compEnvC scope cl C X.env) fp) cm elt fe) (tg_ : TgV cm gt bnd is) (hi2 : ∀ i ∈ is, i ∈ own.map (·.2)) (tt_ : TtV cm tt ft) (ho : i ∈ ow) (sn : SnV cm ow r (tN cm (lcF fi bnd ft fe (own.map (·.2))))) (hs : ∀ x, foldedSetIterable iter X.env x = pure x := by intro _; rfl) :
    SV X cm ow (.Assign [.Name y py] (.ListComp elt [⟨tg, iter, ifs, 0⟩] scope pos) spos) (newG i r) :=
  sv_new0 (hst := ps_setLc hc hN hy hyl hsw hi ok hg ht he hs) ho (sn.weak (tLc_of tg_ hi2 tt_))
/-! n += e, of ints -/
def augG (i : Nat) (op : Int → Int → Int) (f : En → Option Val) : En → Option Out := fun env => (getE i env).bind fun x => (f env).bind fun y => match x, y with
  | .int m, .int n => some (.nx (env.set i (some (.int (op m n)))))
  | _, _ => none
theorem sv_aug0 {i : Nat} {op : Int → Int → Int} (hst : PS X st (tAug i (tV cm f) (ipI op))) (ho : i ∉ ow) : SV X cm ow st (augG i op f) := hst.weak fun D σ H ⟨P, H0, env, o, hs, hg, q⟩ => by
  unfold augG at hg
  obtain ⟨x, ex, h1⟩ := Option.bind_eq_some_iff.mp hg
  obtain ⟨y, ey, h2⟩ := Option.bind_eq_some_iff.mp h1
  split at h2
  case h_2 => cases h2
  rename_i m n
  cases h2
  have e2 : env[i]? = some (some (.int m)) := by
    unfold getE at ex
    cases e : env[i]? with
    | none => rw [e] at ex; cases ex
    | some o =>
      rw [e] at ex
      cases o with
      | none => cases ex
      | some z => cases ex; rfl
  obtain ⟨v, h3, h4⟩ := hs.view.at_ i _ e2
  cases h4.int_
  refine ⟨_, h3, P, env, .int n, hs.view, ey, fun u H1 s1 r1 => ?_⟩
  cases r1.int_
  exact ⟨m, n, rfl, rfl, q _ H1 ((hs.same s1).set ho (.int _)) (Fr.set ho s1)⟩
end
section
variable {P : Program} {w : World} {K : PySem.W.Frag} {mg : Str → Option Value} {base : Heap} {cm : Cm}
theorem okD {x : Str} {st : Stmt} {f : Addr} {fd : FuncData} {N ps : List Str} {k : Nat} (ow : List Nat) {g : En → Option Out} (D : Dd K mg x st ps f fd) (S : FnScope N ps (defScope st)) (ho : ∀ i ∈ ow, ps.length ≤ i)
    (hbody : ∀ (cdv : Value) (A : Around) (outer : List Env) (s : Shared) (H : Hp) (E : XK), Room k (A.deeper (envOfC x (defScope st) s.heap.objs.size f cdv)) → (A.deeper (envOfC x (defScope st) s.heap.objs.size f cdv)).units + 64 < cLine → SVs (cxOf CX0 P w K mg base N x (defScope st) f cdv A outer s H E).nox cm ow (defBody st) g) :
    Df P w K mg base cm x (k + 1) ps (runV N.length ps.length g) f fd :=
  ⟨okV ow D.fn S ho fun cdv A outer s H E hr => hbody cdv A outer s H E hr (by have := hr.un; omega), D.at_, D.fn.kp, D.bd⟩
end
end Up

namespace Up
open PySem PySem.Spec PyProof.Rows L2
theorem it_gen {J : It} {n : Nat} {G : Hp → Prop} {Y : Nat → Hp → V → Hp → Prop} (w : Walk J n G Y) {B : (Hp → Prop) → V → Hp → Prop} {Hs : Hp} {Qd : Hp → Prop} (Pv : Nat → Hp → Prop) (h0 : Pv 0 Hs) (hG : ∀ i H, i ≤ n → Pv i H → G H)
    (hs : ∀ i x H H', i < n → Pv i H → Y i H x H' → B (Pv (i + 1)) x H') (hd : ∀ H, Pv n H → Qd H) :
    ∃ W : Nat → Nat → Hp → Prop, (∃ m, W 0 m Hs) ∧ ∀ i m H, W i m H → (J.stop i H ∧ Qd H) ∨ (J.go i H ∧ ∃ Nx : Hp → Prop, (∀ H', Nx H' → ∃ m', m' < m ∧ W (i + 1) m' H') ∧ ∀ x H', J.yld i H x H' → B Nx x H') := by
  refine ⟨fun i m H => m = n - i ∧ i ≤ n ∧ Pv i H, ⟨n, by simp, Nat.zero_le _, h0⟩, ?_⟩
  rintro i m H ⟨rfl, hi, p⟩
  have q := hG i H hi p
  by_cases hlt : i < n
  · refine .inr ⟨w.goes i H hlt q, Pv (i + 1), fun H' p' => ⟨n - (i + 1), by omega, rfl, hlt, p'⟩, fun x H' y => hs i x H H' hlt p (w.yields i H x H' hlt q y)⟩
  · have e : i = n := by omega
    subst e
    exact .inl ⟨w.stops H q, hd H p⟩
def lc2Go (m : Val → Option (List (Nat × Val))) (ft : En → Option Bool) (fi1 : En → Option (List Val)) (m1 : Val → Option (List (Nat × Val))) (ft1 : En → Option Bool) (fe : En → Option Val) (vs1 : List Nat) (env : En) : List Val → Option (List Val)
  | [] => some []
  | x :: xs => (m x).bind fun ps => (ft (setE env ps)).bind fun k => if k = true then (fi1 (setE env ps)).bind fun ys => (lcGo m1 ft1 fe (wipeE (setE env ps) vs1) ys).bind fun zs => (lc2Go m ft fi1 m1 ft1 fe vs1 env xs).bind fun rest => some (zs ++ rest)
    else lc2Go m ft fi1 m1 ft1 fe vs1 env xs
def lc2F (fi : En → Option (List Val)) (m : Val → Option (List (Nat × Val))) (ft : En → Option Bool) (fi1 : En → Option (List Val)) (m1 : Val → Option (List (Nat × Val))) (ft1 : En → Option Bool) (fe : En → Option Val) (vs vs1 : List Nat) : En → Option (List Val) := fun env =>
  (fi env).bind fun xs => (lc2Go m ft fi1 m1 ft1 fe vs1 (wipeE env vs) xs).bind fun ys => if ys.length ≤ most then some ys else none
theorem tLc2_of {cm : Cm} {fi fi1 : En → Option (List Val)} {g g1 : TG} {m m1 : Val → Option (List (Nat × Val))} {is is1 vs vs1 : List Nat} {tt tt1 : TT} {ft ft1 : En → Option Bool} {fe : En → Option Val} (hg : TgV cm g m is) (hi : ∀ i ∈ is, i ∈ vs) (ht : TtV cm tt ft)
    (hg1 : TgV cm g1 m1 is1) (hi1 : ∀ i ∈ is1, i ∈ vs1) (ht1 : TtV cm tt1 ft1) (σ : L2.St) (H : Hp) (Q : VK) (q : tN cm (lc2F fi m ft fi1 m1 ft1 fe vs vs1) σ H Q) :
    tLc2 (iV cm fi) g tt (iV cm fi1) g1 tt1 (tV cm fe) vs vs1 σ H Q := by
  obtain ⟨P, env, ys, hs, hf, q⟩ := q
  unfold lc2F at hf
  obtain ⟨xs, ex, hf⟩ := Option.bind_eq_some_iff.mp hf
  obtain ⟨ys', hf, hl⟩ := Option.bind_eq_some_iff.mp hf
  split at hl
  case isFalse => cases hl
  rename_i lm
  cases hl
  refine ⟨P, env, xs, hs, ex, fun J H1 s1 w D nD => ?_⟩
  have hs1 := hs.same s1
  have hidT : ∀ H2, Same H1 H2 → (∃ acc, H2 D = some (.lst acc)) → Hid (fun b => P b ∨ b = D) H2 := fun H2 s2 ⟨acc, hD⟩ a c => by
    rcases c with c | c
    · exact (hs1.hid.same s2) a c
    · exact ⟨.lst acc, by rw [c]; exact hD, fun vs z => nomatch z⟩
  have toD : ∀ a, (fun b => P b ∨ b = D) a → P a ∨ H1 a = none := fun a c => c.elim .inl fun z => .inr (by rw [z]; exact nD)
  have push : ∀ (H5 : Hp) (acc : List V) (dn : List Val) (u : V) (z : Val), H5 D = some (.lst acc) → Same H1 H5 → Res cm (fun b => P b ∨ b = D) H5 acc dn → Re cm (fun b => P b ∨ b = D) H5 u z →
      (upd H5 D (.lst (acc ++ [u]))) D = some (.lst (acc ++ [u])) ∧ Same H1 (upd H5 D (.lst (acc ++ [u]))) ∧ Res cm (fun b => P b ∨ b = D) (upd H5 D (.lst (acc ++ [u]))) (acc ++ [u]) (dn ++ [z]) := fun H5 acc dn u z hD s5 rs ru => by
    have kp : Keep (fun b => P b ∨ b = D) H5 (upd H5 D (.lst (acc ++ [u]))) := fun b o e n => by
      rw [upd_ne fun z => n (.inr z)]
      exact e
    refine ⟨upd_same, fun b o e => ?_, Res.snoc (Rep.keep kp rs) (ru.keep kp)⟩
    rw [upd_ne (ne_of_none e nD)]
    exact s5 _ _ e
  refine it_gen w (fun i H2 => ∃ (acc : List V) (dn rest : List Val), H2 D = some (.lst acc) ∧ Same H1 H2 ∧ Res cm (fun b => P b ∨ b = D) H2 acc dn ∧ lc2Go m ft fi1 m1 ft1 fe vs1 (wipeE env vs) (xs.drop i) = some rest ∧ dn ++ rest = ys) ⟨[], [], ys, upd_same, fun b o e => by rw [upd_ne (ne_of_none e nD)]; exact e, .nil, hf, rfl⟩ (fun i H2 _ ⟨_, _, _, _, s2, _⟩ => ⟨.of s2, hs1.hid.same s2⟩) ?_ ?_
  · rintro i x H2 H3 hi2 ⟨acc, dn, rest, hD, s2, rs, hr, hy⟩ ⟨s3, y, ey, ry⟩
    have ry2 := ry (fun b => P b ∨ b = D) toD (hidT H2 s2 ⟨_, hD⟩)
    have hs2 : Slots cm (fun b => P b ∨ b = D) H3 (L2.wipe σ vs) (wipeE env vs) := by
      have k : Slots cm (fun b => P b ∨ b = D) H2 σ env := ⟨hs.len, fun j z ez => by
        obtain ⟨v, h1, h2⟩ := hs1.at_ j z ez
        exact ⟨v, h1, h2.move toD (.of s2)⟩, hidT H2 s2 ⟨_, hD⟩⟩
      exact (k.same s3).wipe vs
    have dr : xs.drop i = y :: xs.drop (i + 1) := by
      obtain ⟨lt, eq⟩ := List.getElem?_eq_some_iff.mp ey
      rw [List.drop_eq_getElem_cons lt, eq]
    rw [dr] at hr
    unfold lc2Go at hr
    obtain ⟨ps, e1, hr⟩ := Option.bind_eq_some_iff.mp hr
    obtain ⟨k, e2, hr⟩ := Option.bind_eq_some_iff.mp hr
    obtain ⟨qs, pr, mem, go⟩ := hg.go _ H3 x y ps ry2 e1
    have hs3 := Slots.sets pr hs2
    refine go _ _ ⟨?_, ht _ _ k _ H3 _ hs3 e2 fun H4 s4 => ?_⟩
    · rw [wipe_setA fun q hq => hi _ (mem q hq), wipe_wipe fun _ h => h]
    · have hD4 := s4 _ _ (s3 _ _ hD)
      have s14 := s2.trans (s3.trans s4)
      have rs4 := Rep.same s4 (Rep.same s3 rs)
      by_cases c : k = true
      · rw [if_pos c] at hr ⊢
        obtain ⟨ys1, ey1, hr⟩ := Option.bind_eq_some_iff.mp hr
        obtain ⟨zs, ez, hr⟩ := Option.bind_eq_some_iff.mp hr
        obtain ⟨rest2, er, hr⟩ := Option.bind_eq_some_iff.mp hr
        cases hr
        refine ⟨_, _, ys1, hs3.same s4, ey1, fun J1 H5 s5 w1 => ?_⟩
        have hs5 := (hs3.same s4).same s5
        refine it_gen w1 (fun j H6 => ∃ (acc : List V) (dn1 rest1 : List Val), H6 D = some (.lst acc) ∧ Keep (fun b => P b ∨ b = D) H5 H6 ∧ Same H1 H6 ∧ Res cm (fun b => P b ∨ b = D) H6 acc dn1 ∧ lcGo m1 ft1 fe (wipeE (setE (wipeE env vs) ps) vs1) (ys1.drop j) = some rest1 ∧ dn1 ++ rest1 = dn ++ zs)
          ⟨acc, dn, zs, s5 _ _ hD4, .refl, s14.trans s5, Rep.same s5 rs4, ez, rfl⟩ (fun j H6 _ ⟨_, _, _, hz, kp, s6, _⟩ => ⟨kp, hidT H6 s6 ⟨_, hz⟩⟩) ?_ ?_
        · rintro j x1 H6 H7 hj ⟨acc1, dn1, rest1, hD6, kp6, s6, rs6, hr6, hy6⟩ ⟨s7, y1, ey7, ry7⟩
          have ry8 := ry7 (fun b => P b ∨ b = D) (fun a c => .inl c) (hidT H6 s6 ⟨_, hD6⟩)
          have hs7 : Slots cm (fun b => P b ∨ b = D) H7 (L2.wipe (setA (L2.wipe σ vs) qs) vs1) (wipeE (setE (wipeE env vs) ps) vs1) := ((hs5.keep kp6 (hidT H6 s6 ⟨_, hD6⟩)).same s7).wipe vs1
          have dr1 : ys1.drop j = y1 :: ys1.drop (j + 1) := by
            obtain ⟨lt, eq⟩ := List.getElem?_eq_some_iff.mp ey7
            rw [List.drop_eq_getElem_cons lt, eq]
          rw [dr1] at hr6
          unfold lcGo at hr6
          obtain ⟨ps1, e3, hr6⟩ := Option.bind_eq_some_iff.mp hr6
          obtain ⟨k1, e4, hr6⟩ := Option.bind_eq_some_iff.mp hr6
          obtain ⟨qs1, pr1, mem1, go1⟩ := hg1.go _ H7 x1 y1 ps1 ry8 e3
          have hs8 := Slots.sets pr1 hs7
          refine go1 _ _ ⟨?_, ht1 _ _ k1 _ H7 _ hs8 e4 fun H8 s8 => ?_⟩
          · rw [wipe_setA fun q hq => hi1 _ (mem1 q hq), wipe_wipe fun _ h => h]
          · have hD8 := s8 _ _ (s7 _ _ hD6)
            have s18 := s6.trans (s7.trans s8)
            have rs8 := Rep.same s8 (Rep.same s7 rs6)
            have kp8 : Keep (fun b => P b ∨ b = D) H5 H8 := kp6.trans ((Keep.of s7).trans (.of s8))
            by_cases c1 : k1 = true
            · rw [if_pos c1] at hr6 ⊢
              obtain ⟨z, e5, hr6⟩ := Option.bind_eq_some_iff.mp hr6
              obtain ⟨rest3, e6, hr6⟩ := Option.bind_eq_some_iff.mp hr6
              cases hr6
              refine ⟨_, _, z, hs8.same s8, e5, fun u H9 s9 ru => ⟨acc1, s9 _ _ hD8, ?_, ?_⟩⟩
              · have h1 := Res.length rs8
                have h2 := congrArg List.length hy6
                have h3 := congrArg List.length hy
                simp only [List.length_append, List.length_cons] at h2 h3
                exact most_line (by omega)
              · obtain ⟨p1, p2, p3⟩ := push H9 acc1 dn1 u z (s9 _ _ hD8) (s18.trans s9) (Rep.same s9 rs8) ru
                refine ⟨_, dn1 ++ [z], rest3, p1, fun b o e n => ?_, p2, p3, e6, by rw [List.append_assoc]; exact hy6⟩
                rw [upd_ne fun z => n (.inr z)]
                exact s9 _ _ (kp8 b o e n)
            · rw [if_neg c1] at hr6 ⊢
              exact ⟨acc1, dn1, rest1, hD8, kp8, s18, rs8, hr6, hy6⟩
        · rintro H6 ⟨acc1, dn1, rest1, hD6, kp6, s6, rs6, hr6, hy6⟩
          rw [List.drop_length] at hr6
          cases hr6
          rw [List.append_nil] at hy6
          subst hy6
          exact ⟨acc1, _, rest2, hD6, s6, rs6, er, by rw [List.append_assoc]; exact hy⟩
      · rw [if_neg c] at hr ⊢
        exact ⟨acc, dn, rest, hD4, s14, rs4, hr, hy⟩
  · rintro H2 ⟨acc, dn, rest, hD, s2, rs, hr, hy⟩
    rw [List.drop_length] at hr
    cases hr
    rw [List.append_nil] at hy
    subst hy
    exact q D acc H2 (s1.trans s2) (s1.free nD) hD rs lm
/-! isinstance(x, (T1, T2)) -/
section
variable {X : Cx} {cm : Cm} {a b c e : Expr} {f g h : En → Option Val} {pos : Pos}
def isi2F (T1 T2 : String) (f : En → Option Val) : En → Option Val := fun env => (f env).bind fun x => (tyOf x).bind fun t => (kitB t T1).bind fun b1 => (kitB t T2).map fun b2 => .bl (b1 || b2)
theorem kitAny2 {K : PySem.W.Frag} {t T1 T2 : String} {b1 b2 : Bool} (h1 : kitB t T1 = some b1) (h2 : kitB t T2 = some b2) : PySem.W.kitAny K (.type t) [.type T1, .type T2] = some (b1 || b2) := by
  unfold PySem.W.kitAny
  rw [kit_ty h1]
  cases b1
  · show PySem.W.kitAny K (.type t) [.type T2] = some (false || b2)
    unfold PySem.W.kitAny
    rw [kit_ty h2]
    cases b2 <;> rfl
  · rfl
theorem ve_isi2 {T1 T2 : String} {x1 x2 : Str} {p p1 p2 p3 : Pos} {kk : Nat} (g1 : Gl X x1) (m1 : X.mg x1 = none) (v1 : bootBuiltins x1 = some (.type T1)) (g2 : Gl X x2) (m2 : X.mg x2 = none) (v2 : bootBuiltins x2 = some (.type T2)) (hg : Gl X "isinstance") (hm : X.mg "isinstance" = none) (hv : bootBuiltins "isinstance" = some (.builtin "isinstance")) (ha : VE X cm e f)
    (n1 : x1 ≠ "__name__" := by decide) (d1 : (x1 == ("__debug__" : Str)) = false := by decide) (n2 : x2 ≠ "__name__" := by decide) (d2 : (x2 == ("__debug__" : Str)) = false := by decide)
    (s1 : starEach [.Name x1 p1, .Name x2 p2] X.env = (false, eval (.Name x1 p1) X.env) :: starEach [.Name x2 p2] X.env := by rfl) (s2 : starEach [.Name x2 p2] X.env = (false, eval (.Name x2 p2) X.env) :: starEach [] X.env := by rfl)
    (he : starEach [e, .Tuple [.Name x1 p1, .Name x2 p2] kk p3] X.env = (false, eval e X.env) :: starEach [.Tuple [.Name x1 p1, .Name x2 p2] kk p3] X.env := by rfl) (he2 : starEach [.Tuple [.Name x1 p1, .Name x2 p2] kk p3] X.env = (false, eval (.Tuple [.Name x1 p1, .Name x2 p2] kk p3) X.env) :: starEach [] X.env := by rfl) (hpl : (backTo pos (starEach [.Tuple [.Name x1 p1, .Name x2 p2] kk p3] X.env)).any (·.1) = false := by rfl) :
    VE X cm (.Call (.Name "isinstance" p) [e, .Tuple [.Name x1 p1, .Name x2 p2] kk p3] [] pos) (isi2F T1 T2 f) :=
  (pe_callB call_isiT hg hm hv (pa_cons ha (pa_cons (pe_tup (pa_cons (pe_bltn (v := .ty T1) g1 m1 v1 rfl n1 d1) (pa_cons (pe_bltn (v := .ty T2) g2 m2 v2 rfl n2 d2) pa_nil s2) s1)) pa_nil he2) he) (by decide) (by decide) he hpl).weak fun σ H Q ⟨P, env, z, hs, hf, q⟩ => by
    unfold isi2F at hf
    obtain ⟨x, ex, h1⟩ := Option.bind_eq_some_iff.mp hf
    obtain ⟨t, et, h2⟩ := Option.bind_eq_some_iff.mp h1
    obtain ⟨b1, e1, h3⟩ := Option.bind_eq_some_iff.mp h2
    obtain ⟨b2, e2, rfl⟩ := Option.map_eq_some_iff.mp h3
    refine ⟨P, env, x, hs, ex, fun v H1 s1 r1 => ⟨by show 2 ≤ sizeLine; rw [sizeLine_eq]; omega, fun p np => ?_⟩⟩
    have s2 : Same H1 (upd H1 p (.tup [.ty T1, .ty T2])) := fun b o eb => by rw [upd_ne (ne_of_none eb np)]; exact eb
    exact ⟨v, p, _, .type t, _, b1 || b2, rfl, upd_same, .cons (.ty T1) (.cons (.ty T2) .nil), tyOf_re (r1.same s2) et, kitAny2 e1 e2, q _ _ (s1.trans s2) (.bl _)⟩
end
/-! any slice, any sum of tuples -/
section
variable {X : Cx} {cm : Cm} {a b c e : Expr} {f g h : En → Option Val} {pos : Pos}
def cutTA : Val → Option Int → Option Int → Option Val
  | .tup xs, lo, hi => some (.tup (cutG xs lo hi))
  | _, _, _ => none
theorem cutG_whole {xs : List Val} {lo hi : Option Int} (h1 : HT.sIx xs.length 0 lo = 0) (h2 : HT.sIx xs.length xs.length hi = xs.length) : cutG xs lo hi = xs := by
  unfold cutG
  rw [h1, h2, List.drop_zero, Nat.sub_zero, List.take_length]
theorem vs_tupA (P : Addr → Prop) (x z : Val) (i j : Option Int) (v : V) (H : Hp) (Q : VK) (hd : Hid P H) (e : cutTA x i j = some z) (r : Re cm P H v x) (q : ∀ v' H', Same H H' → Re cm P H' v' z → Q v' H') : rSlA X.K v i j H Q := by
  unfold cutTA at e
  split at e
  · cases e
    obtain ⟨a, vs, rfl, n, hh, rs⟩ := r.tup_
    refine ⟨a, vs, rfl, .inl (.inl hh), fun h12 => ?_, fun c p np => ?_⟩
    · rw [Res.length rs] at h12
      rw [cutG_whole h12.1 h12.2] at q
      exact q _ H (Same.refl H) (.tup n hh rs)
    · have s2 : Same H (upd H p (.tup (cutV vs i j))) := fun b o eb => by rw [upd_ne (ne_of_none eb np)]; exact eb
      exact q _ _ s2 (.tup (hd.new np) upd_same (Rep.same s2 (cutG_re rs)))
  · cases e
def catTA : Val → Val → Option Val
  | .tup xs, .tup ys => if xs.length + ys.length ≤ most then some (.tup (xs ++ ys)) else none
  | _, _ => none
theorem ve_catTA (ha : VE X cm a f) (hb : VE X cm b g) : VE X cm (.BinOp a .Add b pos) (bin2 catTA f g) := (pe_op op_catA ha hb).weak fun σ H Q q => by
  obtain ⟨P, env, z, hs, hf, q⟩ := q
  unfold bin2 at hf
  obtain ⟨x, ex, h1⟩ := Option.bind_eq_some_iff.mp hf
  obtain ⟨y, ey, h2⟩ := Option.bind_eq_some_iff.mp h1
  refine ⟨P, env, x, hs, ex, fun v H1 s1 r1 => ⟨P, env, y, hs.same s1, ey, fun u H2 s2 r2 => ?_⟩⟩
  have hd := (hs.hid.same s1).same s2
  have r1 : Re cm P H2 v x := r1.same s2
  unfold catTA at h2
  split at h2
  case h_2 => cases h2
  split at h2
  case isFalse => cases h2
  rename_i l
  cases h2
  obtain ⟨a, vs, rfl, n1, ha1, k1⟩ := r1.tup_
  obtain ⟨b, us, rfl, n2, hb2, k2⟩ := r2.tup_
  have l1 := Res.length k1
  have l2 := Res.length k2
  have s12 := s1.trans s2
  refine ⟨a, b, vs, us, rfl, rfl, .inl (.inl ha1), .inl (.inl hb2), by rw [l1, l2]; exact Nat.le_of_lt (most_line l), fun z => ?_, fun _ z => ?_, fun _ _ p np => ?_⟩
  · subst z
    cases k1
    exact q _ H2 s12 (.tup n2 hb2 k2)
  · subst z
    cases k2
    rw [List.append_nil] at q
    exact q _ H2 s12 (.tup n1 ha1 k1)
  · have s3 : Same H2 (upd H2 p (.tup (vs ++ us))) := fun b o eb => by rw [upd_ne (ne_of_none eb np)]; exact eb
    exact q _ _ (s12.trans s3) (.tup (hd.new np) upd_same (Rep.same s3 (Res.append k1 k2)))
end
section
variable {X : Cx} {cm : Cm} {ow : List Nat} {a b c e : Expr} {es : List Expr} {f g h : En → Option Val} {pos : Pos} {st : Stmt}
theorem vn_lc2 {elt tg iter tg1 iter1 : Expr} {ifs ifs1 : List Expr} {scope : Scope} {own : List (Str × Nat)} {vs1 : List Nat} {gt gt1 : TG} {tt tt1 : TT} {fi fi1 : En → Option (List Val)} {m m1 : Val → Option (List (Nat × Val))} {ft ft1 : En → Option Bool} {fe : En → Option Val} {is is1 : List Nat} (hc : X.calm = true) (hN : X.N.Nodup) (hi : VI X cm tg iter fi) (ok : BlkOk X.N X.env.scope scope own) (hv : ∀ i ∈ vs1, i ∈ own.map (·.2))
    (hg : ∀ (s : Shared) (H : Hp) (C : Addr) (cl : List (Str × Addr)) (fp : List Addr), PG (X.blk s H scope (compEnvC scope cl C X.env) fp) tg gt) (ht : ∀ (s : Shared) (H : Hp) (C : Addr) (cl : List (Str × Addr)) (fp : List Addr), PTs (X.blk s H scope (compEnvC scope cl C X.env) fp) ifs tt)
    (hi1 : ∀ (s : Shared) (H : Hp) (C : Addr) (cl : List (Str × Addr)) (fp : List Addr), VI (X.blk s H scope (compEnvC scope cl C X.env) fp) cm tg1 iter1 fi1)
    (hg1 : ∀ (s : Shared) (H : Hp) (C : Addr) (cl : List (Str × Addr)) (fp : List Addr), PG (X.blk s H scope (compEnvC scope cl C X.env) fp) tg1 gt1) (ht1 : ∀ (s : Shared) (H : Hp) (C : Addr) (cl : List (Str × Addr)) (fp : List Addr), PTs (X.blk s H scope (compEnvC scope cl C X.env) fp) ifs1 tt1)
    (he : ∀ (s : Shared) (H : Hp) (C : Addr) (cl : List (Str × Addr)) (fp : List Addr), VE (X.blk s H scope (compEnvC scope cl C X.env) fp) cm elt fe) (tg_ : TgV cm gt m is) (hi2 : ∀ i ∈ is, i ∈ own.map (·.2)) (tt_ : TtV cm tt ft) (tg1_ : TgV cm gt1 m1 is1) (hi3 : ∀ i ∈ is1, i ∈ vs1) (tt1_ : TtV cm tt1 ft1)
    (hs : ∀ x, foldedSetIterable iter X.env x = pure x := by intro _; rfl) (hs1 : ∀ env x, foldedSetIterable iter1 env x = pure x := by intro _ _; rfl) :
    VN X cm (.ListComp elt [⟨tg, iter, ifs, 0⟩, ⟨tg1, iter1, ifs1, 0⟩] scope pos) (lc2F fi m ft fi1 m1 ft1 fe (own.map (·.2)) vs1) := (pe_lc2 hc hN hi ok hv hg ht hi1 hg1 ht1 he hs hs1).weak (tLc2_of tg_ hi2 tt_ tg1_ hi3 tt1_)
theorem sv_setLc2 {i : Nat} {y : Str} {py : Pos} {elt tg iter tg1 iter1 : Expr} {ifs ifs1 : List Expr} {scope : Scope} {own : List (Str × Nat)} {vs1 : List Nat} {spos : Pos} {gt gt1 : TG} {tt tt1 : TT} {fi fi1 : En → Option (List Val)} {m m1 : Val → Option (List (Nat × Val))} {ft ft1 : En → Option Bool} {fe : En → Option Val} {is is1 : List Nat} {r : En → Option (List Val)} (hc : X.calm = true) (hN : X.N.Nodup) (hy : X.N[i]? = some y) (hyl : X.env.scope.names.lookup y = some .local)
    (hsw : swapsWith (.ListComp elt [⟨tg, iter, ifs, 0⟩, ⟨tg1, iter1, ifs1, 0⟩] scope pos) (some (.Name y py)) spos.line X.env = pure true) (hi : VI X cm tg iter fi) (ok : BlkOk X.N X.env.scope scope own) (hv : ∀ i ∈ vs1, i ∈ own.map (·.2))
    (hg : ∀ (s : Shared) (H : Hp) (C : Addr) (cl : List (Str × Addr)) (fp : List Addr), PG (X.blk s H scope (compEnvC scope cl C X.env) fp) tg gt) (ht : ∀ (s : Shared) (H : Hp) (C : Addr) (cl : List (Str × Addr)) (fp : List Addr), PTs (X.blk s H scope (compEnvC scope cl C X.env) fp) ifs tt)
    (hi1 : ∀ (s : Shared) (H : Hp) (C : Addr) (cl : List (Str × Addr)) (fp : List Addr), VI (X.blk s H scope (compEnvC scope cl C X.env) fp) cm tg1 iter1 fi1)
    (hg1 : ∀ (s : Shared) (H : Hp) (C : Addr) (cl : List (Str × Addr)) (fp : List Addr), PG (X.blk s H scope (compEnvC scope cl C X.env) fp) tg1 gt1) (ht1 : ∀ (s : Shared) (H : Hp) (C : Addr) (cl : List (Str × Addr)) (fp : List Addr), PTs (X.blk s H scope (compEnvC scope cl C X.env) fp) ifs1 tt1)
    (he : ∀ (s : Shared) (H : Hp) (C : Addr) (cl : List (Str × Addr)) (fp : List Addr), VE (X.blk s H scope (compEnvC scope cl C X.env) fp) cm elt fe) (tg_ : TgV cm gt m is) (hi2 : ∀ i ∈ is, i ∈ own.map (·.2)) (tt_ : TtV cm tt ft) (tg1_ : TgV cm gt1 m1 is1) (hi3 : ∀ i ∈ is1, i ∈ vs1) (tt1_ : TtV cm tt1 ft1) (ho : i ∉ ow) (sn : SnV cm ow r (tN cm (lc2F fi m ft fi1 m1 ft1 fe (own.map (·.2)) vs1)))
    (hs : ∀ x, foldedSetIterable iter X.env x = pure x := by intro _; rfl) (hs1 : ∀ env x, foldedSetIterable iter1 env x = pure x := by intro _ _; rfl) :
    SV X cm ow (.Assign [.Name y py] (.ListComp elt [⟨tg, iter, ifs, 0⟩, ⟨tg1, iter1, ifs1, 0⟩] scope pos) spos) (setG i (fun env => (r env).map .lst)) :=
  sv_set0 (ps_setLc2 hc hN hy hyl hsw hi ok hv hg ht hi1 hg1 ht1 he hs hs1) ho (sr_sn (sn.weak (tLc2_of tg_ hi2 tt_ tg1_ hi3 tt1_)))
end
end Up

namespace Up
open PySem PySem.Spec PyProof.Rows L2
section
variable {X : Cx} {cm : Cm} {ow : List Nat} {a b c e : Expr} {es : List Expr} {f g h : En → Option Val} {pos : Pos} {st : Stmt}
/-! (*way, letter) -/
def starC (f : En → Option Val) (g : En → Option (List Val)) : En → Option (List Val) := fun env => (f env).bind fun x => (itemsOf x).bind fun xs => (g env).bind fun ys => some (xs ++ ys)
theorem va_star {p : Pos} {k : En → Option (List Val)} (ha : VE X cm e f) (hr : VA X cm es k) (hs : starEach (.Starred e p :: es) X.env = (true, eval e X.env) :: starEach es X.env := by rfl) : VA X cm (.Starred e p :: es) (starC f k) :=
  (StX.pa_star ha hr hs).weak fun σ H Q ⟨P, env, z, hs, hf, q⟩ => by
    unfold starC at hf
    obtain ⟨x, ex, h1⟩ := Option.bind_eq_some_iff.mp hf
    obtain ⟨xs, exs, h2⟩ := Option.bind_eq_some_iff.mp h1
    obtain ⟨ys, ey, h3⟩ := Option.bind_eq_some_iff.mp h2
    cases h3
    refine ⟨P, env, x, hs, ex, fun v H1 s1 r1 => ?_⟩
    obtain ⟨p', vs, rfl, hsq, rs⟩ := itemsOf_re (K := X.K) r1 exs
    exact ⟨p', vs, rfl, hsq.symm, P, env, ys, hs.same s1, ey, fun us H2 s2 r2 => q _ H2 (s1.trans s2) (Res.append (Rep.same s2 rs) r2)⟩
/-! {x}, s.add(x), x in s, x not in s -/
theorem setAdd_R {prog : Program} {w : World} {A : Around} {E : Value → Shared → Prop} {s : Shared} {a : Addr} {S : Int → Bool} {n : Nat} {k : Int} {tk : Tok} {Q : Bool → Shared → Prop} (R : SetR w s.heap a S n) (room : n + 1 < scanBound)
    (hQ : ∀ h', Heap.SameBut a s.heap h' → SetR w h' a (fun j => S j || decide (j = k)) (if S k = true then n else n + 1) → ∀ b, Q b { s with heap := h', toks := s.toks + 1 }) :
    wpAny (model prog w) A (setAdd a (.int k tk)) Q E s := by
  unfold setAdd
  refine wpAny_holding (wpAny_bind ((intKind prog w).pyHash (intKind_is prog w k tk) ?_))
  exact setR_add_hashed (P := prog) (s := { s with toks := s.toks + 1 }) R room fun h' sb r => hQ h' sb r _
def tSet1 (w : World) (te : TE) : TE := fun σ H Q => ∀ p, H p = none → te σ (upd H p (SetO w p (fun _ => false) 0)) fun x H1 => ∃ k, x = .int k ∧ H1 p = some (SetO w p (fun _ => false) 0) ∧ Q (.ref p) (upd H1 p (SetO w p (fun j => false || decide (j = k)) 1))
theorem pe_set1 {te : TE} (hc : PySem.W.kdsCode X.K X.env.code = true) (he : PE X e te) (hp : PySem.W.kdsPlain e = true := by rfl) : PE X (.Set [e] 0 pos) (tSet1 X.w te) := by
  refine ⟨fun pins s σ H Q I h => ?_⟩
  rw [arm_eval_Set]
  refine wpAny_bind (wpAny_standAt (wpAny_bind (PySem.W.kds_main I.kIn hc fun b => ?_)))
  rw [PySem.W.kds_star [e] (by rw [List.all_cons, hp]; rfl), List.map_map]
  have hn : H s.heap.objs.size = none := I.hok.fresh (Nat.le_refl _)
  unfold setDisplay
  have hr : (displayRoad 0 [e] == DisplayRoad.constants) = false := rfl
  have hu : (displayRoad 0 [e] == DisplayRoad.unsure) = false := rfl
  rw [hr, hu]
  simp only [Bool.false_eq_true, if_false]
  refine wpAny_bind (PySem.wpAny_newSet_raw fun led hl => ?_)
  subst hl
  have R0 := setR_fresh (h := s.heap) X.w
  have I1 : Inv X pins σ (upd H s.heap.objs.size (SetO X.w s.heap.objs.size (fun _ => false) 0)) { s with heap := s.heap.push { cls := .type "set", dict := none, data := .set #[] 0 (.fresh 0 0 (!X.w.params.followText "set-order")) } } :=
    I.laid (t' := s.toks) (fun b u e => Heap.get?_push_of_some _ e) (Nat.le_refl _) (setO_new R0)
  dsimp only
  refine wpAny_bind (wpAny_holding ?_)
  show wpAny _ _ ((evalAll [do let v ← eval e X.env; standAt pos; pure v]) >>= _) _ _ _
  refine wpAny_bind (wpAny_bind (wpAny_bind (thn (he.run pins _ σ _ _ I1 (h _ hn)) fun v s1 ⟨x, H1, I2, rx, k, ex, hp1, q⟩ => ?_)))
  subst ex
  obtain ⟨tk, rfl⟩ := rx
  refine wpAny_bind (wpAny_standAt (wpAny_pure ?_))
  refine wpAny_bind (wpAny_holding (wpAny_pure (wpAny_pure ?_)))
  refine wpAny_bind (wpAny_holding ?_)
  rw [List.forIn_cons]
  have R2 := setO_get I2 hp1
  refine wpAny_bind (wpAny_bind (wpAny_bind (setAdd_R R2 (by decide) fun h' sb R3 b => ?_)))
  have he' : ∃ u, h'.get? s.heap.objs.size = some u := by
    have ⟨o, _, _, _, ho, _⟩ := R3
    exact ⟨o, ho⟩
  have I3 : Inv X pins σ (upd H1 s.heap.objs.size (SetO X.w s.heap.objs.size (fun j => false || decide (j = k)) 1)) { s1 with heap := h', toks := s1.toks + 1 } :=
    I2.write (e := s.heap.objs.size) (t' := s1.toks + 1) (by rw [hp1]; trivial) (.inl rfl) (fun b u hb hu => (sb.2 b hb).trans hu) he' (setO_new R3)
  refine wpAny_pure ?_
  dsimp only
  rw [List.forIn_nil]
  refine wpAny_pure (wpAny_pure ?_)
  refine wpAny_bind ?_
  have dr : ∀ (ys : List (Bool × Sem Value)) (n : Nat) (g : Bool × Sem Value → PUnit → Sem (ForInStep PUnit)) (Q' : PUnit → Shared → Prop) (s' : Shared), ys.length ≤ n → Q' PUnit.unit s' → wpAny (model X.prog X.w) X.A (forIn (ys.drop n) PUnit.unit g) Q' X.xe s' := fun ys n g Q' s' hl hq => by
    rw [List.drop_of_length_le hl, List.forIn_nil]
    exact wpAny_pure hq
  refine dr _ _ _ _ _ (Nat.le_refl 1) ?_
  exact wpAny_pure (wpAny_pure ⟨.ref _, _, I3, rfl, q⟩)
def newSG (i : Nat) (f : En → Option Val) : En → Option Out := fun env => if i < env.length then (f env).bind fun x => match x with
  | .int k => some (.nx (env.set i (some (.set [k]))))
  | _ => none
  else none
theorem sv_newS {i : Nat} {x : Str} {pos' : Pos} {k : Nat} (hc : PySem.W.kdsCode X.K X.env.code = true) (hw : cm.w = X.w) (hN : X.N.Nodup) (hi : X.N[i]? = some x) (hx : Loc X.env.scope x) (ho : i ∈ ow) (he : VE X cm e f) (hp : PySem.W.kdsPlain e = true := by rfl) (hk : k = 0 := by rfl) (hs : swapsWith (.Set [e] k pos) (some (.Name x pos')) pos.line X.env = pure false := by rfl) (hf : X.fn x = true ∨ X.env.scope.names.lookup x = some .local := by first | exact .inl rfl | exact .inr rfl | assumption) {spos : Pos}
    (hs2 : swapsWith (.Set [e] k pos) (some (.Name x pos')) spos.line X.env = pure false := by rfl) :
    SV X cm ow (.Assign [.Name x pos'] (.Set [e] k pos) spos) (newSG i f) := by
  subst hk
  refine (ps_set hN hi hx (pe_set1 (X := X) (pos := pos) hc he hp) hs2 hf).weak fun D σ H ⟨P, H0, env, o, hs, hg, q⟩ => ?_
  unfold newSG at hg
  split at hg
  case isFalse => cases hg
  rename_i lt
  obtain ⟨y, ey, hg⟩ := Option.bind_eq_some_iff.mp hg
  split at hg
  case h_2 => cases hg
  rename_i m
  cases hg
  intro p np
  have s1 : Same H (upd H p (SetO X.w p (fun _ => false) 0)) := fun b o eb => by rw [upd_ne (ne_of_none eb np)]; exact eb
  refine ⟨P, env, _, hs.view.same s1, ey, fun v H1 s2 r2 => ?_⟩
  cases r2.int_
  refine ⟨m, rfl, s2 _ _ upd_same, ?_⟩
  have s3 : Same H (upd H1 p (SetO X.w p (fun j => false || decide (j = m)) 1)) := fun b o eb => by
    rw [upd_ne (ne_of_none eb np)]
    exact s2 _ _ (s1 _ _ eb)
  obtain ⟨h1, h2⟩ := hs.newO ho lt np s3 (x := .set [m]) (.set (S := fun j => false || decide (j = m)) (n := 1) (by rw [hw]; exact upd_same) (fun j => by simp) rfl)
  exact q _ _ h1 h2
def addS (xs : List Int) (k : Int) : List Int := if k ∈ xs then xs else xs ++ [k]
def addG (i : Nat) (f : En → Option Val) : En → Option Out := fun env => match env[i]? with
  | some (some (.set xs)) => if xs.length ≤ 1000 then (f env).bind fun y => match y with
    | .int k => some (.nx (env.set i (some (.set (addS xs k)))))
    | _ => none
    else none
  | _ => none
theorem sv_add0 {i : Nat} (hst : PS X st (tDrop (tSAdd X.w (tVar i) (tCons (tV cm f) tNil)))) (hw : cm.w = X.w) (ho : i ∈ ow) : SV X cm ow st (addG i f) := hst.weak fun D σ H ⟨P, H0, env, o, hs, hg, q⟩ => by
  unfold addG at hg
  split at hg
  case h_2 => cases hg
  rename_i xs ex
  split at hg
  case isFalse => cases hg
  rename_i lm
  obtain ⟨y, ey, hg⟩ := Option.bind_eq_some_iff.mp hg
  split at hg
  case h_2 => cases hg
  rename_i k
  cases hg
  obtain ⟨a, hσ, nP, h0, tp⟩ := hs.own i ho _ ex
  cases tp with
  | @set S n _ ha hS hn =>
    rw [hw] at ha
    refine ⟨_, hσ, ⟨a, S, n, rfl, ha⟩, P, env, .int k, hs.view, ey, fun v H1 s1 r1 => ?_⟩
    cases r1.int_
    refine ⟨a, k, S, n, rfl, rfl, s1 _ _ ha, by rw [hn]; show xs.length + 1 < 4096; omega, ?_⟩
    have hs1 := hs.same s1
    obtain ⟨h1, h2⟩ := hs1.putO ho ex hσ (o := SetO X.w a (fun j => S j || decide (j = k)) (if S k = true then n else n + 1)) (x := .set (addS xs k)) (.set (S := fun j => S j || decide (j = k)) (n := if S k = true then n else n + 1) (by rw [hw]; exact upd_same) (fun j => by
      unfold addS
      rw [hS]
      by_cases c : k ∈ xs
      · rw [if_pos c]
        by_cases c2 : j = k
        · subst c2
          simp [c]
        · simp [c2]
      · rw [if_neg c, Bool.eq_iff_iff]
        simp) (by
      unfold addS
      rw [hS]
      by_cases c : k ∈ xs
      · rw [if_pos c, decide_eq_true c, if_pos rfl]
        exact hn
      · rw [if_neg c, decide_eq_false c, if_neg Bool.false_ne_true, List.length_append, hn]
        rfl))
    exact q _ _ h1 (Fr.trans (.same s1) h2)
def inSF (neg : Bool) : Val → Val → Option Val
  | .int k, .set xs => some (.bl (if neg then !decide (k ∈ xs) else decide (k ∈ xs)))
  | _, _ => none
theorem ov_sin {w : World} (hw : cm.w = w) : OpV cm (rSIn w) (inSF false) := fun P x y z v u H Q e rx ry q => by
  subst hw
  unfold inSF at e
  split at e
  · cases e
    cases rx.int_
    cases ry with
    | set n hh hS hn => exact ⟨_, _, _, _, rfl, rfl, hh, by rw [hS]; exact q _ H (Same.refl H) (.bl _)⟩
  · cases e
theorem ov_snotin {w : World} (hw : cm.w = w) : OpV cm (rSNotIn w) (inSF true) := fun P x y z v u H Q e rx ry q => by
  subst hw
  unfold inSF at e
  split at e
  · cases e
    cases rx.int_
    cases ry with
    | set n hh hS hn => exact ⟨_, _, _, _, rfl, rfl, hh, by rw [hS]; exact q _ H (Same.refl H) (.bl _)⟩
  · cases e
end
section
variable {P : Program} {w : World} {K : PySem.W.Frag} {mg : Str → Option Value} {base : Heap} {cm : Cm}
theorem kds_of {cd : Value} {q : Str} (h : PySem.W.codeIn K cd q = true) : PySem.W.kdsCode K cd = true := by
  unfold PySem.W.codeIn at h
  unfold PySem.W.kdsCode
  split at h
  · split at h
    · rename_i e
      simp only [e]
    · cases h
  · cases h
/-- okD, where the body may know that its code object stands -/
theorem okDC {x : Str} {st : Stmt} {f : Addr} {fd : FuncData} {N ps : List Str} {k : Nat} (ow : List Nat) {g : En → Option Out} (D : Dd K mg x st ps f fd) (S : FnScope N ps (defScope st)) (ho : ∀ i ∈ ow, ps.length ≤ i)
    (hbody : ∀ (cdv : Value) (A : Around) (outer : List Env) (s : Shared) (H : Hp) (E : XK), PySem.W.kdsCode K cdv = true → Room k (A.deeper (envOfC x (defScope st) s.heap.objs.size f cdv)) → (A.deeper (envOfC x (defScope st) s.heap.objs.size f cdv)).units + 64 < cLine → SVs (cxOf CX0 P w K mg base N x (defScope st) f cdv A outer s H E).nox cm ow (defBody st) g) :
    Df P w K mg base cm x (k + 1) ps (runV N.length ps.length g) f fd := by
  refine ⟨?_, D.at_, D.fn.kp, D.bd⟩
  obtain ⟨oc, od, kV, doc, pm, an, cdv, ct, osl, rfl, lk, hcd⟩ := D.fn.ex
  have lenS : ∀ (vs : List V) (H : Hp) (Q : VK) (E : XK), spV cm (runV N.length ps.length g) vs H Q E → vs.length = ps.length := fun vs H Q E ⟨P', xs, z, _, r, e, _⟩ => by
    unfold runV at e
    split at e
    · rename_i l
      rw [Res.length r]
      exact l
    · cases e
  refine fn_of lk hcd S lenS fun A outer s H vs Q E hr h => ?_
  obtain ⟨P', xs, z, hd, r, e, q⟩ := h
  refine ⟨_, (hbody cdv A outer s H E (kds_of hcd) hr (by have := hr.un; omega)).nox, ?_⟩
  unfold runV at e
  split at e
  case isFalse => cases e
  rename_i l
  obtain ⟨o, e1, e⟩ := Option.bind_eq_some_iff.mp e
  refine ⟨P', H, _, o, start_st (N := N) hd r (by rw [l]; exact ho), e1, ?_⟩
  cases o with
  | nx env' =>
    cases e
    exact fun σ' H' hs f => q _ H' hs.base .non
  | rt y =>
    cases e
    exact fun v H' s r => q v H' s r
  | bk env' => cases e
  | ct env' => cases e
end
end Up

namespace Up
open PySem PySem.Spec PyProof.Rows L2
/-! len(set(xs)), xs a tuple of ints -/
def ddI (ns : List Int) : List Int := ns.foldl addS []
theorem addS_mem {xs : List Int} {k j : Int} : j ∈ addS xs k ↔ j ∈ xs ∨ j = k := by
  unfold addS
  by_cases c : k ∈ xs
  · rw [if_pos c]
    constructor
    · exact .inl
    · rintro (h | h)
      · exact h
      · rw [h]
        exact c
  · rw [if_neg c, List.mem_append, List.mem_singleton]
theorem addS_nd {xs : List Int} {k : Int} (h : xs.Nodup) : (addS xs k).Nodup := by
  unfold addS
  by_cases c : k ∈ xs
  · rw [if_pos c]
    exact h
  · rw [if_neg c]
    refine List.nodup_append.mpr ⟨h, List.nodup_cons.mpr ⟨List.not_mem_nil, List.nodup_nil⟩, fun a ha b hb => ?_⟩
    rcases List.mem_cons.mp hb with e | e
    · rw [e]
      exact fun z => c (z ▸ ha)
    · cases e
theorem dd_go : ∀ (ns acc : List Int), acc.Nodup → (ns.foldl addS acc).Nodup ∧ ∀ j, j ∈ ns.foldl addS acc ↔ j ∈ acc ∨ j ∈ ns
  | [], acc, h => ⟨h, fun j => by simp⟩
  | n :: ns, acc, h => by
    obtain ⟨h1, h2⟩ := dd_go ns (addS acc n) (addS_nd h)
    refine ⟨h1, fun j => ?_⟩
    show j ∈ ns.foldl addS (addS acc n) ↔ _
    rw [h2, addS_mem, List.mem_cons]
    constructor
    · rintro ((a | a) | a)
      · exact .inl a
      · exact .inr (.inl a)
      · exact .inr (.inr a)
    · rintro (a | a | a)
      · exact .inl (.inl a)
      · exact .inl (.inr a)
      · exact .inr a
theorem len_same {α : Type} [DecidableEq α] {a b : List α} (ha : a.Nodup) (hb : b.Nodup) (h : ∀ x, x ∈ a ↔ x ∈ b) : a.length = b.length :=
  Nat.le_antisymm (nd_len ha fun x hx => (h x).mp hx) (nd_len hb fun x hx => (h x).mpr hx)
section
variable {X : Cx} {cm : Cm} {a b c e : Expr} {es : List Expr} {f g h : En → Option Val}
def tLenST (K : PySem.W.Frag) (ta : TE) : TE := fun σ H Q => ta σ H fun x H1 => ∃ (l : Addr) (ns : List Int), x = .ref l ∧ SqT K H1 l (ns.map V.int) ∧ ns.length ≤ 1000 ∧ Q (.int ((ddI ns).length : Nat)) H1
theorem pe_lenST {ta : TE} {p p2 q pos : Pos} (hc : X.calm = true) (hg : Gl X "len") (hm : X.mg "len" = none) (hg2 : Gl X "set") (hm2 : X.mg "set" = none) (ha : PE X a ta)
    (na : starEach [a] X.env = (false, eval a X.env) :: starEach [] X.env := by rfl) : PE X (.Call (.Name "len" p) [.Call (.Name "set" p2) [a] [] q] [] pos) (tLenST X.K ta) := by
  refine ⟨fun pins s σ H Q I h => ?_⟩
  refine Call_ (ld_blt I hg hm PySem.boot_len ?_)
  refine PyProof.Rows.callWith_builtin1 (PyProof.Rows.args_cons ?_ rfl) rfl rfl
  refine Call_ (ld_blt I hg2 hm2 PyProof.Rows.boot_set ?_)
  refine PyProof.Rows.callWith_type1 (PyProof.Rows.args_cons (thn (ha.run pins s σ H _ I h) fun v s1 ⟨x, H1, I1, r1, q1⟩ => PyProof.Rows.args_nil ?_) na) na rfl
  obtain ⟨l, ns, rfl, hq, h1, q1⟩ := q1
  cases r1
  obtain ⟨its, r, pl, hz⟩ := I1.tuple hq
  obtain ⟨tob, ho1, hc1, hn1, hd1⟩ := pl
  refine call_set_tupI ns (I1.ok.hd hc) ⟨tob, ho1, hc1, hn1, hd1⟩ (intsAre_of r) (by show ns.length + 1 < 4096; omega) fun h' tk c R hcl hk => ?_
  refine PyProof.Rows.args_nil ?_
  obtain ⟨o, es, ep, t, ho, hex, hd, g, nd, hmm, hb, hf, hn, hr, hl⟩ := R
  have I2 : Inv X pins σ H1 { s1 with heap := h', toks := tk } := I1.kept hk
  obtain ⟨k1, k2⟩ := dd_go ns [] List.nodup_nil
  have ec : c = (ddI ns).length := by
    have e1 := len_same nd k1 fun j => by
      rw [← hmm j]
      show decide (j ∈ ns) = true ↔ j ∈ ns.foldl addS []
      rw [k2, decide_eq_true_iff]
      simp
    rw [List.length_map, Array.length_toList] at e1
    rw [← hn, e1]
    rfl
  refine call_len_set ho hex hd hf (by rw [hn, ec]; have := nd_len k1 (fun x hx => ((k2 x).mp hx).resolve_left List.not_mem_nil); unfold ddI; omega) ⟨.int ((ddI ns).length : Nat), H1, I2.tok _, ⟨_, by rw [hn, ec]⟩, q1⟩
def intsOf : List Val → Option (List Int)
  | [] => some []
  | .int i :: xs => (intsOf xs).map (i :: ·)
  | _ :: _ => none
theorem intsOf_re {P : Addr → Prop} {H : Hp} : ∀ {vs : List V} {xs : List Val} {ns : List Int}, Res cm P H vs xs → intsOf xs = some ns → vs = ns.map V.int
  | _, _, _, .nil, e => by
    cases e
    rfl
  | _, _, _, .cons (x := x) r t, e => by
    cases x <;> try (cases e; done)
    unfold intsOf at e
    obtain ⟨ms, e1, rfl⟩ := Option.map_eq_some_iff.mp e
    cases Re.int_ r
    rw [intsOf_re t e1]
    rfl
def lenSF (f : En → Option Val) : En → Option Val := fun env => (f env).bind fun x => match x with
  | .tup xs => (intsOf xs).bind fun ns => if ns.length ≤ 1000 then some (.int ((ddI ns).length : Nat)) else none
  | _ => none
theorem ve_lenS {p p2 q pos : Pos} (hc : X.calm = true) (hg : Gl X "len") (hm : X.mg "len" = none) (hg2 : Gl X "set") (hm2 : X.mg "set" = none) (ha : VE X cm a f)
    (na : starEach [a] X.env = (false, eval a X.env) :: starEach [] X.env := by rfl) : VE X cm (.Call (.Name "len" p) [.Call (.Name "set" p2) [a] [] q] [] pos) (lenSF f) := (pe_lenST hc hg hm hg2 hm2 ha na).weak fun σ H Q ⟨P, env, z, hs, hf, q⟩ => by
  unfold lenSF at hf
  obtain ⟨x, ex, h1⟩ := Option.bind_eq_some_iff.mp hf
  split at h1
  case h_2 => cases h1
  obtain ⟨ns, en, h2⟩ := Option.bind_eq_some_iff.mp h1
  split at h2
  case isFalse => cases h2
  rename_i l
  cases h2
  refine ⟨P, env, _, hs, ex, fun v H1 s1 r1 => ?_⟩
  obtain ⟨p', vs, rfl, n1, hh, rs⟩ := r1.tup_
  exact ⟨p', ns, rfl, .inl (.inl (by rw [hh, intsOf_re rs en])), l, q _ H1 s1 (.int _)⟩
end
end Up

namespace Up
open PySem PySem.Spec PyProof.Rows L2
/-! ### calls by names alone -/
/-- what is passed by names comes the other way round -/
theorem kbn_rev {K : PySem.W.Frag} {x qual : Str} {st : Stmt} {f : Addr} {fd : FuncData} {ps ks : List Str} {n : Nat} (F : Fun K x qual st f fd)
    (h : ∀ (kV doc pm : Value) (an : Option Addr) (cdv ct : Value) (us ws : List Value), us.length = n → ws.length = ks.length → bindArgs (PySem.W.fnOf x qual (defArgs st) (defBody st) (defScope st) .none kV doc pm an cdv ct) ⟨us, ks.zip ws⟩ = pure (ps.zip (us ++ ws.reverse))) :
    KBn K fd ps n ks (fun us ws => us ++ ws.reverse) (fun us ws => us ++ ws.reverse) := by
  obtain ⟨oc, od, kV, doc, pm, an, cdv, ct, osl, rfl, lk, hcd⟩ := F.ex
  refine ⟨fun s us ws _ h1 h2 => .of_eq (h kV doc pm an cdv ct us ws h1 h2), fun {vs us zs ws} r1 r2 => r1.append ?_⟩
  have rev : ∀ {zs : List V} {ws : List Value}, Vals zs ws → Vals zs.reverse ws.reverse := fun {zs ws} r => by
    induction r with
    | nil => exact .nil
    | cons a t ih =>
      rw [List.reverse_cons, List.reverse_cons]
      exact ih.append (.cons a .nil)
  exact rev r2
section
variable {X : Cx} {CX : CXT} {k : Nat} {f C : Addr} {fd : FuncData} {ps ks : List Str} {sp : Sp} {E : XK} {x m : Str} {p pos apos : Pos} {o : Expr} {kws : List Keyword} {ta : TE} {tk : TA} {g : List Value → List Value → List Value} {gV : List V → List V → List V}
theorem run_kn {n : Nat} {pins : List (Addr × Obj)} {σ : L2.St} {H : Hp} {s : Shared} {Q : VK} {us ws : List Value} {vs zs : List V} (F : FnOk X.prog X.w X.K X.mg X.base CX k f fd ps sp) (hr : Room k X.A) (hb : KBn X.K fd ps n ks g gV) (hx : Passes CX X E)
    (I : Inv X pins σ H s) (r : Vals vs us) (rz : Vals zs ws) (h1 : vs.length = n) (h2 : zs.length = ks.length) (h : sp (gV vs zs) H Q E) : wpAny (model X.prog X.w) X.A (call (.ref f) us (ks.zip ws)) (EP X pins σ Q) X.xe s := by
  refine wpAny_call (codeAny_mono (F.run X.A X.stack s H ⟨us, ks.zip ws⟩ (g us ws) (gV vs zs) Q E hr I.env0 (hb.to s us ws I.kIn (by rw [← r.length]; exact h1) (by rw [← rz.length]; exact h2)) (hb.rel r rz) h) fun res st2 hq => ?_)
  match res, hq with
  | .error er, hq => exact hx pins σ H s er st2 I hq
  | .ok (.ret u), hq => exact I.after hq
def tCallK0 (m : Nat) (sp : Sp) (gV : List V → List V → List V) (E : XK) (tk : TA) : TE := fun σ H Q => tk σ H fun zs H1 => zs.length = m ∧ sp (gV [] zs) H1 Q E
theorem pe_callK0 (F : FnOk X.prog X.w X.K X.mg X.base CX k f fd ps sp) (hr : Room k X.A) (hg : Gl X x) (hm : X.mg x = some (.ref f)) (hk : PySem.W.keepIn X.K (.ref f) = true) (hb : KBn X.K fd ps 0 ks g gV) (hx : Passes CX X E) (hkw : PK X kws tk)
    (hall : (backToKw pos (keywordEach kws X.env)).all (·.1.isSome) = true := by rfl) (hks : (backToKw pos (keywordEach kws X.env)).filterMap (·.1) = ks := by rfl) (hdb : (x == ("__debug__" : Str)) = false := by decide)
    (hpl : ((backTo pos (starEach [] X.env)).any (·.1) || (backToKw pos (keywordEach kws X.env)).any (·.1.isNone)) = false := by rfl) :
    PE X (.Call (.Name x p) [] kws pos) (tCallK0 ks.length sp gV E tk) := by
  refine ⟨fun pins s σ H Q I h => wpAny_Call_Name_kw (ld_glob I hg hm ?_ hdb)⟩
  refine PySem.W.callWith_KW0 (h₀ := X.base) I.ok.mod.kin hk hall (thn (hkw.run pos pins s σ H _ I h) fun ws s2 ⟨zs, H2, I2, rz, l, q2⟩ => ⟨I2.kIn, ?_⟩) hpl
  rw [hks]
  exact run_kn (us := []) (vs := []) F hr hb hx I2 .nil rz rfl l q2
def tMethK0 (C : Addr) (m : Str) (n : Nat) (sp : Sp) (gV : List V → List V → List V) (E : XK) (ta : TE) (tk : TA) : TE := fun σ H Q => ta σ H fun x H1 => ∃ a dx fs, x = .ref a ∧ H1 a = some (.ins C dx fs) ∧ fs.lookup m = none ∧
  tk σ H1 fun zs H2 => zs.length = n ∧ sp (gV [x] zs) H2 Q E
theorem pe_methK0 {pl : Sem Bool} (he : PE X o ta) (c : Cls X.K C) (hm : Meth X.K C m f) (F : FnOk X.prog X.w X.K X.mg X.base CX k f fd ps sp) (hr : Room k X.A) (hb : KBn X.K fd ps 1 ks g gV) (hx : Passes CX X E) (hkw : PK X kws tk)
    (hall : (backToKw pos (keywordEach kws X.env)).all (·.1.isSome) = true := by rfl) (hks : (backToKw pos (keywordEach kws X.env)).filterMap (·.1) = ks := by rfl)
    (hpl : ((backTo pos (starEach [] X.env)).any (·.1) || (backToKw pos (keywordEach kws X.env)).any (·.1.isNone)) = false := by rfl)
    (ht : eval (.Call (.Attribute o m apos) [] kws pos) X.env = (do
      let ov ← eval o X.env
      standAt apos.atName
      let (f, first) ← holding [ov] (getMethod ov m pl)
      callWith pos f first (backTo pos (starEach [] X.env)) (backToKw pos (keywordEach kws X.env))) := by rfl) :
    PE X (.Call (.Attribute o m apos) [] kws pos) (tMethK0 C m ks.length sp gV E ta tk) := by
  refine ⟨fun pins s σ H Q I h => ?_⟩
  refine PySem.W.methodCall_KW (pl := pl) (thn (he.run pins s σ H _ I h) fun u s1 ⟨y, H1, I1, rx, a, dx, fs, ex, ea, l, q⟩ => ?_) ht
  subst ex
  obtain rfl : u = Value.ref a := rx
  refine getmeth_ok I1 ea c hm l ?_
  refine PySem.W.callWith_KW0 (first := [.ref a]) (h₀ := X.base) I.ok.mod.kin hm.kp hall (thn (hkw.run pos pins s1 σ H1 _ I1 q) fun ws s2 ⟨zs, H2, I2, rz, l2, q2⟩ => ⟨I2.kIn, ?_⟩) hpl
  rw [hks]
  exact run_kn (us := [.ref a]) (vs := [.ref a]) F hr hb hx I2 (.cons rfl .nil) rz rfl l2 q2
end
section
variable {X : Cx} {cm : Cm} {e o : Expr} {es : List Expr} {f g h : En → Option Val} {p pos apos : Pos} {x m : Str} {kws : List Keyword} {k : Nat} {ps ks : List Str} {F : List Val → Option Val} {fa : Addr} {fd : FuncData}
abbrev VK_ (X : Cx) (cm : Cm) (kws : List Keyword) (f : En → Option (List Val)) : Prop := PK X kws (tVA cm f)
theorem _root_.L2.PK.weak {t t' : TA} (h : PK X kws t) (k : ∀ σ H Q, t' σ H Q → t σ H Q) : PK X kws t' := ⟨fun pos pins s σ H Q I q => h.run pos pins s σ H Q I (k σ H Q q)⟩
theorem vk_nil : VK_ X cm [] noF := pk_nil.weak fun σ H Q ⟨P, env, z, hs, hf, q⟩ => by
  cases hf
  exact q [] H (Same.refl H) .nil
theorem vk_cons {nm : Option Str} {kpos : Pos} {r : En → Option (List Val)} (ha : VE X cm e f) (hr : VK_ X cm kws r) : VK_ X cm (⟨nm, e, kpos⟩ :: kws) (consF f r) := (pk_cons ha hr).weak fun σ H Q ⟨P, env, z, hs, hf, q⟩ => by
  unfold consF at hf
  obtain ⟨y, ey, h1⟩ := Option.bind_eq_some_iff.mp hf
  obtain ⟨ys, eys, h2⟩ := Option.bind_eq_some_iff.mp h1
  cases h2
  exact ⟨P, env, y, hs, ey, fun v H1 s1 r1 => ⟨P, env, ys, hs.same s1, eys, fun vs H2 s2 r2 => q (v :: vs) H2 (s1.trans s2) (.cons (r1.same s2) r2)⟩⟩
theorem Res.reverse {P : Addr → Prop} {H : Hp} : ∀ {vs : List V} {xs : List Val}, Res cm P H vs xs → Res cm P H vs.reverse xs.reverse
  | _, _, .nil => .nil
  | _, _, .cons r t => by
    rw [List.reverse_cons, List.reverse_cons]
    exact Res.snoc (Res.reverse t) r
def revF (F : List Val → Option Val) (n : Nat) (t : En → Option (List Val)) : En → Option Val := fun env => (t env).bind fun xs => if xs.length = n then F xs.reverse else none
theorem ve_callK (d : Df X.prog X.w X.K X.mg X.base cm x k ps F fa fd) (hr : Room k X.A) (hg : Gl X x) (hb : KBn X.K fd ps 0 ks (fun us ws => us ++ ws.reverse) (fun us ws => us ++ ws.reverse)) {t : En → Option (List Val)} (hkw : VK_ X cm kws t) {n : Nat} (hn : ks.length = n := by rfl)
    (hall : (backToKw pos (keywordEach kws X.env)).all (·.1.isSome) = true := by rfl) (hks : (backToKw pos (keywordEach kws X.env)).filterMap (·.1) = ks := by rfl) (hdb : (x == ("__debug__" : Str)) = false := by decide)
    (hpl : ((backTo pos (starEach [] X.env)).any (·.1) || (backToKw pos (keywordEach kws X.env)).any (·.1.isNone)) = false := by rfl) :
    VE X cm (.Call (.Name x p) [] kws pos) (revF F n t) := hn ▸ (pe_callK0 d.ok hr hg d.at_ d.kp hb pass0 hkw hall hks hdb hpl).weak fun σ H Q ⟨P, env, z, hs, hf, q⟩ => by
  unfold revF at hf
  obtain ⟨xs, ex, h1⟩ := Option.bind_eq_some_iff.mp hf
  split at h1
  case isFalse => cases h1
  rename_i l
  exact ⟨P, env, xs, hs, ex, fun vs H1 s1 r1 => ⟨by rw [Res.length r1]; exact l, P, xs.reverse, z, hs.hid.same s1, (show Res cm P H1 ([] ++ vs.reverse) xs.reverse from by rw [List.nil_append]; exact Res.reverse r1), h1, fun v H2 s2 r2 => q v H2 (s1.trans s2) r2⟩⟩
/-- a method that is a function of its arguments' trees -/
structure Dm (P : Program) (w : World) (K : PySem.W.Frag) (mg : Str → Option Value) (base : Heap) (cm : Cm) (c : Nat) (m : Str) (k : Nat) (ps : List Str) (F : List Val → Option Val) (f : Addr) (fd : FuncData) : Prop where
  ok : FnOk P w K mg base CX0 k f fd ps (spV cm F)
  cl : Cls K (cm.cls c)
  me : Meth K (cm.cls c) m f
  bd : Binds K fd ps []
def metF (c : Nat) (m : Str) (F : List Val → Option Val) (f : En → Option Val) (t : En → Option (List Val)) : En → Option Val := fun env => (f env).bind fun x => match x with
  | .ins c' ns _ => if c' = c ∧ m ∉ ns then (t env).bind fun xs => F (x :: xs) else none
  | _ => none
theorem look_none {m : Str} : ∀ {fs : List (Str × V)}, m ∉ fs.map (·.1) → fs.lookup m = none
  | [], _ => rfl
  | (n, v) :: fs, h => by
    have hb : (m == n) = false := beq_eq_false_iff_ne.mpr fun z => h (by rw [z]; exact List.mem_cons_self ..)
    simp only [List.lookup, hb]
    exact look_none fun z => h (List.mem_cons_of_mem _ z)
theorem ve_meth {c : Nat} (d : Dm X.prog X.w X.K X.mg X.base cm c m k ps F fa fd) (hr : Room k X.A) (ho : VE X cm o f) {t : En → Option (List Val)} (ha : VA X cm (e :: es) t) {pl : Sem Bool}
    (hst : starEach (e :: es) X.env = (false, eval e X.env) :: starEach es X.env := by rfl) (hpl : (backTo pos (starEach es X.env)).any (·.1) = false := by rfl)
    (ht : eval (.Call (.Attribute o m apos) (e :: es) [] pos) X.env = (do
      let ov ← eval o X.env
      standAt apos.atName
      let (f, first) ← holding [ov] (getMethod ov m pl)
      callWith pos f first (backTo pos (starEach (e :: es) X.env)) (backToKw pos (keywordEach [] X.env))) := by rfl) :
    VE X cm (.Call (.Attribute o m apos) (e :: es) [] pos) (metF c m F f t) := (pe_meth ho d.cl d.me d.ok hr d.bd .nil pass0 ha hst hpl ht).weak fun σ H Q ⟨P, env, z, hs, hf, q⟩ => by
  unfold metF at hf
  obtain ⟨y, ey, h1⟩ := Option.bind_eq_some_iff.mp hf
  split at h1
  case h_2 => cases h1
  split at h1
  case isFalse => cases h1
  rename_i hc
  obtain ⟨rfl, hn⟩ := hc
  obtain ⟨xs, ex, h2⟩ := Option.bind_eq_some_iff.mp h1
  refine ⟨P, env, _, hs, ey, fun v H1 s1 r1 => ?_⟩
  have r1' := r1
  cases r1 with
  | @ins a dx _ fs _ n hh r =>
    refine ⟨a, dx, fs, rfl, hh, look_none hn, P, env, xs, hs.same s1, ex, fun vs H2 s2 r2 => ?_⟩
    show spV cm F (.ref a :: (vs ++ [])) H2 Q _
    rw [List.append_nil]
    exact ⟨P, _, z, (hs.hid.same s1).same s2, .cons (r1'.same s2) r2, h2, fun v H3 s3 r3 => q v H3 (s1.trans (s2.trans s3)) r3⟩
def metKF (c : Nat) (m : Str) (n : Nat) (F : List Val → Option Val) (f : En → Option Val) (t : En → Option (List Val)) : En → Option Val := fun env => (f env).bind fun x => match x with
  | .ins c' ns _ => if c' = c ∧ m ∉ ns then (t env).bind fun xs => if xs.length = n then F (x :: xs.reverse) else none else none
  | _ => none
theorem ve_methK {c : Nat} (d : Dm X.prog X.w X.K X.mg X.base cm c m k ps F fa fd) (hr : Room k X.A) (ho : VE X cm o f) (hb : KBn X.K fd ps 1 ks (fun us ws => us ++ ws.reverse) (fun us ws => us ++ ws.reverse)) {t : En → Option (List Val)} (hkw : VK_ X cm kws t) {pl : Sem Bool} {n : Nat}
    (hall : (backToKw pos (keywordEach kws X.env)).all (·.1.isSome) = true := by rfl) (hks : (backToKw pos (keywordEach kws X.env)).filterMap (·.1) = ks := by rfl)
    (hpl : ((backTo pos (starEach [] X.env)).any (·.1) || (backToKw pos (keywordEach kws X.env)).any (·.1.isNone)) = false := by rfl)
    (ht : eval (.Call (.Attribute o m apos) [] kws pos) X.env = (do
      let ov ← eval o X.env
      standAt apos.atName
      let (f, first) ← holding [ov] (getMethod ov m pl)
      callWith pos f first (backTo pos (starEach [] X.env)) (backToKw pos (keywordEach kws X.env))) := by rfl) (hn : ks.length = n := by rfl) :
    VE X cm (.Call (.Attribute o m apos) [] kws pos) (metKF c m n F f t) := hn ▸ (pe_methK0 ho d.cl d.me d.ok hr hb pass0 hkw hall hks hpl ht).weak fun σ H Q ⟨P, env, z, hs, hf, q⟩ => by
  unfold metKF at hf
  obtain ⟨y, ey, h1⟩ := Option.bind_eq_some_iff.mp hf
  split at h1
  case h_2 => cases h1
  split at h1
  case isFalse => cases h1
  rename_i hc
  obtain ⟨rfl, hn⟩ := hc
  obtain ⟨xs, ex, h2⟩ := Option.bind_eq_some_iff.mp h1
  split at h2
  case isFalse => cases h2
  rename_i l
  refine ⟨P, env, _, hs, ey, fun v H1 s1 r1 => ?_⟩
  have r1' := r1
  cases r1 with
  | @ins a dx _ fs _ n hh r =>
    refine ⟨a, dx, fs, rfl, hh, look_none hn, P, env, xs, hs.same s1, ex, fun vs H2 s2 r2 => ⟨by rw [Res.length r2]; exact l, ?_⟩⟩
    exact ⟨P, _, z, (hs.hid.same s1).same s2, .cons (r1'.same s2) (Res.reverse r2), h2, fun v H3 s3 r3 => q v H3 (s1.trans (s2.trans s3)) r3⟩
end
section
variable {P : Program} {w : World} {K : PySem.W.Frag} {mg : Str → Option Value} {base : Heap} {cm : Cm}
/-- a method of the text -/
structure DdM (K : PySem.W.Frag) (cm : Cm) (c : Nat) (m qual : Str) (st : Stmt) (ps : List Str) (f : Addr) (fd : FuncData) : Prop where
  fn : Fun K m qual st f fd
  cl : Cls K (cm.cls c)
  me : Meth K (cm.cls c) m f
  bd : Binds K fd ps []
theorem okM {c : Nat} {m qual : Str} {st : Stmt} {f : Addr} {fd : FuncData} {N ps : List Str} {k : Nat} (ow : List Nat) {g : En → Option Out} (D : DdM K cm c m qual st ps f fd) (S : FnScope N ps (defScope st)) (ho : ∀ i ∈ ow, ps.length ≤ i)
    (hbody : ∀ (cdv : Value) (A : Around) (outer : List Env) (s : Shared) (H : Hp) (E : XK), Room k (A.deeper (envOfC qual (defScope st) s.heap.objs.size f cdv)) → (A.deeper (envOfC qual (defScope st) s.heap.objs.size f cdv)).units + 64 < cLine → SVs (cxOf CX0 P w K mg base N qual (defScope st) f cdv A outer s H E).nox cm ow (defBody st) g) :
    Dm P w K mg base cm c m (k + 1) ps (runV N.length ps.length g) f fd :=
  ⟨okV ow D.fn S ho fun cdv A outer s H E hr => hbody cdv A outer s H E hr (by have := hr.un; omega), D.cl, D.me, D.bd⟩
end
/-! is True, of truths -/
def isTV (neg : Bool) : Val → Val → Option Val
  | .bl a, .bl b => some (.bl (neg != decide (a = b)))
  | _, _ => none
theorem ov_isTB {cm : Cm} : OpV cm (fun x y H Q => ∃ a b, x = .bl a ∧ y = .bl b ∧ Q (.bl (decide (a = b))) H) (isTV false) := fun P x y z v u H Q e rx ry q => by
  unfold isTV at e
  split at e
  case h_2 => cases e
  rename_i a b
  cases e
  cases rx.bl_
  cases ry.bl_
  refine ⟨a, b, rfl, rfl, ?_⟩
  have k := q (.bl (false != decide (a = b))) H (Same.refl H) (.bl _)
  rwa [Bool.false_bne] at k
theorem ov_isnotTB {cm : Cm} : OpV cm (fun x y H Q => ∃ a b, x = .bl a ∧ y = .bl b ∧ Q (.bl (!decide (a = b))) H) (isTV true) := fun P x y z v u H Q e rx ry q => by
  unfold isTV at e
  split at e
  case h_2 => cases e
  rename_i a b
  cases e
  cases rx.bl_
  cases ry.bl_
  refine ⟨a, b, rfl, rfl, ?_⟩
  have k := q (.bl (true != decide (a = b))) H (Same.refl H) (.bl _)
  rwa [Bool.true_bne] at k
end Up

namespace Up
open PySem PySem.Spec PyProof.Rows L2
/-! ### talks as values -/
def dgV (g : Dg) : Val := .tup [.str g.word, .int (g.l : Int)]
def rowV (gs : List Dg) : Val := .tup (gs.map dgV)
def rowsV (gss : List (List Dg)) : Val := .tup (gss.map rowV)
def placeV (t : Pl) : Val := .tup [.int (t.2.1 : Int), .int (t.2.2 : Int)]
def ckV (Ck : Dg → List Int) (t : Pl) : Val := .tup ((Ck t.1).map .int)
def handsV (many : Nat) (S : Nat → Nat) : Val := .tup (((List.range many).map fun l => ((S l : Nat) : Int)).map .int)
def keysV (gss : List (List Dg)) : List (List Key) := (plAll 0 gss).map fun t => t.1.key
def talkV (gss : List (List Dg)) (many : Nat) (S G : Nat → Nat) (Ck : Dg → List Int) : Val :=
  .ins 0 ["rows", "places", "many", "senders", "getters", "clocks"] [rowsV gss, .dct (keysV gss) ((plAll 0 gss).map placeV), .int (many : Int), handsV many S, handsV many G, .dct (keysV gss) ((plAll 0 gss).map (ckV Ck))]
section
variable {cm : Cm} {P : Addr → Prop} {H : Hp}
theorem ints_re : ∀ ns : List Int, Res cm P H (iL ns) (ns.map .int)
  | [] => .nil
  | n :: ns => .cons (.int n) (ints_re ns)
theorem rows_re (hd : Hid P H) {r : Addr} {gss : List (List Dg)} (h : RowsD H r gss) : Re cm P H (.ref r) (rowsV gss) := by
  obtain ⟨ts, h1, h2, h3⟩ := h.ex
  refine .tup (hd.tup h1) h1 (Res.of (by rw [List.length_map, List.length_map]; exact h2) fun i v x e1 e2 => ?_)
  obtain ⟨t, et, rfl⟩ := map_get e1
  rw [List.getElem?_map] at e2
  obtain ⟨gs, eg, rfl⟩ := Option.map_eq_some_iff.mp e2
  obtain ⟨qs, k1, k2, k3⟩ := h3 i t gs et eg
  refine .tup (hd.tup k1) k1 (Res.of (by rw [List.length_map, List.length_map]; exact k2) fun j v x e3 e4 => ?_)
  obtain ⟨q, eq, rfl⟩ := map_get e3
  rw [List.getElem?_map] at e4
  obtain ⟨g, eg2, rfl⟩ := Option.map_eq_some_iff.mp e4
  have hq := k3 j q g eq eg2
  exact .tup (hd.tup hq) hq (.cons (.str _) (.cons (.int _) .nil))
theorem keys_nd {gss : List (List Dg)} (o : Once gss) : (keysV gss).Nodup := by
  unfold keysV
  have e : ((plAll 0 gss).map fun t => t.1.key) = ((plAll 0 gss).map (·.1)).map Dg.key := by
    rw [List.map_map]
    rfl
  rw [e]
  exact List.Pairwise.map _ (fun a b c z => c (Dg.key_inj z)) o
theorem places_re (hd : Hid P H) {p : Addr} {kvs : List (List Key × V)} {gss : List (List Dg)} (o : Once gss) (nP : ¬ P p) (hp : H p = some (.dT kvs)) (d : DictP H kvs (plAll 0 gss)) : Re cm P H (.ref p) (.dct (keysV gss) ((plAll 0 gss).map placeV)) := by
  have ks : kvs.map (·.1) = keysV gss := d.ks
  have nd := keys_nd o
  refine .dct (vs := kvs.map (·.2)) nP hp (by rw [← ks, List.length_map]) (by rw [← ks, List.length_map, List.length_map]) (fun i k v e1 e2 => ?_) (fun k hk => ?_) (Res.of (by rw [List.length_map, List.length_map]; exact d.len) fun i v x e1 e2 => ?_)
  · rw [List.getElem?_map] at e2
    obtain ⟨⟨k', v'⟩, e3, rfl⟩ := Option.map_eq_some_iff.mp e2
    have e4 : (kvs.map (·.1))[i]? = some k' := by rw [List.getElem?_map, e3]; rfl
    rw [ks, e1] at e4
    cases e4
    exact val_some (by rw [ks]; exact nd) e3
  · exact val_none (by rw [ks]; exact hk)
  · rw [List.getElem?_map] at e1 e2
    obtain ⟨⟨k', v'⟩, e3, rfl⟩ := Option.map_eq_some_iff.mp e1
    obtain ⟨⟨g, h, n⟩, e4, rfl⟩ := Option.map_eq_some_iff.mp e2
    obtain ⟨q, e5, hq⟩ := d.vs i g h n e4
    rw [e3] at e5
    cases e5
    exact .tup (hd.tup hq) hq (.cons (.int _) (.cons (.int _) .nil))
theorem clocks_re (hd : Hid P H) {c : Addr} {ckv : List (List Key × V)} {dn : List Dg} {Ck : Dg → List Int} {gss : List (List Dg)} (o : Once gss) (nP : ¬ P c) (hc : H c = some (.dT ckv)) (d : DictC Ck H ckv dn) (nd : dn.Nodup) (hdn : ∀ g, g ∈ dn ↔ g ∈ (plAll 0 gss).map (·.1)) :
    Re cm P H (.ref c) (.dct (keysV gss) ((plAll 0 gss).map (ckV Ck))) := by
  have pick : ∀ l : List Pl, (∀ t ∈ l, t.1 ∈ dn) → ∃ vs : List V, vs.length = l.length ∧ (∀ (i : Nat) (t : Pl) (v : V), l[i]? = some t → vs[i]? = some v → valV ckv t.1.key = some v) ∧ Res cm P H vs (l.map (ckV Ck)) := by
    intro l
    induction l with
    | nil => exact fun _ => ⟨[], rfl, (fun i t v e => by simp at e), .nil⟩
    | cons t l ih =>
      intro h
      obtain ⟨vs, h1, h2, h3⟩ := ih fun u hu => h u (List.mem_cons_of_mem _ hu)
      obtain ⟨q, e1, hq⟩ := d.get nd (h t (List.mem_cons_self ..))
      refine ⟨.ref q :: vs, by rw [List.length_cons, List.length_cons, h1], fun i u v e2 e3 => ?_, .cons (.tup (hd.tup hq) hq (ints_re _)) h3⟩
      cases i with
      | zero =>
        cases e2
        cases e3
        exact e1
      | succ i => exact h2 i u v (by simpa using e2) (by simpa using e3)
  obtain ⟨vs, h1, h2, h3⟩ := pick (plAll 0 gss) fun t ht => (hdn _).mpr (List.mem_map_of_mem (f := (·.1)) ht)
  have lk : (keysV gss).length = (plAll 0 gss).length := by
    unfold keysV
    rw [List.length_map]
  have e1 : ((plAll 0 gss).map (·.1)).length = (plAll 0 gss).length := List.length_map ..
  refine .dct (vs := vs) nP hc (by rw [d.len, lk, ← e1]; exact Nat.le_antisymm (nd_len nd fun g hg => (hdn g).mp hg) (nd_len o fun g hg => (hdn g).mpr hg)) (by rw [h1, lk]) (fun i k v e2 e3 => ?_) (fun k hk => ?_) h3
  · unfold keysV at e2
    rw [List.getElem?_map] at e2
    obtain ⟨t, e4, rfl⟩ := Option.map_eq_some_iff.mp e2
    exact h2 i t v e4 e3
  · refine val_none fun c => ?_
    rw [d.ks] at c
    obtain ⟨g, hg, e⟩ := List.mem_map.mp c
    obtain ⟨t, ht, rfl⟩ := List.mem_map.mp ((hdn g).mp hg)
    exact hk (List.mem_map.mpr ⟨t, ht, e⟩)
theorem talk_re {H0 : Hp} {x C : Addr} {gss : List (List Dg)} {many : Nat} {S G : Nat → Nat} {Ck : Dg → List Int} (hC : cm.cls 0 = C) (hd : Hid P H) (nx : ¬ P x) (hP : ∀ a, P a → H0 a ≠ none) (o : Once gss) (t : TalkAt H x C gss many S G Ck) (nw : TalkNw H0 H x C) :
    Re cm P H (.ref x) (talkV gss many S G Ck) := by
  obtain ⟨dx, r, p, s, g, c, kvs, ckv, dn, h1, h2, h3, h4, h5, h6, h7, h8, h9, h10⟩ := t.ex
  obtain ⟨dx', r', p', many', s', g', c', k1, k2, k3⟩ := nw
  rw [h1] at k1
  have e := Option.some.inj k1
  have e2 : tf r p many s g c = tf r' p' many' s' g' c' := by
    injection e
  unfold tf at e2
  simp only [List.cons.injEq, Prod.mk.injEq, V.ref.injEq, and_true, true_and] at e2
  obtain ⟨_, ep, _, _, _, ec⟩ := e2
  subst ep ec
  subst hC
  exact .ins (fs := tf r p many s g c) nx h1 (.cons (rows_re hd h2) (.cons (places_re hd o (fun z => hP _ z k2) h3 h4) (.cons (.int _) (.cons (.tup (hd.tup h5) h5 (ints_re _)) (.cons (.tup (hd.tup h6) h6 (ints_re _)) (.cons (clocks_re hd o (fun z => hP _ z k3) h7 h8 h9 h10) .nil))))))
/-! rows read from values -/
def dgOf : Val → Option Dg
  | .tup [.str w, .int l] => if 0 ≤ l then (if w = ("send" : Str) then some ⟨true, l.toNat⟩ else if w = ("get" : Str) then some ⟨false, l.toNat⟩ else none) else none
  | _ => none
def allO {α : Type} (f : Val → Option α) : List Val → Option (List α)
  | [] => some []
  | x :: xs => (f x).bind fun a => (allO f xs).bind fun as => some (a :: as)
theorem allO_get {α : Type} {f : Val → Option α} : ∀ {xs : List Val} {as : List α}, allO f xs = some as → xs.length = as.length ∧ ∀ (i : Nat) x a, xs[i]? = some x → as[i]? = some a → f x = some a
  | [], as, e => by
    cases e
    exact ⟨rfl, fun i x a e => by simp at e⟩
  | x :: xs, as, e => by
    unfold allO at e
    obtain ⟨a, e1, e⟩ := Option.bind_eq_some_iff.mp e
    obtain ⟨as', e2, e⟩ := Option.bind_eq_some_iff.mp e
    cases e
    obtain ⟨h1, h2⟩ := allO_get e2
    refine ⟨by rw [List.length_cons, List.length_cons, h1], fun i y b e3 e4 => ?_⟩
    cases i with
    | zero =>
      cases e3
      cases e4
      exact e1
    | succ i => exact h2 i y b (by simpa using e3) (by simpa using e4)
theorem dgOf_re {v : V} {x : Val} {g : Dg} (r : Re cm P H v x) (e : dgOf x = some g) : ∃ q, v = .ref q ∧ H q = some (.tup g.vs) := by
  unfold dgOf at e
  split at e
  · rename_i w l
    obtain ⟨q, vs, rfl, n, hh, rs⟩ := r.tup_
    obtain ⟨v1, v2, rfl, r1, r2⟩ := Res.two rs
    cases r1.str_
    cases r2.int_
    refine ⟨q, rfl, ?_⟩
    rw [hh]
    split at e
    · rename_i hl
      have el : ((l.toNat : Nat) : Int) = l := Int.toNat_of_nonneg hl
      split at e
      · rename_i hw
        cases e
        subst hw
        show _ = some (HO.tup [.str "send", .int ((l.toNat : Nat) : Int)])
        rw [el]
      · split at e
        · rename_i hw
          cases e
          subst hw
          show _ = some (HO.tup [.str "get", .int ((l.toNat : Nat) : Int)])
          rw [el]
        · cases e
    · cases e
  · cases e
theorem items_h {v : V} {x : Val} {xs : List Val} (h : Re cm P H v x) (e : itemsOf x = some xs) : ∃ p vs, v = .ref p ∧ (H p = some (.lst vs) ∨ H p = some (.tup vs)) ∧ Res cm P H vs xs := by
  cases h <;> cases e
  · exact ⟨_, _, rfl, .inl (by assumption), by assumption⟩
  · exact ⟨_, _, rfl, .inr (by assumption), by assumption⟩
def rowOf (x : Val) : Option (List Dg) := (itemsOf x).bind (allO dgOf)
def rowsOf (x : Val) : Option (List (List Dg)) := (itemsOf x).bind (allO rowOf)
def tupOf : Val → Option (List Val)
  | .tup xs => some xs
  | _ => none
def rowT (x : Val) : Option (List Dg) := (tupOf x).bind (allO dgOf)
def rowsT (x : Val) : Option (List (List Dg)) := (tupOf x).bind (allO rowT)
/-- addresses of what are refs -/
theorem refs_of : ∀ {vs : List V}, (∀ (i : Nat) v, vs[i]? = some v → ∃ a, v = .ref a) → ∃ as : List Addr, vs = as.map V.ref
  | [], _ => ⟨[], rfl⟩
  | v :: vs, h => by
    obtain ⟨a, rfl⟩ := h 0 v rfl
    obtain ⟨as, rfl⟩ := refs_of fun i v e => h (i + 1) v (by simpa using e)
    exact ⟨a :: as, rfl⟩
theorem dgs_of {vs : List V} {xs : List Val} {gs : List Dg} (r : Res cm P H vs xs) (e : allO dgOf xs = some gs) : ∃ qs : List Addr, vs = qs.map V.ref ∧ qs.length = gs.length ∧ ∀ (j : Nat) (q : Addr) (g : Dg), qs[j]? = some q → gs[j]? = some g → H q = some (.tup g.vs) := by
  obtain ⟨l, get⟩ := allO_get e
  have one : ∀ (i : Nat) v, vs[i]? = some v → ∃ a g, v = .ref a ∧ gs[i]? = some g ∧ H a = some (.tup g.vs) := fun i v ev => by
    obtain ⟨x, ex, rx⟩ := Res.getV r ev
    have lt := (List.getElem?_eq_some_iff.mp ex).1
    obtain ⟨g, eg⟩ : ∃ g, gs[i]? = some g := ⟨_, List.getElem?_eq_getElem (by omega)⟩
    obtain ⟨q, rfl, hq⟩ := dgOf_re rx (get i x g ex eg)
    exact ⟨q, g, rfl, eg, hq⟩
  obtain ⟨qs, rfl⟩ := refs_of fun i v ev => let ⟨a, g, h, _⟩ := one i v ev; ⟨a, h⟩
  refine ⟨qs, rfl, by rw [← l, ← Res.length r, List.length_map], fun j q g e1 e2 => ?_⟩
  obtain ⟨a, g', ha, eg, hq⟩ := one j (.ref q) (by rw [List.getElem?_map, e1]; rfl)
  cases ha
  rw [e2] at eg
  cases eg
  exact hq
theorem rowsG_of {v : V} {x : Val} {gss : List (List Dg)} (r : Re cm P H v x) (e : rowsOf x = some gss) : ∃ a, v = .ref a ∧ RowsG H a gss := by
  unfold rowsOf at e
  obtain ⟨xs, e1, e⟩ := Option.bind_eq_some_iff.mp e
  obtain ⟨p, vs, rfl, hp, rs⟩ := items_h r e1
  obtain ⟨l, get⟩ := allO_get e
  have one : ∀ (i : Nat) v, vs[i]? = some v → ∃ a gs, v = .ref a ∧ gss[i]? = some gs ∧ ∃ qs : List Addr, (H a = some (.lst (qs.map V.ref)) ∨ H a = some (.tup (qs.map V.ref))) ∧ qs.length = gs.length ∧ ∀ (j : Nat) (q : Addr) (g : Dg), qs[j]? = some q → gs[j]? = some g → H q = some (.tup g.vs) := fun i v ev => by
    obtain ⟨y, ey, ry⟩ := Res.getV rs ev
    have lt := (List.getElem?_eq_some_iff.mp ey).1
    obtain ⟨gs, eg⟩ : ∃ gs, gss[i]? = some gs := ⟨_, List.getElem?_eq_getElem (by omega)⟩
    have e2 := get i y gs ey eg
    unfold rowOf at e2
    obtain ⟨ys, e3, e4⟩ := Option.bind_eq_some_iff.mp e2
    obtain ⟨a, us, rfl, ha, ru⟩ := items_h ry e3
    obtain ⟨qs, rfl, k1, k2⟩ := dgs_of ru e4
    exact ⟨a, gs, rfl, eg, qs, ha, k1, k2⟩
  obtain ⟨ts, rfl⟩ := refs_of fun i v ev => let ⟨a, g, h, _⟩ := one i v ev; ⟨a, h⟩
  refine ⟨p, rfl, ts, hp, by rw [← l, ← Res.length rs, List.length_map], fun i t gs e5 e6 => ?_⟩
  obtain ⟨a, gs', ha, eg, qs, k0, k1, k2⟩ := one i (.ref t) (by rw [List.getElem?_map, e5]; rfl)
  cases ha
  rw [e6] at eg
  cases eg
  exact ⟨qs, k0, k1, k2⟩
theorem rowsD_of {v : V} {x : Val} {gss : List (List Dg)} (r : Re cm P H v x) (e : rowsT x = some gss) : ∃ a, v = .ref a ∧ RowsD H a gss := by
  unfold rowsT at e
  obtain ⟨xs, e1, e⟩ := Option.bind_eq_some_iff.mp e
  have ex : x = .tup xs := by
    cases x <;> cases e1
    rfl
  subst ex
  obtain ⟨p, vs, rfl, _, hp, rs⟩ := r.tup_
  obtain ⟨l, get⟩ := allO_get e
  have one : ∀ (i : Nat) v, vs[i]? = some v → ∃ a gs, v = .ref a ∧ gss[i]? = some gs ∧ ∃ qs : List Addr, H a = some (.tup (qs.map V.ref)) ∧ qs.length = gs.length ∧ ∀ (j : Nat) (q : Addr) (g : Dg), qs[j]? = some q → gs[j]? = some g → H q = some (.tup g.vs) := fun i v ev => by
    obtain ⟨y, ey, ry⟩ := Res.getV rs ev
    have lt := (List.getElem?_eq_some_iff.mp ey).1
    obtain ⟨gs, eg⟩ : ∃ gs, gss[i]? = some gs := ⟨_, List.getElem?_eq_getElem (by omega)⟩
    have e2 := get i y gs ey eg
    unfold rowT at e2
    obtain ⟨ys, e3, e4⟩ := Option.bind_eq_some_iff.mp e2
    have ey2 : y = .tup ys := by
      cases y <;> cases e3
      rfl
    subst ey2
    obtain ⟨a, us, rfl, _, ha, ru⟩ := ry.tup_
    obtain ⟨qs, rfl, k1, k2⟩ := dgs_of ru e4
    exact ⟨a, gs, rfl, eg, qs, ha, k1, k2⟩
  obtain ⟨ts, rfl⟩ := refs_of fun i v ev => let ⟨a, g, h, _⟩ := one i v ev; ⟨a, h⟩
  refine ⟨p, rfl, ts, hp, by rw [← l, ← Res.length rs, List.length_map], fun i t gs e5 e6 => ?_⟩
  obtain ⟨a, gs', ha, eg, qs, k0, k1, k2⟩ := one i (.ref t) (by rw [List.getElem?_map, e5]; rfl)
  cases ha
  rw [e6] at eg
  cases eg
  exact ⟨qs, k0, k1, k2⟩
end
/-! ### making talks, comparing them -/
/-- a function that tells talks of rows -/
def MkOk (F : List Val → Option Val) : Prop := ∀ xs z, F xs = some z → ∃ (rows : Val) (gss : List (List Dg)) (many : Nat) (S G : Nat → Nat) (Ck : Dg → List Int), xs = [rows] ∧ rowsOf rows = some gss ∧ Valid gss many S G Ck ∧ z = talkV gss many S G Ck
theorem _root_.L2.FnOk.any {P : Program} {w : World} {K : PySem.W.Frag} {mg : Str → Option Value} {base : Heap} {CX : CXT} {k : Nat} {f : Addr} {fd : FuncData} {ps : List Str} {α : Type} {sp : α → Sp} (F : ∀ a, FnOk P w K mg base CX k f fd ps (sp a)) : FnOk P w K mg base CX k f fd ps (fun vs H Q E => ∃ a, sp a vs H Q E) :=
  ⟨fun vs H Q E ⟨a, h⟩ => (F a).len vs H Q E h, fun A outer s H args us vs Q E hr he hb hv ⟨a, h⟩ => (F a).run A outer s H args us vs Q E hr he hb hv h⟩
section
variable {X : Cx} {cm : Cm} {e : Expr} {es : List Expr} {f g h : En → Option Val} {p pos : Pos} {kws : List Keyword} {C fI : Addr} {fd : FuncData} {x : Str}
theorem make_core {P : Addr → Prop} {H H1 : Hp} {F : List Val → Option Val} {xs : List Val} {z : Val} {Q : VK} {E : XK} {vs : List V} (hC : cm.cls 0 = C) (mk : MkOk F) (hd : Hid P H1) (s1 : Same H H1) (r : Res cm P H1 vs xs) (ez : F xs = some z) (q : ∀ v' H', Same H H' → Re cm P H' v' z → Q v' H') (y dx : Addr) (ny : H1 y = none) (ndx : H1 dx = none) (ne : dx ≠ y) :
    ∃ Ck, spTInit C Sl0 Ck (.ref y :: vs) (upd (upd H1 dx (.own y)) y (.ins C dx [])) (fun v H2 => v = .non ∧ Q (.ref y) H2) E := by
  obtain ⟨rows, gss, many, S, G, Ck, rfl, er, hV, rfl⟩ := mk xs z ez
  obtain ⟨v, rfl, r1⟩ := Res.one r
  obtain ⟨a, rfl, hG⟩ := rowsG_of r1 er
  have s2 : Same H1 (upd (upd H1 dx (.own y)) y (.ins C dx [])) := fun b o eb => by
    rw [upd_ne (ne_of_none eb ny), upd_ne (ne_of_none eb ndx)]
    exact eb
  refine ⟨Ck, y, dx, a, gss, many, S, G, rfl, upd_same, True.intro, hG.same s2, hV, fun H2 k t nw => ⟨rfl, ?_⟩⟩
  have s3 : Same H1 H2 := fun b o eb => k b o (s2 b o eb) (ne_of_none eb ny)
  exact q _ H2 (s1.trans s3) (talk_re hC (hd.same s3) (hd.new ny) (fun b pb => ((hd b pb).same s2).ne) hV.once t nw)
theorem ve_make {F : List Val → Option Val} {t : En → Option (List Val)} (hC : cm.cls 0 = C) (mk : MkOk F) (M : Mk X.K C fI) (GT : ∀ Ck, FnOk X.prog X.w X.K X.mg X.base CX0 5 fI fd ["self", "rows"] (spTInit C Sl0 Ck)) (bT : Binds X.K fd ["self", "rows"] []) (hr : Room (5 + 1) X.A) (hg : Gl X x) (hm : X.mg x = some (.ref C)) (ha : VA X cm (e :: es) t)
    (hdb : (x == ("__debug__" : Str)) = false := by decide) (he : starEach (e :: es) X.env = (false, eval e X.env) :: starEach es X.env := by rfl) (hpl : (backTo pos (starEach es X.env)).any (·.1) = false := by rfl) :
    VE X cm (.Call (.Name x p) (e :: es) [] pos) (appF F t) := (pe_make M (FnOk.any GT) hr hg hm bT .nil pass0 ha hdb he hpl).weak fun σ H Q ⟨P, env, z, hs, hf, q⟩ => by
  obtain ⟨xs, ex, hf⟩ := Option.bind_eq_some_iff.mp hf
  refine ⟨P, env, xs, hs, ex, fun vs H1 s1 r1 y dx ny ndx ne => ?_⟩
  rw [List.append_nil]
  exact make_core hC mk (hs.hid.same s1) s1 r1 hf q y dx ny ndx ne
theorem ve_makeK {F : List Val → Option Val} {t : En → Option (List Val)} (hC : cm.cls 0 = C) (mk : MkOk F) (M : Mk X.K C fI) (GT : ∀ Ck, FnOk X.prog X.w X.K X.mg X.base CX0 5 fI fd ["self", "rows"] (spTInit C Sl0 Ck)) (bT : KBn X.K fd ["self", "rows"] 1 [("rows" : Str)] (fun us ws => us ++ ws.reverse) (fun us ws => us ++ ws.reverse)) (hr : Room (5 + 1) X.A) (hg : Gl X x) (hm : X.mg x = some (.ref C)) (hkw : VK_ X cm kws t)
    (hall : (backToKw pos (keywordEach kws X.env)).all (·.1.isSome) = true := by rfl) (hks : (backToKw pos (keywordEach kws X.env)).filterMap (·.1) = [("rows" : Str)] := by rfl) (hdb : (x == ("__debug__" : Str)) = false := by decide)
    (hpl : ((backTo pos (starEach [] X.env)).any (·.1) || (backToKw pos (keywordEach kws X.env)).any (·.1.isNone)) = false := by rfl) :
    VE X cm (.Call (.Name x p) [] kws pos) (revF F 1 t) := (pe_makeK0 M (FnOk.any GT) hr hg hm bT pass0 hkw hall hks hdb hpl).weak fun σ H Q ⟨P, env, z, hs, hf, q⟩ => by
  unfold revF at hf
  obtain ⟨xs, ex, h1⟩ := Option.bind_eq_some_iff.mp hf
  split at h1
  case isFalse => cases h1
  rename_i l
  refine ⟨P, env, xs, hs, ex, fun vs H1 s1 r1 => ⟨rfl, by rw [Res.length r1]; exact l, fun y dx ny ndx ne => ?_⟩⟩
  exact make_core hC mk (hs.hid.same s1) s1 (Res.reverse r1) h1 q y dx ny ndx ne
def rowsFld : Val → Option (List (List Dg))
  | .ins 0 ns xs => (lookF "rows" ns xs).bind rowsT
  | _ => none
theorem rowsOf_re {P : Addr → Prop} {H : Hp} {v : V} {y : Val} {gss : List (List Dg)} (r : Re cm P H v y) (e : rowsFld y = some gss) : ∃ a dx fs, v = .ref a ∧ H a = some (.ins (cm.cls 0) dx fs) ∧ RowsOf H a (cm.cls 0) gss := by
  unfold rowsFld at e
  split at e
  case h_2 => cases e
  obtain ⟨z, e1, e2⟩ := Option.bind_eq_some_iff.mp e
  cases r with
  | @ins a dx _ fs _ n hh rs =>
    obtain ⟨v, k1, k2⟩ := lookF_re rs e1
    obtain ⟨b, rfl, hb⟩ := rowsD_of k2 e2
    exact ⟨a, dx, fs, rfl, hh, dx, b, fs, hh, k1, hb⟩
def neT (x y : Val) : Option Val := (rowsFld x).bind fun a => (rowsFld y).bind fun b => some (.bl (!decide (a = b)))
theorem ov_neT {K : PySem.W.Frag} {E : XK} (hC : cm.cls 0 = C) : OpV cm (rNeO C (spTEq K C) E) neT := fun P x y z v u H Q e rx ry q => by
  subst hC
  unfold neT at e
  obtain ⟨a, ea, h1⟩ := Option.bind_eq_some_iff.mp e
  obtain ⟨b, eb, h2⟩ := Option.bind_eq_some_iff.mp h1
  cases h2
  obtain ⟨p1, d1, f1, rfl, k1, R1⟩ := rowsOf_re rx ea
  obtain ⟨p2, d2, f2, rfl, k2, R2⟩ := rowsOf_re ry eb
  exact ⟨p1, d1, p2, d2, f1, f2, rfl, rfl, k1, k2, p1, _, a, rfl, R1, .inr ⟨p2, b, rfl, R2, _, rfl, q _ H (Same.refl H) (.bl _)⟩⟩
end
end Up

namespace Up
open PySem PySem.Spec PyProof.Rows L2
/-! ### talks of given rows, computed -/
def allB {α : Type} (f : α → Bool) : List α → Bool
  | [] => true
  | x :: xs => f x && allB f xs
theorem allB_mem {α : Type} {f : α → Bool} : ∀ {l : List α}, allB f l = true → ∀ x ∈ l, f x = true
  | y :: l, h, x, hx => by
    unfold allB at h
    rw [Bool.and_eq_true] at h
    rcases List.mem_cons.mp hx with c | c
    · rw [c]; exact h.1
    · exact allB_mem h.2 x c
def upto : Nat → List Nat
  | 0 => []
  | n + 1 => n :: upto n
theorem upto_mem : ∀ {n k : Nat}, k < n → k ∈ upto n
  | n + 1, k, h => by
    unfold upto
    by_cases c : k = n
    · rw [c]; exact List.mem_cons_self ..
    · exact List.mem_cons_of_mem _ (upto_mem (by omega))
def dgEq (a b : Dg) : Bool := a.s == b.s && a.l == b.l
theorem dgEq_iff {a b : Dg} : dgEq a b = true ↔ a = b := by
  unfold dgEq
  cases a
  cases b
  simp
def tabGet : List (Dg × List Int) → Dg → Option (List Int)
  | [], _ => none
  | (k, c) :: t, g => if dgEq k g = true then some c else tabGet t g
def ckOf (tab : List (Dg × List Int)) (hands : Nat) (g : Dg) : List Int := (tabGet tab g).getD (List.replicate hands 0)
def handOf : List Pl → Dg → Option Nat
  | [], _ => none
  | (k, h, _) :: t, g => if dgEq k g = true then some h else handOf t g
theorem handOf_mem {g : Dg} {h : Nat} : ∀ {l : List Pl}, handOf l g = some h → ∃ n, (g, h, n) ∈ l
  | (k, h', n) :: t, e => by
    unfold handOf at e
    by_cases c : dgEq k g = true
    · rw [if_pos c] at e
      cases e
      rw [dgEq_iff] at c
      subst c
      exact ⟨n, List.mem_cons_self ..⟩
    · rw [if_neg c] at e
      obtain ⟨n, hn⟩ := handOf_mem e
      exact ⟨n, List.mem_cons_of_mem _ hn⟩
def ckRow (h : Nat) : List Dg → Nat → List Int → List (Dg × List Int) → List (Dg × List Int)
  | [], _, _, tab => tab
  | g :: gs, n, cs, tab => if g.s then
      let c := cs.set h ((n : Int) + 1)
      ckRow h gs (n + 1) c ((g, c) :: tab)
    else match tabGet tab ⟨true, g.l⟩ with
      | none => tab
      | some sent =>
        let c := (List.zipWith mx cs sent).set h ((n : Int) + 1)
        ckRow h gs (n + 1) c ((g, c) :: tab)
def ckRows (hands : Nat) : Nat → List (List Dg) → List (Dg × List Int) → List (Dg × List Int)
  | _, [], tab => tab
  | h, gs :: r, tab => ckRows hands (h + 1) r (ckRow h gs 0 (List.replicate hands 0) tab)
def ckTab (gss : List (List Dg)) : Nat → List (Dg × List Int) → List (Dg × List Int)
  | 0, tab => tab
  | n + 1, tab => ckTab gss n (ckRows gss.length 0 gss tab)
def sumI : List Int → Int
  | [] => 0
  | x :: xs => x + sumI xs
def manyOf : List Pl → Nat
  | [] => 0
  | t :: l => max (t.1.l + 1) (manyOf l)
def memDg : List Pl → Dg → Bool
  | [], _ => false
  | t :: l, g => dgEq t.1 g || memDg l g
theorem memDg_no {g : Dg} : ∀ {l : List Pl}, memDg l g = false → g ∉ l.map (·.1)
  | [], _, h => by cases h
  | t :: l, e, h => by
    unfold memDg at e
    rw [Bool.or_eq_false_iff] at e
    rcases List.mem_cons.mp h with c | c
    · rw [c, dgEq_iff.mpr rfl] at e
      cases e.1
    · exact memDg_no e.2 c
def onceB : List Pl → Bool
  | [] => true
  | t :: l => !(memDg l t.1) && onceB l
theorem onceB_nd : ∀ {l : List Pl}, onceB l = true → (l.map (·.1)).Nodup
  | [], _ => List.nodup_nil
  | t :: l, h => by
    unfold onceB at h
    rw [Bool.and_eq_true, Bool.not_eq_true'] at h
    exact List.nodup_cons.mpr ⟨memDg_no h.1, onceB_nd h.2⟩
def rowB (hands : Nat) (Ck : Dg → List Int) (h : Nat) (gs : List Dg) : Nat → List Dg → Bool
  | _, [] => true
  | n, g :: r => decide (Ck g = (if g.s then prevC hands Ck gs n else List.zipWith mx (prevC hands Ck gs n) (Ck ⟨true, g.l⟩)).set h ((n : Int) + 1)) && rowB hands Ck h gs (n + 1) r
theorem rowB_ok {hands : Nat} {Ck : Dg → List Int} {h : Nat} {gs : List Dg} : ∀ {r : List Dg} {n : Nat}, rowB hands Ck h gs n r = true → ∀ (k : Nat) (g : Dg), r[k]? = some g → Ck g = (if g.s then prevC hands Ck gs (n + k) else List.zipWith mx (prevC hands Ck gs (n + k)) (Ck ⟨true, g.l⟩)).set h (((n + k : Nat) : Int) + 1)
  | g :: r, n, e, k, g', eg => by
    unfold rowB at e
    rw [Bool.and_eq_true] at e
    cases k with
    | zero =>
      cases eg
      exact of_decide_eq_true e.1
    | succ k =>
      have z := rowB_ok e.2 k g' (by simpa using eg)
      rw [show n + 1 + k = n + (k + 1) by omega] at z
      exact z
def rowsB (hands : Nat) (Ck : Dg → List Int) : Nat → List (List Dg) → Bool
  | _, [] => true
  | h, gs :: r => rowB hands Ck h gs 0 gs && rowsB hands Ck (h + 1) r
theorem rowsB_ok {hands : Nat} {Ck : Dg → List Int} : ∀ {r : List (List Dg)} {h : Nat}, rowsB hands Ck h r = true → ∀ (k : Nat) (gs : List Dg), r[k]? = some gs → RowCk hands Ck (h + k) gs
  | gs :: r, h, e, k, gs', eg => by
    unfold rowsB at e
    rw [Bool.and_eq_true] at e
    cases k with
    | zero =>
      cases eg
      exact fun n g en => by
        have z := rowB_ok e.1 n g en
        rw [Nat.zero_add] at z
        exact z
    | succ k =>
      have z := rowsB_ok e.2 k gs' (by simpa using eg)
      rw [show h + 1 + k = h + (k + 1) by omega] at z
      exact z
def stepB (rk : Dg → Int) : List Dg → Bool
  | g :: g' :: r => decide (0 ≤ rk g ∧ rk g < rk g') && stepB rk (g' :: r)
  | _ => true
theorem stepB_ok {rk : Dg → Int} : ∀ {gs : List Dg}, stepB rk gs = true → ∀ (n : Nat) (g g' : Dg), gs[n]? = some g → gs[n + 1]? = some g' → (rk g).toNat < (rk g').toNat
  | a :: b :: r, e, n, g, g', e1, e2 => by
    unfold stepB at e
    rw [Bool.and_eq_true] at e
    cases n with
    | zero =>
      cases e1
      cases e2
      have k := of_decide_eq_true e.1
      omega
    | succ n => exact stepB_ok e.2 n g g' (by simpa using e1) (by simpa using e2)
  | [a], e, n, g, g', e1, e2 => by
    have := (List.getElem?_eq_some_iff.mp e2).1
    simp at this
def validB (gss : List (List Dg)) (many : Nat) (S G : Nat → Nat) (tab : List (Dg × List Int)) : Bool :=
  let pl := plAll 0 gss
  let Ck := ckOf tab gss.length
  let rk := fun g => sumI (Ck g)
  decide (1 ≤ gss.length) && decide (gss.length ≤ 6) && decide (many ≤ 12) && decide (pl.length ≤ 24) && allB (fun t => decide (t.1.l < many)) pl && onceB pl
    && allB (fun l => handOf pl ⟨true, l⟩ == some (S l) && handOf pl ⟨false, l⟩ == some (G l) && !(S l == G l) && decide (0 ≤ rk ⟨true, l⟩ ∧ rk ⟨true, l⟩ < rk ⟨false, l⟩)) (upto many)
    && rowsB gss.length Ck 0 gss && allB (fun p => p.2.length == gss.length) tab && allB (stepB rk) gss
theorem tabGet_len {hands : Nat} {g : Dg} {c : List Int} : ∀ {tab : List (Dg × List Int)}, allB (fun p => p.2.length == hands) tab = true → tabGet tab g = some c → c.length = hands
  | (k, c') :: t, h, e => by
    unfold allB at h
    rw [Bool.and_eq_true] at h
    unfold tabGet at e
    by_cases d : dgEq k g = true
    · rw [if_pos d] at e
      cases e
      exact of_decide_eq_true (by simpa using h.1)
    · rw [if_neg d] at e
      exact tabGet_len h.2 e
theorem validB_ok {gss : List (List Dg)} {many : Nat} {S G : Nat → Nat} {tab : List (Dg × List Int)} (h : validB gss many S G tab = true) : Valid gss many S G (ckOf tab gss.length) := by
  unfold validB at h
  simp only [Bool.and_eq_true] at h
  obtain ⟨⟨⟨⟨⟨⟨⟨⟨⟨h1, h2⟩, h3⟩, h4⟩, h5⟩, h6⟩, h7⟩, h8⟩, h9⟩, h10⟩ := h
  have hl : ∀ l, l < many → (handOf (plAll 0 gss) ⟨true, l⟩ = some (S l) ∧ handOf (plAll 0 gss) ⟨false, l⟩ = some (G l)) ∧ S l ≠ G l ∧ 0 ≤ sumI (ckOf tab gss.length ⟨true, l⟩) ∧ sumI (ckOf tab gss.length ⟨true, l⟩) < sumI (ckOf tab gss.length ⟨false, l⟩) := fun l k => by
    have z := allB_mem h7 l (upto_mem k)
    simp only [Bool.and_eq_true, beq_iff_eq, Bool.not_eq_true', beq_eq_false_iff_ne, decide_eq_true_eq] at z
    exact ⟨z.1.1, z.1.2, z.2⟩
  refine ⟨of_decide_eq_true h1, of_decide_eq_true h2, fun t ht => of_decide_eq_true (allB_mem h5 t ht), of_decide_eq_true h3, of_decide_eq_true h4, onceB_nd h6, ⟨fun l k => handOf_mem (hl l k).1.1, fun l k => handOf_mem (hl l k).1.2, fun l k => (hl l k).2.1⟩, fun k gs e => ?_, fun g => ?_, fun g => (sumI (ckOf tab gss.length g)).toNat, fun k gs e => ?_, fun l k => ?_⟩
  · have z := rowsB_ok h8 k gs e
    rw [Nat.zero_add] at z
    exact z
  · unfold ckOf
    cases e : tabGet tab g with
    | none => exact List.length_replicate
    | some c => exact tabGet_len h9 e
  · exact stepB_ok (allB_mem h10 gs (List.mem_of_getElem? e))
  · have := (hl l k).2.2
    show (sumI _).toNat < (sumI _).toNat
    omega
def mkT (gss : List (List Dg)) : Option Val :=
  let pl := plAll 0 gss
  let many := manyOf pl
  let S := fun l => (handOf pl ⟨true, l⟩).getD 0
  let G := fun l => (handOf pl ⟨false, l⟩).getD 0
  let tab := ckTab gss (pl.length + 1) []
  if validB gss many S G tab = true then some (talkV gss many S G (ckOf tab gss.length)) else none
def f_Talk : List Val → Option Val
  | [rows] => (rowsOf rows).bind mkT
  | _ => none
theorem mkT_ok : MkOk f_Talk := fun xs z h => by
  unfold f_Talk at h
  split at h
  case h_2 => cases h
  rename_i rows
  obtain ⟨gss, e1, e2⟩ := Option.bind_eq_some_iff.mp h
  unfold mkT at e2
  simp only at e2
  split at e2
  case isFalse => cases e2
  rename_i hv
  cases e2
  exact ⟨rows, gss, _, _, _, _, rfl, e1, validB_ok hv, rfl⟩
/-- what of the text the class Talk has, to be compared -/
structure TalkQ (K : PySem.W.Frag) (C fE : Addr) : Prop extends IsTalk K C where
  hs : PySem.W.findIn K (.ref C) "__eq__" = some (some (.ref fE))
  hf : PySem.W.isFn K (.ref fE) = true
  hne : PySem.W.findIn K (.ref C) "__ne__" = some (some (.builtin "object.__ne__"))
/-- as a law writes rows -/
def tLstV (gss : List (List Dg)) : Val := .lst (gss.map fun gs => .lst (gs.map dgV))
end Up

namespace Up
open PySem PySem.Spec PyProof.Rows L2
/-- names of the text, and its class Talk -/
structure TxtV (K : PySem.W.Frag) (mg : Str → Option Value) (cm : Cm) : Prop extends TxtZ mg where
  min : mg "min" = none
  set : mg "set" = none
  sorted : mg "sorted" = none
  sum : mg "sum" = none
  cl : Cls K (cm.cls 0)
  n_rows : NoAttr K (cm.cls 0) "rows"
  n_places : NoAttr K (cm.cls 0) "places"
  n_many : NoAttr K (cm.cls 0) "many"
  n_senders : NoAttr K (cm.cls 0) "senders"
  n_getters : NoAttr K (cm.cls 0) "getters"
  n_clocks : NoAttr K (cm.cls 0) "clocks"
abbrev st_is_whole : Stmt := (topS 13)
theorem ss_is_whole : FnScope ["value"] ["value"] (defScope st_is_whole) := ⟨rfl, rfl, rfl, by decide +kernel, rfl, by decide +kernel, by decide +kernel⟩
def g_is_whole : En → Option Out := (retG (andF (isiF "int" (getE 0)) (notF (isiF "bool" (getE 0)))))
def f_is_whole : List Val → Option Val := runV 1 1 g_is_whole
theorem df_is_whole {P : Program} {w : World} {K : PySem.W.Frag} {mg : Str → Option Value} {base : Heap} {cm : Cm} {f : Addr} {fd : FuncData} (D : Dd K mg "is_whole" st_is_whole ["value"] f fd) (T : TxtV K mg cm) : Df P w K mg base cm "is_whole" 1 ["value"] f_is_whole f fd :=
  okD [] D ss_is_whole (by decide) fun cdv A outer s H E hr hu => (sv_one (sv_ret (ve_and (ve_isi (T := "int") (by rfl) T.int bt_int (by rfl) T.isinstance bb_isinstance (vv 0)) (ve_one (ve_not (ve_isi (T := "bool") (by rfl) T.bool bt_bool (by rfl) T.isinstance bb_isinstance (vv 0)))))))
abbrev st_is_index : Stmt := (topS 14)
theorem ss_is_index : FnScope ["value", "many"] ["value", "many"] (defScope st_is_index) := ⟨rfl, rfl, rfl, by decide +kernel, rfl, by decide +kernel, by decide +kernel⟩
def g_is_index : En → Option Out := (retG (andF (appF f_is_whole (consF (getE 0) noF)) (chainF (fun i j => decide (i ≤ j)) (fun i j => decide (i < j)) (cst (.int 0)) (getE 0) (getE 1))))
def f_is_index : List Val → Option Val := runV 2 2 g_is_index
theorem df_is_index {P : Program} {w : World} {K : PySem.W.Frag} {mg : Str → Option Value} {base : Heap} {cm : Cm} {f : Addr} {fd : FuncData} (D : Dd K mg "is_index" st_is_index ["value", "many"] f fd) (T : TxtV K mg cm) {fa_is_whole : Addr} {fd_is_whole : FuncData} (d_is_whole : Df P w K mg base cm "is_whole" 1 ["value"] f_is_whole fa_is_whole fd_is_whole) : Df P w K mg base cm "is_index" 2 ["value", "many"] f_is_index f fd :=
  okD [] D ss_is_index (by decide) fun cdv A outer s H E hr hu => (sv_one (sv_ret (ve_and (ve_callD d_is_whole (hr.mono (by decide)) (by rfl) (va_cons (vv 0) va_nil)) (ve_one (ve_chain (p := (fun i j => decide (i ≤ j))) (r := (fun i j => decide (i < j))) op_le op_lt ve_int (vv 0) (vv 1))))))
abbrev st_is_couple : Stmt := (topS 16)
theorem ss_is_couple : FnScope ["value"] ["value"] (defScope st_is_couple) := ⟨rfl, rfl, rfl, by decide +kernel, rfl, by decide +kernel, by decide +kernel⟩
def g_is_couple : En → Option Out := (retG (andF (isiF "tuple" (getE 0)) (bin2 (eqF false) (appF lenF (consF (getE 0) noF)) (cst (.int 2)))))
def f_is_couple : List Val → Option Val := runV 1 1 g_is_couple
theorem df_is_couple {P : Program} {w : World} {K : PySem.W.Frag} {mg : Str → Option Value} {base : Heap} {cm : Cm} {f : Addr} {fd : FuncData} (D : Dd K mg "is_couple" st_is_couple ["value"] f fd) (T : TxtV K mg cm) : Df P w K mg base cm "is_couple" 1 ["value"] f_is_couple f fd :=
  okD [] D ss_is_couple (by decide) fun cdv A outer s H E hr hu => (sv_one (sv_ret (ve_and (ve_isi (T := "tuple") (by rfl) T.tuple bt_tuple (by rfl) T.isinstance bb_isinstance (vv 0)) (ve_one (ve_cmp (op_eqD hu) ov_eq (ve_callB call_len_seq cv_len (by rfl) T.len PySem.boot_len (va_cons (vv 0) va_nil)) ve_int (nomark _))))))
abbrev st_is_doing : Stmt := (topS 17)
theorem ss_is_doing : FnScope ["value", "many", "word", "letter"] ["value", "many"] (defScope st_is_doing) := ⟨rfl, rfl, rfl, by decide +kernel, rfl, by decide +kernel, by decide +kernel⟩
def g_is_doing : En → Option Out := (seqG (ifG (notT (tst (appF f_is_couple (consF (getE 0) noF)))) (retG (cst (.bl false))) nilG) (seqG (asgG (setTup 2 (setCo (setV 2) (setCo (setV 3) setNo))) (stF [] (getE 0))) (retG (andF (isiF "str" (getE 2)) (andF (bin2 (inF false) (getE 2) (tupF (consF (cst (.str "send")) (consF (cst (.str "get")) noF)))) (appF f_is_index (consF (getE 3) (consF (getE 1) noF))))))))
def f_is_doing : List Val → Option Val := runV 4 2 g_is_doing
theorem df_is_doing {P : Program} {w : World} {K : PySem.W.Frag} {mg : Str → Option Value} {base : Heap} {cm : Cm} {f : Addr} {fd : FuncData} (D : Dd K mg "is_doing" st_is_doing ["value", "many"] f fd) (T : TxtV K mg cm) {fa_is_index : Addr} {fd_is_index : FuncData} (d_is_index : Df P w K mg base cm "is_index" 2 ["value", "many"] f_is_index fa_is_index fd_is_index) {fa_is_couple : Addr} {fd_is_couple : FuncData} (d_is_couple : Df P w K mg base cm "is_couple" 1 ["value"] f_is_couple fa_is_couple fd_is_couple) : Df P w K mg base cm "is_doing" 3 ["value", "many"] f_is_doing f fd :=
  okD [] D ss_is_doing (by decide) fun cdv A outer s H E hr hu => (sv_cons (sv_if (vt_not (vt_val (ve_callD d_is_couple (hr.mono (by decide)) (by rfl) (va_cons (vv 0) va_nil)))) (sv_one (sv_ret ve_bl)) sv_nil) (sv_cons (sv_asg (vv 0) sr_st (pg_tup (n := 2) (by rfl) (pgs_cons (pg_name (i := 2) ss_is_doing.nd rfl (Or.inl rfl)) (pgs_cons (pg_name (i := 3) ss_is_doing.nd rfl (Or.inl rfl)) pgs_nil))) (tg_tup (tgs_cons tg_name (tgs_cons tg_name tgs_nil))) (by decide)) (sv_one (sv_ret (ve_and (ve_isi (T := "str") (by rfl) T.str bt_str (by rfl) T.isinstance bb_isinstance (vv 2)) (ve_and (ve_cmp op_in_seq (ov_in (neg := false)) (vv 2) (ve_tup (va_cons ve_str (va_cons ve_str va_nil))) (by rfl)) (ve_one (ve_callD d_is_index (hr.mono (by decide)) (by rfl) (va_cons (vv 3) (va_cons (vv 1) va_nil))))))))))
end Up

/-! exceptions as values, over ValueError or OverflowError -/
namespace PySem
namespace UpO
open PySem.W PySem.Calls PyProof.Rows PySem.HandSPX
open Builtin Builtin.ObjectAttr
section
variable {prog : Program} {w : World} {A : Around} {E : Value → Shared → Prop} {R : Result → Shared → Prop} {p : Heap} {gn : Array GenState} {dw : Drawn} {tk : Nat} {fs : OsState}
theorem osaA {K : W.Frag} {nm : Str} {tt : Tok} {v : Value} {x C : Addr} {fv : Array Value} {cd : ClassData} (XK : K.In p) (ex : p.get? x = some { cls := .ref C, data := .fields fv }) (ecd : W.clsIn K C = some cd) (n0 : cd.mro.isEmpty = false) (n1 : cd.mro.contains (.type "object") = true)
    (n2 : refuseLoop (.ref x) "__setattr__" cd.mro = pure ()) (n3 : cd.hasDict = true) (n4 : W.findIn K (.ref C) nm = some none)
    (q : ∀ h' tk' dx, (∀ b o, b ≠ x → p.get? b = some o → h'.get? b = some o) → p.objs.size ≤ dx → dx ≠ x → h'.get? x = some { cls := .ref C, dict := some dx, data := .fields fv } → h'.Ns1 dx (fun y => if y = nm then some v else none) → R (.ok (.ret .none)) ⟨h', gn, dw, tk', fs⟩) :
    codeAny (model prog w) A (.call (.builtin "object.__setattr__") ⟨[.ref x, .str nm tt, v], []⟩) R ⟨p, gn, dw, tk, fs⟩ := by
  have IA : W.InstAt p x { cls := .ref C, data := .fields fv } C none := ⟨ex, rfl, rfl, trivial⟩
  have xs : x ≠ p.objs.size := Nat.ne_of_lt (Heap.lt_size ex)
  have so := F.store_object
  have sb : W.Looks (model prog w) p (isInstance (.ref x) (.type "object")) true := IA.type.andThen (W.looks_mroIn XK (by unfold W.mroIn; rw [ecd, Option.bind_some, if_neg (by rw [n0]; decide), n1]))
  refine codeAny_call_builtin so.slot.plain so.entry (W.check_slot (self := .ref x) (rest := [.str nm tt, v]) (kw := []) so.kind so.split sb (so.args (.ref x) (.str nm tt) v) ?_)
  have l1 : W.Looks (model prog w) p (mroOf (.ref C)) cd.mro := (W.looks_clsIn XK ecd).andThen .now
  have l2 : W.Looks (model prog w) p (storeTaker? none) none := .now
  have l3 : W.Looks (model prog w) p (classData C) cd := W.looks_clsIn XK ecd
  rw [W.osa_eq, refuse_eq]
  refine wpAny_bind (wpAny_bind (IA.type.at (wpAny_bind (l1.at ?_))))
  rw [n2]
  refine wpAny_pure (wpAny_bind (IA.type.at (wpAny_bind ((W.looks_findIn XK n4).at (wpAny_bind (l2.at ?_))))))
  show wpAny _ _ (storeInOwnDict (.ref x) (.ref C) (.str nm tt) nm v false) _ _ _
  obtain ⟨c1, c2, c3, c4, c5, c6, c7, c8, c9, c10, c11⟩ := cd
  dsimp only at n3
  subst n3
  unfold storeInOwnDict ownDictForStores
  repeat (first | with_reducible refine wpAny_loadPart_at ex ?_ | with_reducible refine store_in_new ?_ ?_ | with_reducible refine l3.at ?_ | wp_step)
  · refine ⟨_, #[], _, (Heap.get?_update_ne _ _ _ _ xs.symm).trans (Heap.get?_push_at rfl rfl), rfl, fun e he => ?_, fun _ => rfl⟩
    exact absurd he (by simp)
  · intro h' tk' hn' hs
    have ex1 : (p.push { cls := .type "dict", data := .dict #[] }).get? x = some { cls := .ref C, data := .fields fv } := Heap.get?_push_of_some _ ex
    refine q h' tk' p.objs.size (fun b o hb ho => ?_) (Nat.le_refl _) xs.symm ((hs.2 x xs).trans (Heap.get?_update_self _ ex1 rfl)) hn'
    have e0 := hs.2 b (Nat.ne_of_lt (Heap.lt_size ho))
    exact e0.trans ((Heap.get?_update_ne _ _ _ _ hb).trans (Heap.get?_push_of_some _ ho))
end
end UpO
end PySem
namespace Up
open PySem PySem.Spec PyProof.Rows L2
abbrev oeTail : List Value := [.type "OverflowError", .type "ArithmeticError", .type "Exception", .type "BaseException", .type "object"]
/-- what the written part says of an exception class -/
structure OexA (K : PySem.W.Frag) (C : Addr) : Prop where
  cls : ∃ nm q N bs bm sn sub ab col dd k0 k1 k2 k3 k5 B newId initId bmB, K.lookup C = some (excClassObj nm q C N bs bm true sn sub ab col dd k0 k1 k2 k3 k5 newId) ∧ ExcBaseFacts B newId initId bmB ∧ (∀ Y : String, bm.contains (.type Y) = bmB.contains (.type Y)) ∧
    bm.isEmpty = false ∧ bm.contains (.type "object") = true ∧ ∀ self, PySem.refuseLoop self "__setattr__" bm = pure ()
  sa : PySem.W.findIn K (.ref C) "__setattr__" = some (some (.builtin "object.__setattr__"))
  exC : PySem.W.subIn K (.ref C) (.type "BaseException") = some true
  tyC : PySem.W.typeIn K (.ref C) = some (.type "type")
  kC : PySem.W.keepIn K (.ref C) = true
theorem OexA.ve {K : PySem.W.Frag} {C : Addr} (T : OexC K C) : OexA K C := by
  obtain ⟨nm, q, N, bs, bm, sn, sub, ab, col, dd, k0, k1, k2, k3, k5, hC, hbm⟩ := T.cls
  exact ⟨⟨nm, q, N, bs, bm, sn, sub, ab, col, dd, k0, k1, k2, k3, k5, _, _, _, _, hC, PySem.F.excBase_ValueError, fun Y => PySem.HandSPX.refsVE_contains Y bm hbm, PySem.HandSPX.refsVE_ne hbm, (PySem.HandSPX.refsVE_contains "object" _ hbm).trans (by decide +kernel), fun self => PySem.HandSPX.refsVE_pass self _ hbm⟩, T.sa, T.exC, T.tyC, T.kC⟩
theorem OexA.oe {K : PySem.W.Frag} {C : Addr} {nm q N bs sn sub ab col dd k0 k1 k2 k3 k5} (hC : K.lookup C = some (excClassObj nm q C N bs oeTail true sn sub ab col dd k0 k1 k2 k3 k5 "OverflowError.__new__")) (sa : PySem.W.findIn K (.ref C) "__setattr__" = some (some (.builtin "object.__setattr__")))
    (exC : PySem.W.subIn K (.ref C) (.type "BaseException") = some true) (tyC : PySem.W.typeIn K (.ref C) = some (.type "type")) (kC : PySem.W.keepIn K (.ref C) = true) : OexA K C :=
  ⟨⟨nm, q, N, bs, _, sn, sub, ab, col, dd, k0, k1, k2, k3, k5, _, _, _, _, hC, PySem.F.excBase_OverflowError, fun Y => rfl, rfl, by decide +kernel, fun self => PySem.F.store_OverflowError.passes self⟩, sa, exC, tyC, kC⟩
/-- what the written part says of such a class -/
structure XClA (K : PySem.W.Frag) (C : Addr) : Prop where
  oex : OexA K C
  ga : PySem.W.findIn K (.ref C) "__getattribute__" = some (some (.builtin "BaseException.__getattribute__"))
  gg : PySem.W.findIn K (.ref C) "__getattr__" = some none
  hd : PySem.W.hasDictIn K C = true
  cl : (PySem.W.clsIn K C).isSome = true
  ca : PySem.W.findIn K (.ref C) "__class__" = some (some (.builtin "object.__class__"))
  cn : PySem.W.specialIn K (.builtin "object.__class__") "__get__" = some (some (.builtin "getset_descriptor.__get__"))
  ct : PySem.W.takesIn K (.builtin "object.__class__") = some true
  cm : PySem.W.mroIn K C (.type "object") = some true
section
variable {X : Cx} {pins : List (Addr × Obj)} {σ : L2.St} {H : Hp} {s : Shared} {a C dx : Addr} {f : Str} {y : V} {u : Value} {Q : Unit → Shared → Prop} {E : Value → Shared → Prop} {A : Around}
/-- self.f = y, the first one -/
theorem ostA (T : OexA X.K C) (I : Inv X pins σ H s) (ea : H a = some (exo a C none)) (nof : PySem.W.findIn X.K (.ref C) f = some none) (ry : RelV y u)
    (h : ∀ dx s', H dx = none → dx ≠ a → Inv X pins σ (upd (upd H dx (exd dx [(f, y)])) a (exo a C (some dx))) s' → Q () s') : wpAny (model X.prog X.w) A (setAttr (.ref a) f u) Q E s := by
  obtain ⟨nm, q, N, bs, bm, sn, sub, ab, col, dd, k0, k1, k2, k3, k5, B, newId, initId, bmB, eC, F, hT, b1, b2, b3⟩ := T.cls
  have ecl : PySem.W.clsIn X.K C = some { name := nm, bases := bs, mro := .ref C :: bm, ns := N, qualname := q, hasDict := true, slotNames := sn, subclasses := sub, abstract := ab, collection := col, hasDel := false } := by
    unfold PySem.W.clsIn
    rw [eC] <;> rfl
  obtain ⟨t1, ho⟩ := exo_at I.hok ea
  obtain ⟨p, gn, dw, tk, os⟩ := s
  refine PySem.W.set_plain I.kIn (ox := { cls := .ref C, dict := none, data := .fields #[.ref t1, .none, .none, .none, .bool false, .none] }) (od := none) ⟨ho, rfl, rfl, trivial⟩ T.sa ?_
  refine PySem.UpO.osaA I.kIn ho ecl rfl (by show (Value.ref C :: bm).contains _ = true; rw [List.contains_cons, b2, Bool.or_true]) (by show PySem.refuseLoop _ _ (.ref C :: bm) = _; rw [PySem.refuseLoop_ref]; exact b3 _) rfl nof (fun h' tk' dx kp dn dne ex hn => ?_)
  have hnd : H dx = none := I.hok.fresh dn
  have ne1 : ∀ {b : Addr} {o : Obj}, p.get? b = some o → b ≠ dx := fun {b o} z => Nat.ne_of_lt (Nat.lt_of_lt_of_le (Heap.lt_size z) dn)
  have ne2 : ∀ {b : Addr}, H b = none → b ≠ a := fun {b} n z => by rw [z, ea] at n; cases n
  have U : Un X.fs [] H (upd (upd H dx (exd dx [(f, y)])) a (exo a C (some dx))) p h' := ⟨fun b o z n _ _ => kp b o (ne2 n) z, fun b o z n _ _ => ⟨o.slots, kp b o (ne2 n) z⟩,
    fun b o z n _ => by rw [upd_ne (ne2 n), upd_ne (ne1 z)]; exact n,
    fun b o z _ => by
      by_cases c : b = a
      · exact ⟨_, by rw [c]; exact ex⟩
      · exact ⟨o, kp b o c z⟩,
    fun b xs z => by rw [upd_ne (at_ne ea z exo_tup), upd_ne (ne_of_none z hnd)]; exact z, fun b o v z => by rw [upd_ne (at_ne ea z exo_frz), upd_ne (ne_of_none z hnd)]; exact z,
    fun b ps z => ⟨#[], by rw [upd_ne (at_ne ea z exo_tbl), upd_ne (ne_of_none z hnd), z]; simp⟩⟩
  refine h dx _ hnd dne (I.un (t' := tk') U fun b o z => ?_)
  by_cases c : b = a
  · subst c
    rw [upd_same] at z
    cases z
    exact exo_ok ex
  rw [upd_ne c] at z
  by_cases c2 : b = dx
  · subst c2
    rw [upd_same] at z
    cases z
    exact exd_ok hn (relO_put (fs := []) ry fun g => True.intro)
  rw [upd_ne c2] at z
  refine (I.hok b o z).stay (fun e v hc z => kp e v ?_ z) (fun e hc => by rw [upd_ne (at_ne ea hc exo_own), upd_ne (ne_of_none hc hnd)]; exact hc) fun e xs hc => by rw [upd_ne (at_ne ea hc exo_tup), upd_ne (ne_of_none hc hnd)]; exact hc
  rcases hc with rfl | hc
  · exact c
  · exact at_ne ea hc exo_own
end
/-- self.f = e -/
def tOstA (K : PySem.W.Frag) (f : Str) (to te : TE) : TS := fun D σ H => te σ H fun y H1 => to σ H1 fun x H2 => ∃ a C : Addr, x = .ref a ∧ OexA K C ∧ PySem.W.findIn K (.ref C) f = some none ∧ H2 a = some (exo a C none) ∧
  ∀ dx, H2 dx = none → dx ≠ a → D.nx σ (upd (upd H2 dx (exd dx [(f, y)])) a (exo a C (some dx)))
theorem ps_ostA {X : Cx} {o e : Expr} {to te : TE} {f : Str} {p' pos : Pos} (ho : PE X o to) (he : PE X e te) (hs : swapsWith e (some (.Attribute o f p')) pos.line X.env = pure false := by rfl) : PS X (.Assign [.Attribute o f p'] e pos) (tOstA X.K f to te) := by
  refine ⟨fun pins s σ H D I h => plainObj_wpAny_Assign_Attribute (thn (he.run pins s σ H _ I h) fun v s1 ⟨y, H1, I1, r1, q1⟩ => thn (ho.run pins s1 σ H1 _ I1 q1) fun u s2 ⟨x, H2, I2, r2, a, C, ex, T, hno, ea, q⟩ => ?_) hs⟩
  subst ex
  obtain rfl : u = Value.ref a := r2
  exact ostA T I2 ea hno r1 fun dx s' n ne J => ⟨σ, _, J, q dx n ne⟩
/-- __init__(self, field): self.field = field -/
def spXI (C : Addr) (f : Str) : Sp := fun vs H Q _ => ∃ (a : Addr) (v : V), vs = [.ref a, v] ∧ H a = some (exo a C none) ∧ ∀ d, H d = none → d ≠ a → Q .non (upd (upd H d (exd d [(f, v)])) a (exo a C (some d)))
end Up

namespace Up
open PySem PySem.Spec PyProof.Rows L2
theorem made_d {H : Hp} {a d C : Addr} {f : Str} {v : V} (na : H a = none) (nd : upd H a (exo a C none) d = none) (ne : d ≠ a) : H d = none ∧ Same H (upd (upd (upd H a (exo a C none)) d (exd d [(f, v)])) a (exo a C (some d))) := by
  rw [upd_ne ne] at nd
  refine ⟨nd, fun b o eb => ?_⟩
  rw [upd_ne (ne_of_none eb na), upd_ne (ne_of_none eb nd), upd_ne (ne_of_none eb na)]
  exact eb
/-- what of the text an exception class with one field has -/
structure XKA (P : Program) (w : World) (K : PySem.W.Frag) (mg : Str → Option Value) (base : Heap) (nm f : Str) (C : Addr) : Prop where
  cls : XClA K C
  gl : mg nm = some (.ref C)
  noF : PySem.W.findIn K (.ref C) f = some none
  ini : ∃ (fI : Addr) (fd : FuncData), PySem.W.findIn K (.ref C) "__init__" = some (some (.ref fI)) ∧ PySem.W.typeIn K (.ref fI) = some (.type "function") ∧ FnOk P w K mg base CX0 1 fI fd ["self", f] (spXI C f) ∧ Binds K fd ["self", f] [] ∧
    ∀ (a : Addr) (u : Value) (st : Shared), K.In st.heap → BindsTo st fd ⟨[.ref a], [(f, u)]⟩ [("self", .ref a), (f, u)]
section
variable {X : Cx} {cm : Cm} {a b e : Expr} {es : List Expr} {f g : En → Option Val} {p pos kpos : Pos} {c : Nat} {nm fl : Str}
theorem madeA {pins : List (Addr × Obj)} {σ : L2.St} {H1 : Hp} {s1 : Shared} {Q : VK} {CX : CXT} {C fI : Addr} {k : Nat} {fd : FuncData} {ps : List Str} {sp : Sp} {us : List Value} {kw : List (Str × Value)} {bs : List Value} {vs : List V} (T : OexA X.K C)
    (iC : PySem.W.findIn X.K (.ref C) "__init__" = some (some (.ref fI))) (tI : PySem.W.typeIn X.K (.ref fI) = some (.type "function")) (F1 : FnOk X.prog X.w X.K X.mg X.base CX k fI fd ps sp) (hr : Room (k + 1) X.A) (hx : Passes CX X (fun _ _ _ => False))
    (I1 : Inv X pins σ H1 s1) (hus : us.length ≤ sizeLine) (hb : ∀ (a : Addr) (st : Shared), X.K.In st.heap → BindsTo st fd ⟨.ref a :: us, kw⟩ (ps.zip (.ref a :: bs))) (rv : Vals vs bs)
    (h : ∀ a, H1 a = none → sp (.ref a :: vs) (upd H1 a (exo a C none)) (fun v H2 => v = .non ∧ Q (.ref a) H2) fun _ _ _ => False) :
    wpAny (model X.prog X.w) X.A (call (.ref C) us kw) (EP X pins σ Q) X.xe s1 := by
  obtain ⟨nm, q, N, bs', bm, sn, sub, ab, col, dd, k0, k1, k2, k3, k5, B, newId, initId, bmB, hC, F, hT, _⟩ := T.cls
  obtain ⟨hp, gn, dw, tk, fs⟩ := s1
  have le : hp.objs.size ≤ hp.objs.size + 1 := Nat.le_succ _
  have hn : H1 (hp.objs.size + 1) = none := I1.hok.fresh le
  have hq := h (hp.objs.size + 1) hn
  have kk : ∀ b o, hp.get? b = some o → ((hp.push (PySem.W.kdv_tup us)).push (PySem.HandSPX.excO C hp.objs.size)).get? b = some o := fun b o t => Heap.get?_push_of_some _ (Heap.get?_push_of_some _ t)
  have he : ((hp.push (PySem.W.kdv_tup us)).push (PySem.HandSPX.excO C hp.objs.size)).get? (hp.objs.size + 1) = some (PySem.HandSPX.excO C hp.objs.size) := by heap_get
  have I2 : Inv X pins σ (upd H1 (hp.objs.size + 1) (exo (hp.objs.size + 1) C none)) ⟨(hp.push (PySem.W.kdv_tup us)).push (PySem.HandSPX.excO C hp.objs.size), gn, dw, tk, fs⟩ :=
    I1.laid (t' := tk) (a := hp.objs.size + 1) (o := exo (hp.objs.size + 1) C none) (h' := (hp.push (PySem.W.kdv_tup us)).push (PySem.HandSPX.excO C hp.objs.size)) kk le (exo_ok he)
  refine wpAny_call (PySem.UpX.call_kw F hT (I1.kIn _ _ hC) (PySem.W.looks_findIn I1.kIn iC) (fun self => PySem.W.bind_fn I1.kIn self tI) hus
    (codeAny_mono (F1.run _ X.stack _ _ ⟨Value.ref (hp.objs.size + 1) :: us, kw⟩ (Value.ref (hp.objs.size + 1) :: bs) _ _ (fun _ _ _ => False) (hr.make C us kw) (I2.env0.make C us kw) (hb _ _ I2.kIn) (show Vals (V.ref (hp.objs.size + 1) :: vs) (Value.ref (hp.objs.size + 1) :: bs) from .cons rfl rv) hq) fun r s' hq' => ?_))
  match r, hq' with
  | .error er, hq' => exact hx pins σ _ _ er s' I2 hq'
  | .ok (.ret u), hq' =>
    obtain ⟨v, H2, J, rr, ev, q2⟩ := I2.after hq'
    subst ev
    exact ⟨rr, .ref (hp.objs.size + 1), H2, J, rfl, q2⟩
/-- a class's call with one value -/
def excF (c : Nat) (fl : Str) (f : En → Option Val) : En → Option Val := fun env => (f env).map fun x => .exc c [fl] [x]
theorem exc_core {P : Addr → Prop} {H H1 : Hp} {v : V} {x : Val} {Q : VK} (hd : Hid P H1) (s1 : Same H H1) (r : Re cm P H1 v x) (q : ∀ v H', Same H H' → Re cm P H' v (.exc c [fl] [x]) → Q v H') (a : Addr) (na : H1 a = none) :
    spXI (cm.cls c) fl [.ref a, v] (upd H1 a (exo a (cm.cls c) none)) (fun z H2 => z = .non ∧ Q (.ref a) H2) fun _ _ _ => False := by
  refine ⟨a, v, rfl, upd_same, fun d nd ne => ⟨rfl, ?_⟩⟩
  obtain ⟨hdn, s2⟩ := made_d (f := fl) (v := v) na nd ne
  refine q _ _ (s1.trans s2) (Rep.exc (d := some d) (fs := [(fl, v)]) (hd.new na) upd_same (fun d' e => ?_) (fun z => nomatch z) (.cons (r.same s2) .nil))
  cases e
  exact ⟨hd.new hdn, by rw [upd_ne ne]; exact upd_same⟩
theorem ve_exc (T : XKA X.prog X.w X.K X.mg X.base nm fl (cm.cls c)) (hr : Room 2 X.A) (hg : Gl X nm) (ha : VE X cm e f) (hdb : (nm == ("__debug__" : Str)) = false := by decide) (he : starEach [e] X.env = (false, eval e X.env) :: starEach [] X.env := by rfl) (hpl : (backTo pos (starEach [] X.env)).any (·.1) = false := by rfl) :
    VE X cm (.Call (.Name nm p) [e] [] pos) (excF c fl f) := by
  obtain ⟨fI, fd, iC, tI, F1, hb, _⟩ := T.ini
  refine ⟨fun pins s σ H Q I ⟨P, env, z, hs, hf, q⟩ => ?_⟩
  obtain ⟨x, ex, rfl⟩ := Option.map_eq_some_iff.mp hf
  refine wpAny_Call_Name_kw (ld_glob I hg T.gl ?_ hdb)
  refine PySem.W.callWith_K (h₀ := X.base) I.ok.mod.kin T.cls.oex.kC (thn ((va_cons (cm := cm) ha va_nil he).run pos pins s σ H (fun vs H1 => ∃ v, vs = [v] ∧ Same H H1 ∧ Re cm P H1 v x) I ⟨P, env, [x], hs, by unfold consF; rw [ex]; rfl, fun vs H1 s1 r1 => ?_⟩) fun us s1 ⟨vs, H1, I1, r1, v, ev, s01, rx⟩ => ⟨I1.kIn, ?_⟩) he hpl
  · obtain ⟨v, rfl, rv⟩ := Res.one r1
    exact ⟨v, rfl, s1, rv⟩
  subst ev
  cases r1 with
  | @cons _ u _ _ ru rn =>
    cases rn
    refine madeA (vs := [v]) (bs := [u]) (kw := []) T.cls.oex iC tI F1 hr pass0 I1 (by show 1 ≤ sizeLine; decide) (fun a st hK => ?_) (.cons ru .nil) (exc_core (hs.hid.same s01) s01 rx q)
    have z := hb st [.ref a, u] hK rfl
    exact z
theorem ve_excK (T : XKA X.prog X.w X.K X.mg X.base nm fl (cm.cls c)) (hr : Room 2 X.A) (hg : Gl X nm) (ha : VE X cm e f) (hall : (backToKw pos (keywordEach [⟨some fl, e, kpos⟩] X.env)).all (·.1.isSome) = true := by rfl) (hks : (backToKw pos (keywordEach [⟨some fl, e, kpos⟩] X.env)).filterMap (·.1) = [fl] := by rfl)
    (hdb : (nm == ("__debug__" : Str)) = false := by decide) (hpl : ((backTo pos (starEach [] X.env)).any (·.1) || (backToKw pos (keywordEach [⟨some fl, e, kpos⟩] X.env)).any (·.1.isNone)) = false := by rfl) :
    VE X cm (.Call (.Name nm p) [] [⟨some fl, e, kpos⟩] pos) (excF c fl f) := by
  obtain ⟨fI, fd, iC, tI, F1, _, hb⟩ := T.ini
  refine ⟨fun pins s σ H Q I ⟨P, env, z, hs, hf, q⟩ => ?_⟩
  obtain ⟨x, ex, rfl⟩ := Option.map_eq_some_iff.mp hf
  refine wpAny_Call_Name_kw (ld_glob I hg T.gl ?_ hdb)
  refine PySem.W.callWith_KW0 (h₀ := X.base) I.ok.mod.kin T.cls.oex.kC hall (thn ((vk_cons (cm := cm) ha vk_nil).run pos pins s σ H (fun vs H1 => ∃ v, vs = [v] ∧ Same H H1 ∧ Re cm P H1 v x) I ⟨P, env, [x], hs, by unfold consF; rw [ex]; rfl, fun vs H1 s1 r1 => ?_⟩) fun us s1 ⟨vs, H1, I1, r1, v, ev, s01, rx⟩ => ⟨I1.kIn, ?_⟩) hpl
  · obtain ⟨v, rfl, rv⟩ := Res.one r1
    exact ⟨v, rfl, s1, rv⟩
  subst ev
  rw [hks]
  cases r1 with
  | @cons _ u _ _ ru rn =>
    cases rn
    exact madeA (us := []) (vs := [v]) (bs := [u]) (kw := [(fl, u)]) T.cls.oex iC tI F1 hr pass0 I1 (Nat.zero_le _) (fun a st hK => hb a u st hK) (.cons ru .nil) (exc_core (hs.hid.same s01) s01 rx q)
/-- a class without own __init__ -/
theorem ve_exc0 {bmB : List Value} {B newId initId : String} (F : ExcBaseFacts B newId initId bmB) (hq : PySem.W.excIn X.K (cm.cls c) bmB newId = true) (gC : X.mg nm = some (.ref (cm.cls c))) (kC : PySem.W.keepIn X.K (.ref (cm.cls c)) = true) (hg : Gl X nm) (hdb : (nm == ("__debug__" : Str)) = false := by decide) :
    VE X cm (.Call (.Name nm p) [] [] pos) (cst (.exc c [] [])) := by
  refine ⟨fun pins s σ H Q I ⟨P, env, z, hs, hf, q⟩ => ?_⟩
  cases hf
  refine wpAny_Call_Name_kw (ld_glob I hg gC (PySem.W.callWith_K0 ?_ kC ?_) hdb)
  · exact I.kIn
  obtain ⟨bm, N, n1, qn, bs, hdct, sn, sub, ab, col, dd, k0, k1, k2, k3, k5, mN, hC, hN, hni, T⟩ := exc_obj I.kIn hq
  refine wpAny_call_exc_subT F T hC hN hni (fun h' a hm => ?_) (Nat.zero_le _)
  have hn : H a = none := I.hok.gone hm.new
  obtain ⟨t, ht, _, _⟩ := hm.there
  have sm : Same H (upd H a (exo a (cm.cls c) none)) := same_new hn
  exact ⟨.ref a, upd H a (exo a (cm.cls c) none), I.laidN hm.keeps hm.new hn (exo_ok ht), rfl, q _ _ sm (Rep.exc (d := none) (fs := []) (hs.hid.new hn) upd_same (fun d' e => nomatch e) (fun _ => rfl) .nil)⟩
/-- the field -/
def xfV (L : List Nat) (fl : Str) : Val → Option Val
  | .exc c [n] [y] => if c ∈ L ∧ n = fl then some y else none
  | _ => none
def xfF (L : List Nat) (fl : Str) (f : En → Option Val) : En → Option Val := fun env => (f env).bind (xfV L fl)
theorem xfV_some {L : List Nat} {x z : Val} (h : xfV L fl x = some z) : ∃ c, c ∈ L ∧ x = .exc c [fl] [z] := by
  unfold xfV at h
  split at h
  case h_2 => cases h
  rename_i c n y
  by_cases k : c ∈ L ∧ n = fl
  · rw [if_pos k] at h
    cases h
    exact ⟨c, k.1, by rw [k.2]⟩
  · rw [if_neg k] at h
    cases h
theorem ve_xf {L : List Nat} (hT : ∀ c ∈ L, XClA X.K (cm.cls c) ∧ PySem.W.findIn X.K (.ref (cm.cls c)) fl = some none) (he : VE X cm e f) (hb : attributeBase e fl X.env (eval e X.env) = eval e X.env := by rfl) : VE X cm (.Attribute e fl pos) (xfF L fl f) := by
  refine ⟨fun pins s σ H Q I ⟨P, env, z, hs, hf, q⟩ => ?_⟩
  unfold xfF at hf
  obtain ⟨x, ex, hf⟩ := Option.bind_eq_some_iff.mp hf
  obtain ⟨c, hc, rfl⟩ := xfV_some hf
  refine attr_of hb (thn (he.run pins s σ H (fun v H1 => Same H H1 ∧ Re cm P H1 v (.exc c [fl] [z])) I ⟨P, env, _, hs, ex, fun v H1 s1 r1 => ⟨s1, r1⟩⟩) fun u s1 ⟨v, H1, I1, ru, s01, rx⟩ => ?_)
  clear hf ex
  generalize hfl : fl = fl0 at rx
  generalize ens : [fl0] = ns at rx
  generalize exs : [z] = xs at rx
  cases rx with
  | @exc a c d fs xs nP ha hdd hz rr =>
    match fs, ens, exs, rr with
    | [(n', v)], ens, exs, rr =>
      cases ens
      subst hfl
      subst exs
      obtain ⟨v', ev, rv⟩ := Res.one rr
      cases ev
      cases d with
      | none => cases hz rfl
      | some d =>
        obtain ⟨nd, hd⟩ := hdd d rfl
        obtain rfl : u = Value.ref a := ru
        obtain ⟨T, noF⟩ := hT c hc
        obtain ⟨t1, ho⟩ := exo_at I1.hok ha
        obtain ⟨mA, hns, hr⟩ := exd_at I1.hok hd
        obtain ⟨od, hod, hl⟩ := lookIn_ns hns
        have lk : List.lookup fl [(fl, v)] = some v := by simp [List.lookup]
        obtain ⟨u, hu, ru⟩ := RelO.some_of (v := v) (o := mA fl) (by rw [← lk]; exact hr fl)
        have J : PySem.W.InstAt s1.heap a { cls := .ref (cm.cls c), dict := some d, data := .fields #[.ref t1, .none, .none, .none, .bool false, .none] } (cm.cls c) (some od) := ⟨ho, rfl, by unfold PySem.W.notCls; rfl, hod⟩
        exact PySem.HandSPX.exc_get I1.kIn J T.ga T.gg T.oex.exC (PySem.W.findObj_own T.hd noF rfl (by rw [hl, hu])) (handed_of ru) ⟨v, H1, I1.tok _, ru, q v H1 s01 rv⟩
end
end Up

namespace Up
open PySem PySem.Spec PyProof.Rows L2
/-- isinstance of an exception -/
def rIsA (K : PySem.W.Frag) : List V → Hp → VK → Prop := fun xs H Q => ∃ (a C : Addr) (d : Option Addr) (fs : List (Str × V)) (c : V) (u : Value) (b : Bool), xs = [.ref a, c] ∧ ClsV c u ∧ XClA K C ∧ H a = some (exo a C d) ∧ (∀ d', d = some d' → H d' = some (exd d' fs)) ∧ PySem.W.kitOne K (.ref C) u = some b ∧ Q (.bl b) H
theorem call_isA {X : Cx} : CallR X (.builtin "isinstance") (rIsA X.K) := by
  intro pins s σ H xs us Q I r h
  obtain ⟨a, C, d, fs, c, u, b, rfl, k, T, ha, hd, e, q⟩ := h
  obtain ⟨u1, u2, rfl, r1, r2⟩ := vals2 r
  have e2 := k.eq r2
  subst e2
  obtain rfl : u1 = Value.ref a := r1
  obtain ⟨t1, ho⟩ := exo_at I.hok ha
  obtain ⟨cd, ecd⟩ := Option.isSome_iff_exists.mp T.cl
  have fin : ∀ tk, EP X pins σ Q (.bool b) { s with toks := tk } := fun tk => ⟨.bl b, H, I.tok tk, rfl, q⟩
  cases d with
  | none => exact PySem.W.kia_one (PySem.W.kitx_exc (od := none) (by rw [ecd]; rfl) T.ga T.gg T.oex.exC T.ca T.cn T.ct T.cm) I.kIn ⟨ho, rfl, by unfold PySem.W.notCls; rfl, True.intro⟩ e (fun z => nomatch z) fin
  | some d' =>
    obtain ⟨mA, ⟨od, es, ep, hod, hr⟩, _⟩ := exd_at I.hok (hd d' rfl)
    exact PySem.W.kia_one (PySem.W.kitx_exc (od := some od) (by rw [ecd]; rfl) T.ga T.gg T.oex.exC T.ca T.cn T.ct T.cm) I.kIn ⟨ho, rfl, by unfold PySem.W.notCls; rfl, hod⟩ e (fun z => nomatch z) fin
/-- what a class is to the exceptions' classes -/
def isxF (S : Nat → Option Bool) (f : En → Option Val) : En → Option Val := fun env => (f env).bind fun x => match x with
  | .exc c _ _ => (S c).map .bl
  | _ => none
section
variable {X : Cx} {cm : Cm} {a b e : Expr} {es : List Expr} {f g : En → Option Val} {p p2 pos : Pos} {x : Str} {S : Nat → Option Bool}
theorem ve_isx {kv : V} {u : Value} (hk : ClsV kv u) (hT : ∀ c k, S c = some k → XClA X.K (cm.cls c) ∧ PySem.W.kitOne X.K (.ref (cm.cls c)) u = some k) (h2 : PE X (.Name x p2) (fun σ H Q => Q kv H)) (hg : Gl X "isinstance") (hm : X.mg "isinstance" = none) (hv : bootBuiltins "isinstance" = some (.builtin "isinstance")) (ha : VE X cm e f)
    (he : starEach [e, .Name x p2] X.env = (false, eval e X.env) :: starEach [.Name x p2] X.env := by rfl) (he2 : starEach [.Name x p2] X.env = (false, eval (.Name x p2) X.env) :: starEach [] X.env := by rfl) (hpl : (backTo pos (starEach [.Name x p2] X.env)).any (·.1) = false := by rfl) :
    VE X cm (.Call (.Name "isinstance" p) [e, .Name x p2] [] pos) (isxF S f) :=
  (pe_callB call_isA hg hm hv (pa_cons ha (pa_cons h2 pa_nil he2) he) (by decide) (by decide) he hpl).weak fun σ H Q ⟨P, env, z, hs, hf, q⟩ => by
    unfold isxF at hf
    obtain ⟨y, ey, h1⟩ := Option.bind_eq_some_iff.mp hf
    split at h1
    case h_2 => cases h1
    rename_i c ns xs
    obtain ⟨k, ek, rfl⟩ := Option.map_eq_some_iff.mp h1
    obtain ⟨T, hb⟩ := hT c k ek
    refine ⟨P, env, _, hs, ey, fun v H1 s1 r1 => ?_⟩
    cases r1 with
    | @exc a _ d fs _ nP hh hd hz rr => exact ⟨a, cm.cls c, d, fs, kv, u, k, rfl, hk, T, hh, fun d' e => (hd d' e).2, hb, q _ H1 s1 (.bl k)⟩
/-- {} -/
theorem ve_dk0 : VE X cm (.Dict [] [] pos) (cst .dk0) := pe_dnewK.weak fun σ H Q ⟨P, env, z, hs, hf, q⟩ => by
  cases hf
  exact fun p np => q _ _ (same_new np) (.dk0 (hs.hid.new np) upd_same)
/-- i ** j of written numbers -/
instance (i j : Int) : Decidable (CPow i j) := by unfold CPow; infer_instance
theorem ov_pow : OpV cm (rI CPow fun i j => .int (i ^ j.toNat)) (iopC (fun i j => decide (CPow i j)) fun i j => .int (i ^ j.toNat)) := ov_IC (fun i j h => of_decide_eq_true h) fun i j P H => .int _
/-- a list, so many times -/
def repF : Val → Val → Option Val
  | .lst xs, .int k => if 0 ≤ k ∧ k < 1000 ∧ xs.length * k.toNat ≤ most then some (.lst (List.replicate k.toNat xs).flatten) else none
  | _, _ => none
theorem repF_some {x y z : Val} (h : repF x y = some z) : ∃ xs k, x = .lst xs ∧ y = .int k ∧ (0 ≤ k ∧ k < 1000 ∧ xs.length * k.toNat ≤ most) ∧ z = .lst (List.replicate k.toNat xs).flatten := by
  unfold repF at h
  split at h
  case h_2 => cases h
  rename_i xs k
  by_cases c : 0 ≤ k ∧ k < 1000 ∧ xs.length * k.toNat ≤ most
  · rw [if_pos c] at h
    cases h
    exact ⟨xs, k, rfl, rfl, c, rfl⟩
  · rw [if_neg c] at h
    cases h
theorem Res.flat {P : Addr → Prop} {H : Hp} {vs : List V} {xs : List Val} (r : Res cm P H vs xs) : ∀ n : Nat, Res cm P H (List.replicate n vs).flatten (List.replicate n xs).flatten
  | 0 => .nil
  | n + 1 => by
    rw [List.replicate_succ, List.replicate_succ, List.flatten_cons, List.flatten_cons]
    exact r.append (Res.flat r n)
theorem ve_rep (ha : VE X cm a f) (hb : VE X cm b g) : VE X cm (.BinOp a .Mult b pos) (bin2 repF f g) := (pe_op op_rep ha hb).weak fun σ H Q ⟨P, env, z, hs, hf, q⟩ => by
  unfold bin2 at hf
  obtain ⟨x, ex, hf⟩ := Option.bind_eq_some_iff.mp hf
  obtain ⟨y, ey, hf⟩ := Option.bind_eq_some_iff.mp hf
  refine ⟨P, env, x, hs, ex, fun v H1 s1 r1 => ⟨P, env, y, hs.same s1, ey, fun u H2 s2 r2 => ?_⟩⟩
  obtain ⟨xs, k, rfl, rfl, hc, rfl⟩ := repF_some hf
  have r1 := r1.same s2
  obtain ⟨l, vs, rfl, nP, hl, rv⟩ := Re.lst_ r1
  cases Re.int_ r2
  refine ⟨l, k, vs, rfl, rfl, hl, by omega, by omega, ?_, fun p np => ?_⟩
  · rw [Res.length rv]
    exact Nat.le_of_lt (most_line hc.2.2)
  · have s3 := same_new (o := .lst (List.replicate k.toNat vs).flatten) np
    exact q _ _ (s1.trans (s2.trans s3)) (.lst ((hs.hid.same (s1.trans s2)).new np) upd_same ((Res.flat rv _).same s3))
end
/-! ### repr -/
mutual
def dataQ : Val → Option PyData
  | .non => some .none
  | .bl b => some (.bool b)
  | .int i => some (.int i)
  | .str x => some (.str x)
  | .lst xs => (dataQs xs).map .list
  | .tup xs => (dataQs xs).map .tuple
  | .dk0 => some (.dict [])
  | _ => none
def dataQs : List Val → Option (List PyData)
  | [] => some []
  | x :: xs => (dataQ x).bind fun d => (dataQs xs).bind fun ds => some (d :: ds)
end
mutual
/-- no list in it -/
def noL : Val → Bool
  | .lst _ => false
  | .tup xs => noLs xs
  | _ => true
def noLs : List Val → Bool
  | [] => true
  | x :: xs => noL x && noLs xs
end
def AllK (H : Hp) (as : List Addr) : Prop := ∀ b ∈ as, ∃ kvs, H b = some (.dK kvs)
section
variable {cm : Cm}
theorem Rep.dq {K : PySem.W.Frag} {P : Addr → Prop} {H : Hp} : ∀ {b : Bool} {vs : List V} {xs : List Val}, Rep cm P H b vs xs →
    (b = true → ∀ v x d, vs = [v] → xs = [x] → dataQ x = some d → ∃ as, Dq K H v d as ∧ (noL x = true → AllK H as)) ∧ (b = false → ∀ ds, dataQs xs = some ds → ∃ as, DqAll K H vs ds as ∧ (noLs xs = true → AllK H as)) := fun h => by
  have no : AllK H [] := fun b hb => nomatch hb
  induction h with
  | nil => exact ⟨(fun e => nomatch e), fun _ ds e => by rw [dataQs] at e; cases e; exact ⟨[], .nil, fun _ => no⟩⟩
  | cons r t i1 i2 =>
    refine ⟨(fun e => nomatch e), fun _ ds e => ?_⟩
    rw [dataQs] at e
    obtain ⟨d, e1, e⟩ := Option.bind_eq_some_iff.mp e
    obtain ⟨ds', e2, e⟩ := Option.bind_eq_some_iff.mp e
    cases e
    obtain ⟨as, h1, h2⟩ := i1.1 rfl _ _ _ rfl rfl e1
    obtain ⟨bs, h3, h4⟩ := i2.2 rfl _ e2
    refine ⟨as ++ bs, .cons h1 h3, fun c b hb => ?_⟩
    rw [noLs, Bool.and_eq_true] at c
    rcases List.mem_append.mp hb with z | z
    · exact h2 c.1 b z
    · exact h4 c.2 b z
  | non => exact ⟨fun _ v x d h1 h2 e => by cases h1; cases h2; rw [dataQ] at e; cases e; exact ⟨[], .non, fun _ => no⟩, (fun e => nomatch e)⟩
  | bl b => exact ⟨fun _ v x d h1 h2 e => by cases h1; cases h2; rw [dataQ] at e; cases e; exact ⟨[], .bl _, fun _ => no⟩, (fun e => nomatch e)⟩
  | int i => exact ⟨fun _ v x d h1 h2 e => by cases h1; cases h2; rw [dataQ] at e; cases e; exact ⟨[], .int _, fun _ => no⟩, (fun e => nomatch e)⟩
  | str z => exact ⟨fun _ v x d h1 h2 e => by cases h1; cases h2; rw [dataQ] at e; cases e; exact ⟨[], .str _, fun _ => no⟩, (fun e => nomatch e)⟩
  | lst n hh r ih =>
    refine ⟨fun _ v x d h1 h2 e => ?_, (fun e => nomatch e)⟩
    cases h1
    cases h2
    rw [dataQ] at e
    obtain ⟨ds, e1, rfl⟩ := Option.map_eq_some_iff.mp e
    obtain ⟨as, h3, _⟩ := ih.2 rfl _ e1
    exact ⟨_, .lst (.inl (.inl hh)) h3, fun c => by rw [noL] at c; cases c⟩
  | tup n hh r ih =>
    refine ⟨fun _ v x d h1 h2 e => ?_, (fun e => nomatch e)⟩
    cases h1
    cases h2
    rw [dataQ] at e
    obtain ⟨ds, e1, rfl⟩ := Option.map_eq_some_iff.mp e
    obtain ⟨as, h3, h4⟩ := ih.2 rfl _ e1
    exact ⟨as, .tup (.inl (.inl hh)) h3, fun c => h4 (by rw [noL] at c; exact c)⟩
  | dk0 n hh =>
    refine ⟨fun _ v x d h1 h2 e => ?_, (fun e => nomatch e)⟩
    cases h1
    cases h2
    rw [dataQ] at e
    cases e
    refine ⟨_, .dct hh, fun _ b hb => ?_⟩
    rcases List.mem_cons.mp hb with z | z
    · subst z
      exact ⟨_, hh⟩
    · cases z
  | _ =>
    refine ⟨fun _ v x d h1 h2 e => ?_, (fun e => nomatch e)⟩
    cases h1
    cases h2
    simp [dataQ] at e
def showC (d : PyData) : Bool := d.showable && decide (d.depth ≤ 60) && decide (d.shown.length ≤ sizeLine)
def reprF : List Val → Option Val
  | [x] => (dataQ x).bind fun d => if ((noL x || !d.hasDict) && showC d) = true then some (.str d.shown) else none
  | _ => none
theorem reprF_some {xs : List Val} {z : Val} (h : reprF xs = some z) : ∃ x d, xs = [x] ∧ dataQ x = some d ∧ (noL x = true ∨ d.hasDict = false) ∧ d.showable = true ∧ d.depth ≤ 60 ∧ d.shown.length ≤ sizeLine ∧ z = .str d.shown := by
  unfold reprF at h
  split at h
  case h_2 => cases h
  rename_i x
  obtain ⟨d, ed, h⟩ := Option.bind_eq_some_iff.mp h
  split at h
  case isFalse => cases h
  rename_i c
  cases h
  unfold showC at c
  simp only [Bool.and_eq_true, Bool.or_eq_true, decide_eq_true_eq, Bool.not_eq_true'] at c
  exact ⟨x, d, rfl, ed, c.1, c.2.1.1, c.2.1.2, c.2.2, rfl⟩
theorem cv_repr {K : PySem.W.Frag} : CaV cm (rRepr K) reprF := fun P xs z vs H Q hd e r q => by
  obtain ⟨x, d, rfl, ed, h1, h2, h3, h4, rfl⟩ := reprF_some e
  obtain ⟨v, rfl, rv⟩ := Res.one r
  obtain ⟨as, hq, hk⟩ := (Rep.dq (K := K) rv).1 rfl _ _ _ rfl rfl ed
  refine ⟨v, d, as, rfl, hq, h2, fun c b hb => ?_, h3, h4, q _ H (Same.refl H) (.str _)⟩
  rcases h1 with z | z
  · exact .inr (hk z b hb)
  · rw [z] at c
    cases c
end
end Up

namespace Up
open PySem PySem.Spec PyProof.Rows L2
/-- the places of the exceptions' classes: BadTalk 1, BadDoing 2, BadNumber 3, BadRun 4, BadCut 5, BadText 6, Waits 7, NothingLeft 8, TooGreat 9; TalkError 10 -/
abbrev xcs : List Nat := [1, 2, 3, 4, 5, 6, 7, 8, 9]
structure ExcT (K : PySem.W.Frag) (mg : Str → Option Value) (cm : Cm) : Prop where
  g1 : mg "BadTalk" = some (.ref (cm.cls 1))
  g2 : mg "BadDoing" = some (.ref (cm.cls 2))
  g3 : mg "BadNumber" = some (.ref (cm.cls 3))
  g4 : mg "BadRun" = some (.ref (cm.cls 4))
  g5 : mg "BadCut" = some (.ref (cm.cls 5))
  g6 : mg "BadText" = some (.ref (cm.cls 6))
  g7 : mg "Waits" = some (.ref (cm.cls 7))
  g8 : mg "NothingLeft" = some (.ref (cm.cls 8))
  g9 : mg "TooGreat" = some (.ref (cm.cls 9))
  g10 : mg "TalkError" = some (.ref (cm.cls 10))
  repr : mg "repr" = none
  VE : mg "ValueError" = none
  OE : mg "OverflowError" = none
  cl : ∀ c ∈ xcs, XClA K (cm.cls c)
  kit : ∀ c ∈ xcs, ∀ k ∈ xcs, PySem.W.kitOne K (.ref (cm.cls c)) (.ref (cm.cls k)) = some (decide (c = k))
  kT : ∀ c ∈ xcs, PySem.W.kitOne K (.ref (cm.cls c)) (.ref (cm.cls 10)) = some (decide (c ≠ 9))
  kV : ∀ c ∈ xcs, PySem.W.kitOne K (.ref (cm.cls c)) (.type "ValueError") = some (decide (c ≠ 9))
  kO : ∀ c ∈ xcs, PySem.W.kitOne K (.ref (cm.cls c)) (.type "OverflowError") = some (decide (c = 9))
  nP : ∀ c ∈ [1, 4, 6], PySem.W.findIn K (.ref (cm.cls c)) "place" = some none
  nV : ∀ c ∈ [2, 3, 5], PySem.W.findIn K (.ref (cm.cls c)) "value" = some none
  nL : ∀ c ∈ [7], PySem.W.findIn K (.ref (cm.cls c)) "letter" = some none
  nM : ∀ c ∈ [9], PySem.W.findIn K (.ref (cm.cls c)) "most" = some none
/-- where the classes stand -/
def clsN (a0 a1 a2 a3 a4 a5 a6 a7 a8 a9 a10 : Addr) : Nat → Addr
  | 1 => a1
  | 2 => a2
  | 3 => a3
  | 4 => a4
  | 5 => a5
  | 6 => a6
  | 7 => a7
  | 8 => a8
  | 9 => a9
  | 10 => a10
  | _ => a0
theorem xcs_all {p : Nat → Prop} (h1 : p 1) (h2 : p 2) (h3 : p 3) (h4 : p 4) (h5 : p 5) (h6 : p 6) (h7 : p 7) (h8 : p 8) (h9 : p 9) : ∀ c ∈ xcs, p c := fun c hc => by
  simp only [xcs, List.mem_cons, List.not_mem_nil, or_false] at hc
  rcases hc with rfl | rfl | rfl | rfl | rfl | rfl | rfl | rfl | rfl <;> assumption
theorem three_all {p : Nat → Prop} {a b c : Nat} (h1 : p a) (h2 : p b) (h3 : p c) : ∀ i ∈ [a, b, c], p i := fun i hi => by
  simp only [List.mem_cons, List.not_mem_nil, or_false] at hi
  rcases hi with rfl | rfl | rfl <;> assumption
theorem one_all {p : Nat → Prop} {a : Nat} (h1 : p a) : ∀ i ∈ [a], p i := fun i hi => by
  simp only [List.mem_cons, List.not_mem_nil, or_false] at hi
  subst hi
  exact h1
theorem kit_TY {K : PySem.W.Frag} {C : Addr} {T : String} {b : Bool} (m : PySem.W.kitMeta T = true) (h : PySem.W.subIn K (.ref C) (.type T) = some b) : PySem.W.kitOne K (.ref C) (.type T) = some b := by
  unfold PySem.W.kitOne PySem.W.kitCls
  rw [if_neg (by simp)]
  show (if PySem.W.kitMeta T = true then PySem.W.subIn K (.ref C) (.type T) else none) = some b
  rw [if_pos m]
  exact h
def oneC (k c : Nat) : Option Bool := if c ∈ xcs then some (decide (c = k)) else none
def talkC (c : Nat) : Option Bool := if c ∈ xcs then some (decide (c ≠ 9)) else none
theorem one_of {K : PySem.W.Frag} {mg : Str → Option Value} {cm : Cm} (T : ExcT K mg cm) {k : Nat} (hk : k ∈ xcs) : ∀ c b, oneC k c = some b → XClA K (cm.cls c) ∧ PySem.W.kitOne K (.ref (cm.cls c)) (.ref (cm.cls k)) = some b := fun c b h => by
  unfold oneC at h
  by_cases i : c ∈ xcs
  · rw [if_pos i] at h
    cases h
    exact ⟨T.cl c i, T.kit c i k hk⟩
  · rw [if_neg i] at h
    cases h
theorem talk_of {K : PySem.W.Frag} {mg : Str → Option Value} {cm : Cm} (T : ExcT K mg cm) : ∀ c b, talkC c = some b → XClA K (cm.cls c) ∧ PySem.W.kitOne K (.ref (cm.cls c)) (.ref (cm.cls 10)) = some b := fun c b h => by
  unfold talkC at h
  by_cases i : c ∈ xcs
  · rw [if_pos i] at h
    cases h
    exact ⟨T.cl c i, T.kT c i⟩
  · rw [if_neg i] at h
    cases h
theorem ve_of {K : PySem.W.Frag} {mg : Str → Option Value} {cm : Cm} (T : ExcT K mg cm) : ∀ c b, talkC c = some b → XClA K (cm.cls c) ∧ PySem.W.kitOne K (.ref (cm.cls c)) (.type "ValueError") = some b := fun c b h => by
  unfold talkC at h
  by_cases i : c ∈ xcs
  · rw [if_pos i] at h
    cases h
    exact ⟨T.cl c i, T.kV c i⟩
  · rw [if_neg i] at h
    cases h
theorem oe_of {K : PySem.W.Frag} {mg : Str → Option Value} {cm : Cm} (T : ExcT K mg cm) : ∀ c b, oneC 9 c = some b → XClA K (cm.cls c) ∧ PySem.W.kitOne K (.ref (cm.cls c)) (.type "OverflowError") = some b := fun c b h => by
  unfold oneC at h
  by_cases i : c ∈ xcs
  · rw [if_pos i] at h
    cases h
    exact ⟨T.cl c i, T.kO c i⟩
  · rw [if_neg i] at h
    cases h
theorem xf_of {K : PySem.W.Frag} {mg : Str → Option Value} {cm : Cm} (T : ExcT K mg cm) {L : List Nat} {fl : Str} (h : ∀ c ∈ L, c ∈ xcs) (n : ∀ c ∈ L, PySem.W.findIn K (.ref (cm.cls c)) fl = some none) : ∀ c ∈ L, XClA K (cm.cls c) ∧ PySem.W.findIn K (.ref (cm.cls c)) fl = some none :=
  fun c hc => ⟨T.cl c (h c hc), n c hc⟩
theorem bt_VE : bootBuiltins "ValueError" = some (.type "ValueError") := by decide +kernel
theorem bt_OE : bootBuiltins "OverflowError" = some (.type "OverflowError") := by decide +kernel
section
variable {X : Cx} {cm : Cm} {a b e : Expr} {f g : En → Option Val} {pos : Pos}
/-- a list with another one behind it, as a new list -/
def catLN (f g : En → Option Val) : En → Option (List Val) := fun env => (f env).bind fun x => (g env).bind fun y => match x, y with
  | .lst xs, .lst ys => if xs.length + ys.length ≤ most then some (xs ++ ys) else none
  | _, _ => none
theorem catLN_some {env : En} {zs : List Val} (h : catLN f g env = some zs) : ∃ xs ys, f env = some (.lst xs) ∧ g env = some (.lst ys) ∧ xs.length + ys.length ≤ most ∧ zs = xs ++ ys := by
  unfold catLN at h
  obtain ⟨x, ex, h⟩ := Option.bind_eq_some_iff.mp h
  obtain ⟨y, ey, h⟩ := Option.bind_eq_some_iff.mp h
  split at h
  case h_2 => cases h
  split at h
  case isFalse => cases h
  rename_i l
  cases h
  exact ⟨_, _, ex, ey, l, rfl⟩
theorem vn_catL (ha : VE X cm a f) (hb : VE X cm b g) : VN X cm (.BinOp a .Add b pos) (catLN f g) := (pe_op op_cat ha hb).weak fun σ H Q ⟨P, env, zs, hs, hf, q⟩ => by
  obtain ⟨xs, ys, ex, ey, l, rfl⟩ := catLN_some hf
  refine ⟨P, env, _, hs, ex, fun v H1 s1 r1 => ⟨P, env, _, hs.same s1, ey, fun u H2 s2 r2 => ?_⟩⟩
  obtain ⟨p1, vs, rfl, n1, k1, t1⟩ := Re.lst_ (Rep.same s2 r1)
  obtain ⟨p2, us, rfl, n2, k2, t2⟩ := Re.lst_ r2
  have l1 := Res.length t1
  have l2 := Res.length t2
  refine ⟨p1, p2, vs, us, rfl, rfl, k1, k2, by rw [l1, l2]; exact Nat.le_of_lt (most_line l), fun p np => ?_⟩
  have s3 : Same H2 (upd H2 p (.lst (vs ++ us))) := same_new np
  have s12 := s1.trans s2
  exact q p _ _ (s12.trans s3) (s12.free np) upd_same ((Res.append t1 t2 : Res cm P H2 _ _).move (fun b c => c.imp id fun z => by rw [z]; exact np) (.of s3)) (by rw [List.length_append]; exact l)
end
end Up

namespace Up
open PySem PySem.Spec PyProof.Rows L2
abbrev st__law_class : Stmt := (topS 34)
theorem ss__law_class : FnScope ["error", "rows", "words", "word", "holds"] ["error"] (defScope st__law_class) := ⟨rfl, rfl, rfl, by decide +kernel, rfl, by decide +kernel, by decide +kernel⟩
def g__law_class : En → Option Out := (seqG (newG 1 (stN [1] (fun env => ((consF (tupF (consF (cst (.str "BadTalk")) (consF (isxF (oneC 1) (getE 0)) noF))) (consF (tupF (consF (cst (.str "BadDoing")) (consF (isxF (oneC 2) (getE 0)) noF))) noF)) env).bind fun xs => if xs.length ≤ most then some xs else none))) (seqG (newG 1 (boN (catLN (getE 1) (lstF (consF (tupF (consF (cst (.str "BadNumber")) (consF (isxF (oneC 3) (getE 0)) noF))) (consF (tupF (consF (cst (.str "BadRun")) (consF (isxF (oneC 4) (getE 0)) noF))) noF)))))) (seqG (newG 1 (boN (catLN (getE 1) (lstF (consF (tupF (consF (cst (.str "BadCut")) (consF (isxF (oneC 5) (getE 0)) noF))) (consF (tupF (consF (cst (.str "BadText")) (consF (isxF (oneC 6) (getE 0)) noF))) noF)))))) (seqG (newG 1 (boN (catLN (getE 1) (lstF (consF (tupF (consF (cst (.str "Waits")) (consF (isxF (oneC 7) (getE 0)) noF))) (consF (tupF (consF (cst (.str "NothingLeft")) (consF (isxF (oneC 8) (getE 0)) noF))) noF)))))) (seqG (appG 1 (stF [1] (tupF (consF (cst (.str "TooGreat")) (consF (isxF (oneC 9) (getE 0)) noF))))) (seqG (setG 2 (fun env => ((boN (lcF (itL (getE 1)) (setTup 2 (setCo (setV 3) (setCo (setV 4) setNo))) (tst (getE 4)) (getE 3) [3, 4])) env).map .lst)) (seqG (ifG (tst (bin2 (eqF true) (appF lenF (consF (getE 2) noF)) (cst (.int 1)))) (retG (tupF (consF (cst (.str "other")) noF))) nilG) (seqG (ifG (tst (bin2 (inF false) (bin2 ixL (getE 2) (cst (.int 0))) (tupF (consF (cst (.str "BadTalk")) (consF (cst (.str "BadRun")) (consF (cst (.str "BadText")) noF)))))) (retG (tupF (consF (bin2 ixL (getE 2) (cst (.int 0))) (consF (xfF [1, 4, 6] "place" (getE 0)) noF)))) nilG) (seqG (ifG (tst (bin2 (inF false) (bin2 ixL (getE 2) (cst (.int 0))) (tupF (consF (cst (.str "BadDoing")) (consF (cst (.str "BadNumber")) (consF (cst (.str "BadCut")) noF)))))) (retG (tupF (consF (bin2 ixL (getE 2) (cst (.int 0))) (consF (xfF [2, 3, 5] "value" (getE 0)) noF)))) nilG) (seqG (ifG (tst (bin2 (eqF false) (bin2 ixL (getE 2) (cst (.int 0))) (cst (.str "NothingLeft")))) (retG (tupF (consF (bin2 ixL (getE 2) (cst (.int 0))) noF))) nilG) (retG (tupF (consF (bin2 ixL (getE 2) (cst (.int 0))) (consF (iteF (tst (bin2 (eqF false) (bin2 ixL (getE 2) (cst (.int 0))) (cst (.str "Waits")))) (xfF [7] "letter" (getE 0)) (xfF [9] "most" (getE 0))) noF))))))))))))))
def f__law_class : List Val → Option Val := runV 5 1 g__law_class
theorem df__law_class {P : Program} {w : World} {K : PySem.W.Frag} {mg : Str → Option Value} {base : Heap} {cm : Cm} {f : Addr} {fd : FuncData} (D : Dd K mg "_law_class" st__law_class ["error"] f fd) (T : TxtV K mg cm) (EX : ExcT K mg cm) : Df P w K mg base cm "_law_class" 1 ["error"] f__law_class f fd :=
  okD [1] D ss__law_class (by decide) fun cdv A outer s H E hr hu => (sv_cons (sv_new (i := 1) ss__law_class.nd rfl (Or.inl rfl) (by decide) (vn_lst (va_cons (ve_tup (va_cons ve_str (va_cons (ve_isx (S := oneC 1) (.own (cm.cls 1)) (one_of EX (by decide)) (pe_glob (v := .ref (cm.cls 1)) rfl EX.g1 rfl) (by rfl) T.isinstance bb_isinstance (vv 0)) va_nil))) (va_cons (ve_tup (va_cons ve_str (va_cons (ve_isx (S := oneC 2) (.own (cm.cls 2)) (one_of EX (by decide)) (pe_glob (v := .ref (cm.cls 2)) rfl EX.g2 rfl) (by rfl) T.isinstance bb_isinstance (vv 0)) va_nil))) va_nil))) sn_st) (sv_cons (sv_new (i := 1) ss__law_class.nd rfl (Or.inl rfl) (by decide) (vn_catL (vv 1) (ve_lst (va_cons (ve_tup (va_cons ve_str (va_cons (ve_isx (S := oneC 3) (.own (cm.cls 3)) (one_of EX (by decide)) (pe_glob (v := .ref (cm.cls 3)) rfl EX.g3 rfl) (by rfl) T.isinstance bb_isinstance (vv 0)) va_nil))) (va_cons (ve_tup (va_cons ve_str (va_cons (ve_isx (S := oneC 4) (.own (cm.cls 4)) (one_of EX (by decide)) (pe_glob (v := .ref (cm.cls 4)) rfl EX.g4 rfl) (by rfl) T.isinstance bb_isinstance (vv 0)) va_nil))) va_nil)))) sn_bo) (sv_cons (sv_new (i := 1) ss__law_class.nd rfl (Or.inl rfl) (by decide) (vn_catL (vv 1) (ve_lst (va_cons (ve_tup (va_cons ve_str (va_cons (ve_isx (S := oneC 5) (.own (cm.cls 5)) (one_of EX (by decide)) (pe_glob (v := .ref (cm.cls 5)) rfl EX.g5 rfl) (by rfl) T.isinstance bb_isinstance (vv 0)) va_nil))) (va_cons (ve_tup (va_cons ve_str (va_cons (ve_isx (S := oneC 6) (.own (cm.cls 6)) (one_of EX (by decide)) (pe_glob (v := .ref (cm.cls 6)) rfl EX.g6 rfl) (by rfl) T.isinstance bb_isinstance (vv 0)) va_nil))) va_nil)))) sn_bo) (sv_cons (sv_new (i := 1) ss__law_class.nd rfl (Or.inl rfl) (by decide) (vn_catL (vv 1) (ve_lst (va_cons (ve_tup (va_cons ve_str (va_cons (ve_isx (S := oneC 7) (.own (cm.cls 7)) (one_of EX (by decide)) (pe_glob (v := .ref (cm.cls 7)) rfl EX.g7 rfl) (by rfl) T.isinstance bb_isinstance (vv 0)) va_nil))) (va_cons (ve_tup (va_cons ve_str (va_cons (ve_isx (S := oneC 8) (.own (cm.cls 8)) (one_of EX (by decide)) (pe_glob (v := .ref (cm.cls 8)) rfl EX.g8 rfl) (by rfl) T.isinstance bb_isinstance (vv 0)) va_nil))) va_nil)))) sn_bo) (sv_cons (sv_app0 (i := 1) (ps_expr (pe_bm PySem.F.plainAttrs_list PySem.F.slot_list_append PySem.F.type_list_append mt_append (pv 1) (pa_cons (ve_tup (va_cons ve_str (va_cons (ve_isx (S := oneC 9) (.own (cm.cls 9)) (one_of EX (by decide)) (pe_glob (v := .ref (cm.cls 9)) rfl EX.g9 rfl) (by rfl) T.isinstance bb_isinstance (vv 0)) va_nil))) pa_nil))) (by decide) sr_st) (sv_cons (sv_setLc (i := 2) (own := [("word", 3), ("holds", 4)]) rfl ss__law_class.nd rfl rfl (sw_true rfl rfl rfl (by decide +kernel)) (vi_list (vv 1)) (blkOk_by (own := [("word", 3), ("holds", 4)]) (N := ["error", "rows", "words", "word", "holds"]) (sc := defScope st__law_class) (by decide +kernel)) (fun _ _ _ _ _ => (pg_tupK (K := K) (n := 2) rfl (by rfl) (pgs_cons (pg_name (i := 3) ss__law_class.nd rfl (Or.inl rfl)) (pgs_cons (pg_name (i := 4) ss__law_class.nd rfl (Or.inl rfl)) pgs_nil)))) (fun _ _ _ _ _ => (pts_one (vt_val (vv 4)))) (fun _ _ _ _ _ => (vv 3)) (tg_tup (K := K) (tgs_cons tg_name (tgs_cons tg_name tgs_nil))) (by decide) tt_of (by decide) sn_bo) (sv_cons (sv_if (vt_cmp (op_neD hu) ov_ne (ve_callB call_len_seq cv_len (by rfl) T.len PySem.boot_len (va_cons (vv 2) va_nil)) ve_int (nomark _)) (sv_one (sv_ret (ve_tup (va_cons ve_str va_nil)))) sv_nil) (sv_cons (sv_if (vt_cmp op_in_seq (ov_in (neg := false)) (ve_ix ix_list ov_ixL (vv 2) ve_int (fun _ _ => rfl)) (ve_tup (va_cons ve_str (va_cons ve_str (va_cons ve_str va_nil)))) (by rfl)) (sv_one (sv_ret (ve_tup (va_cons (ve_ix ix_list ov_ixL (vv 2) ve_int (fun _ _ => rfl)) (va_cons (ve_xf (L := [1, 4, 6]) (xf_of EX (by decide) EX.nP) (vv 0)) va_nil))))) sv_nil) (sv_cons (sv_if (vt_cmp op_in_seq (ov_in (neg := false)) (ve_ix ix_list ov_ixL (vv 2) ve_int (fun _ _ => rfl)) (ve_tup (va_cons ve_str (va_cons ve_str (va_cons ve_str va_nil)))) (by rfl)) (sv_one (sv_ret (ve_tup (va_cons (ve_ix ix_list ov_ixL (vv 2) ve_int (fun _ _ => rfl)) (va_cons (ve_xf (L := [2, 3, 5]) (xf_of EX (by decide) EX.nV) (vv 0)) va_nil))))) sv_nil) (sv_cons (sv_if (vt_cmp (op_eqD hu) ov_eq (ve_ix ix_list ov_ixL (vv 2) ve_int (fun _ _ => rfl)) ve_str (nomark _)) (sv_one (sv_ret (ve_tup (va_cons (ve_ix ix_list ov_ixL (vv 2) ve_int (fun _ _ => rfl)) va_nil)))) sv_nil) (sv_one (sv_ret (ve_tup (va_cons (ve_ix ix_list ov_ixL (vv 2) ve_int (fun _ _ => rfl)) (va_cons (ve_ite (vt_cmp (op_eqD hu) ov_eq (ve_ix ix_list ov_ixL (vv 2) ve_int (fun _ _ => rfl)) ve_str (nomark _)) (ve_xf (L := [7]) (xf_of EX (by decide) EX.nL) (vv 0)) (ve_xf (L := [9]) (xf_of EX (by decide) EX.nM) (vv 0))) va_nil)))))))))))))))
end Up

namespace Up
open PySem PySem.Spec PyProof.Rows L2 PySem.SeqAt
def oddT : List String := ["NoneType", "int", "str", "list", "tuple", "dict"]
/-- what of the text the class Talk has, beside values of the types above -/
structure TalkX (K : PySem.W.Frag) (C fE : Addr) : Prop extends TalkQ K C fE where
  kit : ∀ T ∈ oddT, PySem.W.kitOne K (.type T) (.ref C) = some false
  sub : ∀ T ∈ oddT, PySem.W.subIn K (.type T) (.ref C) = some false
  dc : ∀ T ∈ oddT, Decl K C T
def oddB : Val → Option String
  | .non => some "NoneType"
  | .int _ => some "int"
  | .str _ => some "str"
  | .lst _ => some "list"
  | .tup _ => some "tuple"
  | .dk0 => some "dict"
  | _ => none
theorem oddB_re {K : PySem.W.Frag} {cm : Cm} {P : Addr → Prop} {H : Hp} {v : V} {x : Val} {t : String} (h : Re cm P H v x) (e : oddB x = some t) : t ∈ oddT ∧ TyB K H v t := by
  cases h <;> cases e
  · exact ⟨by decide, .non⟩
  · exact ⟨by decide, .int _⟩
  · exact ⟨by decide, .str _⟩
  · exact ⟨by decide, .lst (.inl (.inl (by assumption)))⟩
  · exact ⟨by decide, .tup (.inl (.inl (by assumption)))⟩
  · exact ⟨by decide, .dK (by assumption)⟩
theorem oddB_tx {K : PySem.W.Frag} {cm : Cm} {P : Addr → Prop} {H : Hp} {v : V} {x : Val} {t : String} (h : Re cm P H v x) (e : oddB x = some t) : TyX K H v (.type t) := by
  refine tyOf_re h ?_
  cases x <;> cases e <;> rfl
def oddF (b : Bool) (x y : Val) : Option Val := (rowsFld x).bind fun _ => (oddB y).map fun _ => .bl b
def oddR (b : Bool) (x y : Val) : Option Val := oddF b y x
theorem oddF_some {b : Bool} {x y z : Val} (h : oddF b x y = some z) : ∃ g t, rowsFld x = some g ∧ oddB y = some t ∧ z = .bl b := by
  unfold oddF at h
  obtain ⟨g, eg, h⟩ := Option.bind_eq_some_iff.mp h
  obtain ⟨t, et, rfl⟩ := Option.map_eq_some_iff.mp h
  exact ⟨g, t, eg, et, rfl⟩
section
variable {X : Cx} {CX : CXT} {cm : Cm} {C f : Addr} {n : Nat} {sp : Sp} {E : XK}
/-- x != y, x an instance of the class at C, y of a builtin type -/
def rNeX (K : PySem.W.Frag) (C : Addr) (sp : Sp) (E : XK) : R2 := fun x y H Q => ∃ (a dx : Addr) (fs : List (Str × V)) (T : String), x = .ref a ∧ H a = some (.ins C dx fs) ∧ TyB K H y T ∧ PySem.W.subIn K (.type T) (.ref C) = some false ∧ sp [x, y] H (fun v H' => ∃ r : Bool, v = .bl r ∧ Q (.bl (!r)) H') E
theorem op_neX (hs : PySem.W.findIn X.K (.ref C) "__eq__" = some (some (.ref f))) (hf : PySem.W.isFn X.K (.ref f) = true) (hne : PySem.W.findIn X.K (.ref C) "__ne__" = some (some (.builtin "object.__ne__"))) (hmo : PySem.W.mroIn X.K C (.type "object") = some true)
    (F : FnR X.prog X.w X.K X.mg X.base CX n f sp) (hr : Room (n + 1) X.A) (hx : Passes CX X E) : OpR X (compareOp .NotEq) (rNeX X.K C sp E) := by
  intro pins s σ H x y v u Q I rx ry h
  obtain ⟨a, dx, fs, T, rfl, ha, ht, hsb, q⟩ := h
  obtain rfl : v = Value.ref a := rx
  obtain ⟨mA, O, _⟩ := ins_get I.hok ha
  obtain ⟨od, J, _⟩ := O.look
  have hT := ht.is I ry
  have LT : PySem.W.Looks (model X.prog X.w) s.heap (typeOf u) (.type T) := looks_type hT
  show wpAny (model X.prog X.w) X.A (richCompare .NotEq (.ref a) u) (EP X pins σ Q) X.xe s
  unfold richCompare
  rw [oneThing_ref]
  refine wpAny_holding (wpAny_bind (wpAny_cRoomFor hr.units0 ?_))
  refine wpAny_bind (J.type.here (wpAny_bind (LT.here ?_)))
  have ne : ((Value.ref C) != (Value.type T)) = true := rfl
  simp only [ne, if_true]
  refine wpAny_bind ((PySem.W.looks_subIn I.kIn hsb).here ?_)
  simp only [Bool.false_eq_true, if_false]
  refine wpAny_bind ?_
  have sub : PySem.W.Looks (model X.prog X.w) s.heap (isInstance (.ref a) (.type "object")) true := J.type.andThen (PySem.W.looks_mroIn I.kIn hmo)
  have hu := hr.units0
  have one : wpAny (model X.prog X.w) X.A (tryCompare (.ref a) (cmpInfo .NotEq).2.1 u) (fun r s' => ∃ z, r = some z ∧ EP X pins σ Q z s') X.xe s := by
    unfold tryCompare
    have st : wpAny (model X.prog X.w) X.A (callSpecialIfBound? (.ref a) (cmpInfo .NotEq).2.1 [u]) (fun o s' => ∃ z, o = some (.bool z) ∧ EP X pins σ Q (.bool z) s') X.xe s := by
      simp only [callSpecialIfBound?, bindSpecialIfBound?]
      refine wpAny_holding (wpAny_bind (wpAny_bind (wpAny_bind (J.type.here ((PySem.W.looks_findIn I.kIn hne).here ?_)))))
      simp only [PySem.F.cmp_object.ne.bind]
      have fin : wpAny (model X.prog X.w) X.A (call (.builtin "object.__ne__") ([.ref a] ++ [u]) >>= fun v => pure (some v)) (fun o s' => ∃ z, o = some (.bool z) ∧ EP X pins σ Q (.bool z) s') X.xe s := by
        refine wpAny_bind (wpAny_call (codeAny_call_builtin PySem.F.cmp_object.ne.plain PySem.F.cmpEntry_ne (PySem.W.check_slot (self := .ref a) (rest := [u]) (kw := []) PySem.F.cmpKind_ne PySem.F.cmpSplit_ne sub (PySem.F.cmpArgs_ne _ _) ?_)))
        obtain ⟨hp, g, d, tk, os⟩ := s
        unfold Builtin.«object.__ne__»
        have eq1 : wpAny (model X.prog X.w) X.A.in1 (callSpecialIfBound? (.ref a) "__eq__" [u]) (fun o s' => ∃ r : Bool, o = some (.bool r) ∧ EP X pins σ Q (.bool (!r)) s') X.xe ⟨hp, g, d, tk, os⟩ := by
          refine PySem.W.ifBound_K I.kIn J hs hf (wpAny_mono (wpAny_call (runR_in1 F hr.in1 hx I (us := [.ref a, u]) (vs := [.ref a, y]) (.cons rfl (.cons ry .nil)) q)) (fun w s' z => ?_) fun _ _ e => e)
          obtain ⟨z', H', I', rz, r, ez, qz⟩ := z
          subst ez
          obtain rfl : w = Value.bool r := rz
          exact ⟨r, rfl, .bl (!r), H', I', rfl, qz⟩
        have hu1 : X.A.in1.units < cLine := hr.in1.units0
        repeat (first | with_reducible refine wpAny_cRoomFor hu1 ?_ | refine wpAny_bind (m := callSpecialIfBound? (.ref a) (Str.ofString "__eq__") [u]) (wpAny_mono eq1 (fun o s' hz => ?_) fun _ _ e => e) | wp_step)
        obtain ⟨r, rfl, hz⟩ := hz
        refine wpAny_bind (m := truthy (.bool r)) (wpAny_truthy_bool ?_)
        exact wpAny_pure (wpAny_pure ⟨_, rfl, hz⟩)
      refine wpAny_bind (wpAny_askSetting (wpAny_ite ?_))
      split
      · exact wpAny_bind (wpAny_pure (wpAny_pure fin))
      · exact wpAny_tryCatch (wpAny_bind (wpAny_pure (wpAny_pure fin)))
    refine wpAny_bind (wpAny_mono st (fun o s' z => ?_) fun _ _ e => e)
    obtain ⟨z, rfl, hz⟩ := z
    exact wpAny_pure ⟨_, rfl, hz⟩
  refine wpAny_mono one (fun r s' z => ?_) fun _ _ e => e
  obtain ⟨z, rfl, hz⟩ := z
  exact wpAny_pure hz
theorem odd_sp {K : PySem.W.Frag} {fE : Addr} {P : Addr → Prop} {H : Hp} {a dx : Addr} {fs : List (Str × V)} {gss : List (List Dg)} {y : V} {t : String} {E : XK} {Q : VK} (T : TalkX K C fE) (R : RowsOf H a C gss) (ht : t ∈ oddT) (ty : TyX K H y (.type t)) (q : Q (.bl false) H) : spTEq K C [.ref a, y] H Q E :=
  ⟨a, y, gss, rfl, R, .inl ⟨.type t, ty, T.kit t ht, q⟩⟩
theorem ov_eqX {K : PySem.W.Frag} {fE : Addr} {E : XK} (hC : cm.cls 0 = C) (T : TalkX K C fE) : OpV cm (rEqO K C (spTEq K C) E) (oddF false) := fun P x y z v u H Q e rx ry q => by
  obtain ⟨g, t, eg, et, rfl⟩ := oddF_some e
  obtain ⟨a, dx, fs, rfl, ha, R⟩ := rowsOf_re rx eg
  obtain ⟨ht, ty⟩ := oddB_re (K := K) ry et
  rw [hC] at ha R
  refine ⟨a, dx, fs, .type t, rfl, ha, .b ty, ?_, a, u, g, rfl, R, .inl ⟨.type t, ?_, T.kit t ht, q _ H (Same.refl H) (.bl _)⟩⟩
  · unfold PySem.W.notFirst
    rw [T.sub t ht]
    rfl
  · exact oddB_tx ry et
theorem ov_eqXR {K : PySem.W.Frag} {fE : Addr} {E : XK} (hC : cm.cls 0 = C) (T : TalkX K C fE) : OpV cm (rEqR K C (spTEq K C) E) (oddR false) := fun P x y z v u H Q e rx ry q => by
  obtain ⟨g, t, eg, et, rfl⟩ := oddF_some e
  obtain ⟨a, dx, fs, rfl, ha, R⟩ := rowsOf_re ry eg
  obtain ⟨ht, ty⟩ := oddB_re (K := K) rx et
  rw [hC] at ha R
  exact ⟨a, dx, fs, t, rfl, ha, ty, T.dc t ht, a, v, g, rfl, R, .inl ⟨.type t, oddB_tx rx et, T.kit t ht, q _ H (Same.refl H) (.bl _)⟩⟩
theorem ov_neX {K : PySem.W.Frag} {fE : Addr} {E : XK} (hC : cm.cls 0 = C) (T : TalkX K C fE) : OpV cm (rNeX K C (spTEq K C) E) (oddF true) := fun P x y z v u H Q e rx ry q => by
  obtain ⟨g, t, eg, et, rfl⟩ := oddF_some e
  obtain ⟨a, dx, fs, rfl, ha, R⟩ := rowsOf_re rx eg
  obtain ⟨ht, ty⟩ := oddB_re (K := K) ry et
  rw [hC] at ha R
  exact ⟨a, dx, fs, t, rfl, ha, ty, T.sub t ht, a, u, g, rfl, R, .inl ⟨.type t, oddB_tx ry et, T.kit t ht, false, rfl, q _ H (Same.refl H) (.bl _)⟩⟩
end
/-- statements that are functions, begun from names' values -/
theorem stv_mk {cm : Cm} {P : Addr → Prop} {ow : List Nat} {env : En} {σ : L2.St} {H : Hp} (sl : Slots cm P H σ env) (ho : ∀ i ∈ ow, env[i]? = some none) : StV cm P ow H env σ H := by
  have no : ∀ i ∈ ow, ∀ x, env[i]? ≠ some (some x) := fun i hi x e => by
    rw [ho i hi] at e
    cases e
  have wi : ∀ l : List Nat, (∀ i ∈ l, env[i]? = some none) → wipeE env l = env := by
    intro l
    induction l with
    | nil => exact fun _ => rfl
    | cons i l ih =>
      intro h
      show (wipeE env l).set i none = env
      rw [ih fun j hj => h j (List.mem_cons_of_mem _ hj)]
      have e := h i (List.mem_cons_self ..)
      refine List.ext_getElem? fun j => ?_
      by_cases c : i = j
      · subst c
        rw [List.getElem?_set_self (List.getElem?_eq_some_iff.mp e).1, e]
      · rw [List.getElem?_set_ne c]
  have eo : Ow P ow env σ = P := funext fun a => propext ⟨fun c => c.elim id fun ⟨i, hi, ⟨x, hx⟩, _⟩ => absurd hx (no i hi x), .inl⟩
  exact ⟨by rw [eo, wi ow ho]; exact sl, fun i hi x e => absurd e (no i hi x), fun i hi j hj a ⟨x, hx⟩ => absurd hx (no i hi x), sl.len, Same.refl H⟩
theorem StV.val {cm : Cm} {P : Addr → Prop} {ow : List Nat} {H0 H : Hp} {env : En} {σ : L2.St} (h : StV cm P ow H0 env σ H) {i : Nat} {x : Val} (e : env[i]? = some (some x)) (n : i ∉ ow) : ∃ v, σ[i]? = some (some v) ∧ Re cm P H v x := by
  have wi : ∀ l : List Nat, i ∉ l → (wipeE env l)[i]? = env[i]? := by
    intro l
    induction l with
    | nil => exact fun _ => rfl
    | cons j l ih =>
      intro hn
      show ((wipeE env l).set j none)[i]? = env[i]?
      rw [List.getElem?_set_ne (fun z => hn (by rw [z]; exact List.mem_cons_self ..)), ih fun z => hn (List.mem_cons_of_mem _ z)]
  obtain ⟨v, h1, h2⟩ := h.sl.at_ i x (by rw [wi ow n]; exact e)
  exact ⟨v, h1, h2.less fun a c => .inl c⟩
/-- a new list, not where the modules stand -/
theorem pe_lstS {X : Cx} {es : List Expr} {t : TA} {pos : Pos} (h : PA X es t) : PE X (.List es pos) (fun σ H Q => t σ H fun xs H1 => xs.length ≤ sizeLine ∧ ∀ p, H1 p = none → p ≠ sysModules → Q (.ref p) (upd H1 p (.lst xs))) := by
  refine ⟨fun pins s σ H Q I hq => wpAny_List_spliced (thn (h.run pos pins s σ H _ I hq) fun us s1 hh => ?_)⟩
  obtain ⟨xs, H1, I1, r, z, q⟩ := hh
  have f1 : H1 s1.heap.objs.size = none := I1.hok.fresh (Nat.le_refl _)
  have f2 : s1.heap.objs.size ≠ sysModules := fun c => absurd I1.big (by rw [c]; exact Nat.lt_irrefl _)
  refine ⟨by rw [← r.length]; exact z, .ref s1.heap.objs.size, upd H1 s1.heap.objs.size (.lst xs), ?_, rfl, q _ f1 f2⟩
  exact I1.laid (t' := s1.toks) (fun b u e => Heap.get?_push_of_some _ e) (Nat.le_refl _) ⟨z, us, 0, r, Heap.get?_push_size _ rfl⟩
/-- a list so many times, not where the modules stand -/
def rRepS : R2 := fun x y H Q => ∃ l k xs, x = .ref l ∧ y = .int k ∧ H l = some (.lst xs) ∧ 0 ≤ k ∧ k < 1000 ∧ xs.length * k.toNat ≤ sizeLine ∧
  ∀ p, H p = none → p ≠ sysModules → Q (.ref p) (upd H p (.lst (List.replicate k.toNat xs).flatten))
theorem op_repS {X : Cx} : OpR X (binaryOp .Mult) rRepS := by
  intro pins s σ H x y v u Q I rx ry h
  obtain ⟨l, k, xs, rfl, rfl, hH, k1, k2, hz, q⟩ := h
  cases rx
  obtain ⟨t, rfl⟩ := ry
  obtain ⟨z, its, n, r, hl, e⟩ := I.lstM hH
  have b1 : its.toArray.size * k.toNat ≤ sizeLine := by rw [List.size_toArray, ← hl]; exact hz
  have b2 : (sizeLine : Nat) ≤ (2 ^ 63 - 1) / 8 := by decide
  have b3 : Builtin.List.listFitsIndex k = true := fitsIndex_both (by omega) (by omega)
  have b4 : List.foldl (fun x1 x2 => x1 ++ x2) #[] (List.replicate (if its.toArray.isEmpty = true then 0 else k.toNat) its.toArray) = (List.replicate k.toNat its).flatten.toArray := by
    have f0 : ∀ m : Nat, List.foldl (fun x1 x2 => x1 ++ x2) #[] (List.replicate m its.toArray) = (List.replicate m its).flatten.toArray := fun m => by
      have q0 := foldl_rep its m []
      rwa [List.nil_append] at q0
    rw [f0]
    cases its with
    | cons a r' => rw [if_neg (by simp)]
    | nil => simp
  refine wpAny_binaryOp_repeat_ref (T := "list") (U := "int") (by decide) ⟨_, e, rfl⟩ (fun s' => typeIs_int s' k t) noFill_list_mul F.fills_int_mul F.slot_int_rmul repeat_list F.slot_int_index.lookup ?_
  refine call_meets F.slot_int_rmul (typeIs_int s k t) F.entry_int_rmul (F.args_int_rmul_2 _ _) (int___rmul___int_list k t l its.toArray n) ⟨e, rfl, ⟨_, e, rfl⟩, ?_⟩
  refine call_meets F.slot_list_mul ⟨_, e, rfl⟩ F.entry_list_mul (F.args_list_mul_2 _ _) (AutoListH.list___mul___list_int_3 l its.toArray n k t (by rw [b3]; simp) (by omega) (by rw [notLongL b1]; simp)) ⟨e, ?_⟩
  rw [b4]
  refine ⟨.ref _, _, I.lnew (t' := s.toks) (r.rep k.toNat) (by rw [PyProof.Rows.lm_len_rep_flat, Nat.mul_comm]; exact hz), rfl, q _ I.fresh ?_⟩
  exact fun c => absurd I.big (by rw [c]; exact Nat.lt_irrefl _)
end Up

namespace Up
open PySem PySem.Spec PyProof.Rows L2
theorem FnOk.any {P : Program} {w : World} {K : PySem.W.Frag} {mg : Str → Option Value} {base : Heap} {CX : CXT} {k : Nat} {f : Addr} {fd : FuncData} {ps : List Str} {α : Type} {sp : α → Sp} (F : ∀ a, FnOk P w K mg base CX k f fd ps (sp a)) :
    FnOk P w K mg base CX k f fd ps fun vs H Q E => ∃ a, sp a vs H Q E :=
  ⟨fun vs H Q E ⟨a, h⟩ => (F a).len vs H Q E h, fun A outer s H ar us vs Q E hr e0 hb rv ⟨a, h⟩ => (F a).run A outer s H ar us vs Q E hr e0 hb rv h⟩
theorem MAt.ne {H : Hp} {m g : Addr} {b : Nat} (M : MAt H m g b) {p : Addr} (n : H p = none) : p ≠ m ∧ p ≠ g := ⟨fun c => M.m_some (c ▸ n), fun c => M.g_some (c ▸ n)⟩
/-- all but m and g -/
def hide (m g : Addr) (H : Hp) : Hp := fun b => if b = m ∨ b = g then none else H b
theorem hide_at {m g b : Addr} {H : Hp} {o : HO} (h : H b = some o) (n : b ≠ m ∧ b ≠ g) : hide m g H b = some o := by
  unfold hide
  rw [if_neg (fun c => c.elim n.1 n.2)]
  exact h
theorem hide_of {m g b : Addr} {H : Hp} {o : HO} (h : hide m g H b = some o) : (b ≠ m ∧ b ≠ g) ∧ H b = some o := by
  unfold hide at h
  by_cases c : b = m ∨ b = g
  · rw [if_pos c] at h
    cases h
  · rw [if_neg c] at h
    exact ⟨⟨fun z => c (.inl z), fun z => c (.inr z)⟩, h⟩
theorem hide_same {m g : Addr} {H : Hp} : Same (hide m g H) H := fun b o e => (hide_of e).2
theorem Same.hide {m g : Addr} {H H' : Hp} (s : Same H H') : Same (hide m g H) (hide m g H') := fun b o e => hide_at (s _ _ (hide_of e).2) (hide_of e).1
theorem But.hide {m g : Addr} {H H' : Hp} (B : But m g H H') : Same (hide m g H) (hide m g H') := fun b o e => hide_at (B _ _ (hide_of e).2 (hide_of e).1.1 (hide_of e).1.2) (hide_of e).1
theorem MAt.tup {H : Hp} {m g : Addr} {b : Nat} (M : MAt H m g b) {p : Addr} {xs : List V} (h : H p = some (.tup xs)) : p ≠ m ∧ p ≠ g := by
  obtain ⟨c, cs, gs, n, h1, h2, h3, h4, _⟩ := M.ex
  exact ⟨ne_of h h1 (by intro z; cases z), ne_of h h4 (by intro z; cases z)⟩
theorem MAt.ins {H : Hp} {m g : Addr} {b : Nat} (M : MAt H m g b) {p C d : Addr} {fs : List (Str × V)} (h : H p = some (.ins C d fs)) : p ≠ m ∧ p ≠ g := by
  obtain ⟨c, cs, gs, n, h1, h2, h3, h4, _⟩ := M.ex
  exact ⟨ne_of h h1 (by intro z; cases z), ne_of h h4 (by intro z; cases z)⟩
end Up

namespace Up
open PySem PySem.Spec PyProof.Rows L2
/-! what laws that draw begin with -/
abbrev hm (m g : Addr) : Addr → Prop := fun a => a = m ∨ a = g
theorem MAt.hid {H : Hp} {m g : Addr} {b : Nat} (M : MAt H m g b) : Hid (hm m g) H := fun a c => by
  obtain ⟨c', cs, gs, n, h1, h2, h3, h4, h5, h6⟩ := M.ex
  rcases c with rfl | rfl
  · exact ⟨_, h1, fun vs z => by cases z⟩
  · exact ⟨_, h4, fun vs z => by cases z⟩
theorem MAt.chgN {H : Hp} {m g p : Addr} {b : Nat} {xs : List V} {o : HO} (M : MAt H m g b) (hp : H p = some (.lst xs)) (l : xs.length ≠ 64) (np : p ≠ m ∧ p ≠ g) : MAt (upd H p o) m g b := by
  obtain ⟨c, cs, gs, n, h1, h2, h3, h4, h5, h6⟩ := M.ex
  have cp : c ≠ p := fun z => by
    subst z
    rw [h2] at hp
    cases hp
    apply l
    unfold iL
    rw [List.length_map]
    exact h3
  exact ⟨c, cs, gs, n, by rw [upd_ne (fun z => np.1 z.symm)]; exact h1, by rw [upd_ne cp]; exact h2, h3, by rw [upd_ne (fun z => np.2 z.symm)]; exact h4, h5, h6⟩
theorem But.keep {m g : Addr} {H H' : Hp} (B : But m g H H') : Keep (hm m g) H H' := fun b o e n => B b o e (fun z => n (.inl z)) fun z => n (.inr z)
def SlR (cm : Cm) (P : Addr → Prop) (H : Hp) : List (Option Val) → List (Option V) → Prop
  | [], [] => True
  | none :: env, _ :: σ => SlR cm P H env σ
  | some x :: env, some v :: σ => Re cm P H v x ∧ SlR cm P H env σ
  | _, _ => False
theorem slots_mk {cm : Cm} {P : Addr → Prop} {H : Hp} (hd : Hid P H) : ∀ {env : List (Option Val)} {σ : List (Option V)}, SlR cm P H env σ → Slots cm P H σ env := by
  have k : ∀ {env : List (Option Val)} {σ : List (Option V)}, SlR cm P H env σ → σ.length = env.length ∧ ∀ (i : Nat) (x : Val), env[i]? = some (some x) → ∃ v, σ[i]? = some (some v) ∧ Re cm P H v x := by
    intro env
    induction env with
    | nil =>
      intro σ h
      cases σ with
      | nil => exact ⟨rfl, fun i x e => by simp at e⟩
      | cons a b => exact h.elim
    | cons a env ih =>
      intro σ h
      cases σ with
      | nil => cases a <;> exact h.elim
      | cons o σ =>
        cases a with
        | none =>
          obtain ⟨l, g⟩ := ih (show SlR cm P H env σ from h)
          refine ⟨congrArg (· + 1) l, fun i x e => ?_⟩
          cases i with
          | zero => cases e
          | succ i => exact g i x e
        | some y =>
          cases o with
          | none => exact h.elim
          | some v =>
            obtain ⟨r, h2⟩ := h
            obtain ⟨l, g⟩ := ih h2
            refine ⟨congrArg (· + 1) l, fun i x e => ?_⟩
            cases i with
            | zero => cases e; exact ⟨v, rfl, r⟩
            | succ i => exact g i x e
  exact fun {env σ} h => ⟨(k h).1, (k h).2, hd⟩
end Up

namespace Up
open PySem PySem.Spec PyProof.Rows L2
/-! the exceptions' own __init__ -/
abbrev s_xBadTalk : Stmt := (inClass (topS 3) 0)
theorem sc_xBadTalk : FnScope ["self", "place"] ["self", "place"] (defScope s_xBadTalk) := ⟨rfl, rfl, rfl, by decide +kernel, rfl, by decide +kernel, by decide +kernel⟩
theorem ok_xBadTalk {P : Program} {w : World} {K : PySem.W.Frag} {mg : Str → Option Value} {base : Heap} {f C : Addr} {fd : FuncData} (F : Fun K "__init__" "BadTalk.__init__" s_xBadTalk f fd) (T : OexA K C) (n : PySem.W.findIn K (.ref C) "place" = some none) : FnOk P w K mg base CX0 1 f fd ["self", "place"] (spXI C "place") := by
  refine F.ok sc_xBadTalk (fun vs H Q E h => ?_) (fun cdv A outer s H vs Q E hr h => ?_)
  · obtain ⟨a, v, rfl, _⟩ := h
    rfl
  · obtain ⟨a, v, rfl, ha, q⟩ := h
    exact ⟨_, (pss_one (ps_ostA (pv 0) (pv 1))), _, rfl, _, rfl, a, C, rfl, T, n, ha, fun d hd ne => q d hd ne⟩
abbrev s_xBadDoing : Stmt := (inClass (topS 4) 0)
theorem sc_xBadDoing : FnScope ["self", "value"] ["self", "value"] (defScope s_xBadDoing) := ⟨rfl, rfl, rfl, by decide +kernel, rfl, by decide +kernel, by decide +kernel⟩
theorem ok_xBadDoing {P : Program} {w : World} {K : PySem.W.Frag} {mg : Str → Option Value} {base : Heap} {f C : Addr} {fd : FuncData} (F : Fun K "__init__" "BadDoing.__init__" s_xBadDoing f fd) (T : OexA K C) (n : PySem.W.findIn K (.ref C) "value" = some none) : FnOk P w K mg base CX0 1 f fd ["self", "value"] (spXI C "value") := by
  refine F.ok sc_xBadDoing (fun vs H Q E h => ?_) (fun cdv A outer s H vs Q E hr h => ?_)
  · obtain ⟨a, v, rfl, _⟩ := h
    rfl
  · obtain ⟨a, v, rfl, ha, q⟩ := h
    exact ⟨_, (pss_one (ps_ostA (pv 0) (pv 1))), _, rfl, _, rfl, a, C, rfl, T, n, ha, fun d hd ne => q d hd ne⟩
abbrev s_xBadNumber : Stmt := (inClass (topS 5) 0)
theorem sc_xBadNumber : FnScope ["self", "value"] ["self", "value"] (defScope s_xBadNumber) := ⟨rfl, rfl, rfl, by decide +kernel, rfl, by decide +kernel, by decide +kernel⟩
theorem ok_xBadNumber {P : Program} {w : World} {K : PySem.W.Frag} {mg : Str → Option Value} {base : Heap} {f C : Addr} {fd : FuncData} (F : Fun K "__init__" "BadNumber.__init__" s_xBadNumber f fd) (T : OexA K C) (n : PySem.W.findIn K (.ref C) "value" = some none) : FnOk P w K mg base CX0 1 f fd ["self", "value"] (spXI C "value") := by
  refine F.ok sc_xBadNumber (fun vs H Q E h => ?_) (fun cdv A outer s H vs Q E hr h => ?_)
  · obtain ⟨a, v, rfl, _⟩ := h
    rfl
  · obtain ⟨a, v, rfl, ha, q⟩ := h
    exact ⟨_, (pss_one (ps_ostA (pv 0) (pv 1))), _, rfl, _, rfl, a, C, rfl, T, n, ha, fun d hd ne => q d hd ne⟩
abbrev s_xBadRun : Stmt := (inClass (topS 6) 0)
theorem sc_xBadRun : FnScope ["self", "place"] ["self", "place"] (defScope s_xBadRun) := ⟨rfl, rfl, rfl, by decide +kernel, rfl, by decide +kernel, by decide +kernel⟩
theorem ok_xBadRun {P : Program} {w : World} {K : PySem.W.Frag} {mg : Str → Option Value} {base : Heap} {f C : Addr} {fd : FuncData} (F : Fun K "__init__" "BadRun.__init__" s_xBadRun f fd) (T : OexA K C) (n : PySem.W.findIn K (.ref C) "place" = some none) : FnOk P w K mg base CX0 1 f fd ["self", "place"] (spXI C "place") := by
  refine F.ok sc_xBadRun (fun vs H Q E h => ?_) (fun cdv A outer s H vs Q E hr h => ?_)
  · obtain ⟨a, v, rfl, _⟩ := h
    rfl
  · obtain ⟨a, v, rfl, ha, q⟩ := h
    exact ⟨_, (pss_one (ps_ostA (pv 0) (pv 1))), _, rfl, _, rfl, a, C, rfl, T, n, ha, fun d hd ne => q d hd ne⟩
abbrev s_xBadCut : Stmt := (inClass (topS 7) 0)
theorem sc_xBadCut : FnScope ["self", "value"] ["self", "value"] (defScope s_xBadCut) := ⟨rfl, rfl, rfl, by decide +kernel, rfl, by decide +kernel, by decide +kernel⟩
theorem ok_xBadCut {P : Program} {w : World} {K : PySem.W.Frag} {mg : Str → Option Value} {base : Heap} {f C : Addr} {fd : FuncData} (F : Fun K "__init__" "BadCut.__init__" s_xBadCut f fd) (T : OexA K C) (n : PySem.W.findIn K (.ref C) "value" = some none) : FnOk P w K mg base CX0 1 f fd ["self", "value"] (spXI C "value") := by
  refine F.ok sc_xBadCut (fun vs H Q E h => ?_) (fun cdv A outer s H vs Q E hr h => ?_)
  · obtain ⟨a, v, rfl, _⟩ := h
    rfl
  · obtain ⟨a, v, rfl, ha, q⟩ := h
    exact ⟨_, (pss_one (ps_ostA (pv 0) (pv 1))), _, rfl, _, rfl, a, C, rfl, T, n, ha, fun d hd ne => q d hd ne⟩
abbrev s_xBadText : Stmt := (inClass (topS 8) 0)
theorem sc_xBadText : FnScope ["self", "place"] ["self", "place"] (defScope s_xBadText) := ⟨rfl, rfl, rfl, by decide +kernel, rfl, by decide +kernel, by decide +kernel⟩
theorem ok_xBadText {P : Program} {w : World} {K : PySem.W.Frag} {mg : Str → Option Value} {base : Heap} {f C : Addr} {fd : FuncData} (F : Fun K "__init__" "BadText.__init__" s_xBadText f fd) (T : OexA K C) (n : PySem.W.findIn K (.ref C) "place" = some none) : FnOk P w K mg base CX0 1 f fd ["self", "place"] (spXI C "place") := by
  refine F.ok sc_xBadText (fun vs H Q E h => ?_) (fun cdv A outer s H vs Q E hr h => ?_)
  · obtain ⟨a, v, rfl, _⟩ := h
    rfl
  · obtain ⟨a, v, rfl, ha, q⟩ := h
    exact ⟨_, (pss_one (ps_ostA (pv 0) (pv 1))), _, rfl, _, rfl, a, C, rfl, T, n, ha, fun d hd ne => q d hd ne⟩
abbrev s_xWaits : Stmt := (inClass (topS 9) 0)
theorem sc_xWaits : FnScope ["self", "letter"] ["self", "letter"] (defScope s_xWaits) := ⟨rfl, rfl, rfl, by decide +kernel, rfl, by decide +kernel, by decide +kernel⟩
theorem ok_xWaits {P : Program} {w : World} {K : PySem.W.Frag} {mg : Str → Option Value} {base : Heap} {f C : Addr} {fd : FuncData} (F : Fun K "__init__" "Waits.__init__" s_xWaits f fd) (T : OexA K C) (n : PySem.W.findIn K (.ref C) "letter" = some none) : FnOk P w K mg base CX0 1 f fd ["self", "letter"] (spXI C "letter") := by
  refine F.ok sc_xWaits (fun vs H Q E h => ?_) (fun cdv A outer s H vs Q E hr h => ?_)
  · obtain ⟨a, v, rfl, _⟩ := h
    rfl
  · obtain ⟨a, v, rfl, ha, q⟩ := h
    exact ⟨_, (pss_one (ps_ostA (pv 0) (pv 1))), _, rfl, _, rfl, a, C, rfl, T, n, ha, fun d hd ne => q d hd ne⟩
abbrev s_xTooGreat : Stmt := (inClass (topS 11) 0)
theorem sc_xTooGreat : FnScope ["self", "most"] ["self", "most"] (defScope s_xTooGreat) := ⟨rfl, rfl, rfl, by decide +kernel, rfl, by decide +kernel, by decide +kernel⟩
theorem ok_xTooGreat {P : Program} {w : World} {K : PySem.W.Frag} {mg : Str → Option Value} {base : Heap} {f C : Addr} {fd : FuncData} (F : Fun K "__init__" "TooGreat.__init__" s_xTooGreat f fd) (T : OexA K C) (n : PySem.W.findIn K (.ref C) "most" = some none) : FnOk P w K mg base CX0 1 f fd ["self", "most"] (spXI C "most") := by
  refine F.ok sc_xTooGreat (fun vs H Q E h => ?_) (fun cdv A outer s H vs Q E hr h => ?_)
  · obtain ⟨a, v, rfl, _⟩ := h
    rfl
  · obtain ⟨a, v, rfl, ha, q⟩ := h
    exact ⟨_, (pss_one (ps_ostA (pv 0) (pv 1))), _, rfl, _, rfl, a, C, rfl, T, n, ha, fun d hd ne => q d hd ne⟩
end Up

namespace Up
open PySem PySem.Spec PyProof.Rows L2
/-! ### law of k78 -/
abbrev st_law : Stmt := (topS 35)
theorem ss_law : FnScope ["script", "m", "q", "some", "words", "n", "due", "told", "rows", "own", "odd"] ["script"] (defScope st_law) := ⟨rfl, rfl, rfl, by decide +kernel, rfl, by decide +kernel, by decide +kernel⟩
def lw_q : En → Option Val := (lstF (consF (cst .non) (consF (cst (.int 0)) (consF (cst (.int 7)) (consF (tupF (consF (cst (.int 1)) (consF (cst (.int 2)) noF))) (consF (cst (.str "x")) (consF (lstF (consF (cst (.int 3)) noF)) (consF (cst .dk0) (consF (bin2 (iopC (fun i j => decide (CPow i j)) fun i j => .int (i ^ j.toNat)) (cst (.int 10)) (cst (.int 40))) noF)))))))))
def lw_s2 : En → Option Out := (newG 3 (stN [3] (fun env => ((consF (excF 1 "place" (getE 2)) (consF (excF 4 "place" (getE 2)) (consF (excF 6 "place" (getE 2)) (consF (excF 2 "value" (getE 2)) (consF (excF 3 "value" (getE 2)) (consF (excF 5 "value" (getE 2)) (consF (excF 7 "letter" (getE 2)) (consF (excF 9 "most" (getE 2)) noF)))))))) env).bind fun xs => if xs.length ≤ most then some xs else none)))
def lw_s3 : En → Option Out := (appG 3 (stF [3] (cst (.exc 8 [] []))))
def lw_s4 : En → Option Out := (setG 4 (stF [3] (lstF (consF (cst (.str "BadTalk")) (consF (cst (.str "BadRun")) (consF (cst (.str "BadText")) (consF (cst (.str "BadDoing")) (consF (cst (.str "BadNumber")) (consF (cst (.str "BadCut")) (consF (cst (.str "Waits")) (consF (cst (.str "TooGreat")) (consF (cst (.str "NothingLeft")) noF))))))))))))
def lw_s5 : En → Option Out := (forG [3] (rng1 (consF (cst (.int 9)) noF)) (setV 5) (seqG (setG 6 (stF [3] (iteF (tst (bin2 (iop fun i j => .bl (decide (i < j))) (getE 5) (cst (.int 8)))) (tupF (consF (bin2 ixL (getE 4) (getE 5)) (consF (getE 2) noF))) (tupF (consF (bin2 ixL (getE 4) (getE 5)) noF))))) (seqG (ifG (tst (bin2 (eqF true) (appF reprF (consF (appF f__law_class (consF (bin2 ixL (getE 3) (getE 5)) noF)) noF)) (appF reprF (consF (getE 6) noF)))) (retG (cst (.bl false))) nilG) (seqG (ifG (orT (tst (bin2 (eqF true) (isxF talkC (bin2 ixL (getE 3) (getE 5))) (bin2 (eqF true) (getE 5) (cst (.int 7))))) (tst (bin2 (eqF true) (isxF talkC (bin2 ixL (getE 3) (getE 5))) (bin2 (eqF true) (getE 5) (cst (.int 7)))))) (retG (cst (.bl false))) nilG) (ifG (tst (bin2 (eqF true) (isxF (oneC 9) (bin2 ixL (getE 3) (getE 5))) (bin2 (eqF false) (getE 5) (cst (.int 7))))) (retG (cst (.bl false))) nilG)))))
def lw_told : En → Option (List Val) := (consF (xfF [1, 4, 6] "place" (excF 4 "place" (getE 2))) (consF (xfF [1, 4, 6] "place" (excF 6 "place" (getE 2))) (consF (xfF [2, 3, 5] "value" (excF 5 "value" (getE 2))) (consF (xfF [7] "letter" (excF 7 "letter" (getE 2))) noF))))
def lw_app : En → Option Val := (xfF [9] "most" (excF 9 "most" (getE 2)))
def lw_rows : En → Option Val := (tupF (consF (tupF (consF (tupF (consF (cst (.str "send")) (consF (cst (.int 0)) noF))) noF)) (consF (tupF (consF (tupF (consF (cst (.str "get")) (consF (cst (.int 0)) noF))) noF)) noF)))
def lw_own : En → Option Val := (appF f_Talk (consF (getE 8) noF))
def lw_odd : En → Option Val := (lstF (consF (cst .non) (consF (getE 8) (consF (fun env => ((fun env => ((getE 8) env).bind fun y => (itemsOf y).bind fun xs => if xs.length ≤ most then some xs else none) env).map .lst) (consF (cst (.int 5)) (consF (cst (.str "talk")) (consF (cst .dk0) (consF (getE 2) noF))))))))
def lw_told2 : En → Option Val := (lstF (consF (bin2 (oddF false) (getE 9) (getE 10)) (consF (bin2 (oddR false) (getE 10) (getE 9)) (consF (bin2 neT (getE 9) (appF f_Talk (consF (fun env => ((fun env => ((getE 8) env).bind fun y => (itemsOf y).bind fun xs => if xs.length ≤ most then some xs else none) env).map .lst) noF))) (consF (bin2 (oddF true) (getE 9) (getE 10)) noF)))))
def lw_ret : En → Option Val := (bin2 (eqF false) (appF reprF (consF (getE 7) noF)) (appF reprF (consF (lstF (consF (cst (.bl false)) (consF (cst (.bl false)) (consF (cst (.bl false)) (consF (cst (.bl true)) noF))))) noF)))
def qs : List Val := [.non, .int 0, .int 7, .tup [.int 1, .int 2], .str "x", .lst [.int 3], .dk0, .int (10 ^ (40 : Int).toNat)]
def e0 : En := [none, none, none, none, none, none, none, none, none, none, none]
def e1 (m : Addr) (x : Val) : En := [none, some (.loc m), some x, none, none, none, none, none, none, none, none]
def somes (x : Val) : List Val := [.exc 1 ["place"] [x], .exc 4 ["place"] [x], .exc 6 ["place"] [x], .exc 2 ["value"] [x], .exc 3 ["value"] [x], .exc 5 ["value"] [x], .exc 7 ["letter"] [x], .exc 9 ["most"] [x]]
def wordsV : Val := .lst [.str "BadTalk", .str "BadRun", .str "BadText", .str "BadDoing", .str "BadNumber", .str "BadCut", .str "Waits", .str "TooGreat", .str "NothingLeft"]
def e2 (m : Addr) (x : Val) : En := [none, some (.loc m), some x, some (.lst (somes x)), none, none, none, none, none, none, none]
def e3 (m : Addr) (x : Val) : En := [none, some (.loc m), some x, some (.lst (somes x ++ [.exc 8 [] []])), none, none, none, none, none, none, none]
def e4 (m : Addr) (x : Val) : En := [none, some (.loc m), some x, some (.lst (somes x ++ [.exc 8 [] []])), some wordsV, none, none, none, none, none, none]
def e5 (m : Addr) (x : Val) : En := [none, some (.loc m), some x, some (.lst (somes x ++ [.exc 8 [] []])), some wordsV, some (.int 8), some (.tup [.str "NothingLeft"]), none, none, none, none]
theorem q_list : lw_q e0 = some (.lst qs) := by kernel_rfl
theorem ev2 (m : Addr) (x : Val) : lw_s2 (e1 m x) = some (.nx (e2 m x)) := by kernel_rfl
theorem ev3 (m : Addr) (x : Val) : lw_s3 (e2 m x) = some (.nx (e3 m x)) := by kernel_rfl
theorem ev4 (m : Addr) (x : Val) : lw_s4 (e3 m x) = some (.nx (e4 m x)) := by kernel_rfl
theorem qs_all {p : Val → Prop} (h0 : p .non) (h1 : p (.int 0)) (h2 : p (.int 7)) (h3 : p (.tup [.int 1, .int 2])) (h4 : p (.str "x")) (h5 : p (.lst [.int 3])) (h6 : p .dk0) (h7 : p (.int (10 ^ (40 : Int).toNat))) : ∀ x ∈ qs, p x := fun x hx => by
  unfold qs at hx
  simp only [List.mem_cons, List.not_mem_nil, or_false] at hx
  rcases hx with rfl | rfl | rfl | rfl | rfl | rfl | rfl | rfl <;> assumption
theorem ev5 (m : Addr) : ∀ x ∈ qs, lw_s5 (e4 m x) = some (.nx (e5 m x)) :=
  qs_all (by kernel_rfl) (by kernel_rfl) (by kernel_rfl) (by kernel_rfl) (by kernel_rfl) (by kernel_rfl) (by kernel_rfl) (by kernel_rfl)
def e6 (x : Val) : En := [none, none, some x, none, none, none, none, none, none, none, none]
theorem told_ev (x : Val) : lw_told (e6 x) = some [x, x, x, x] := by kernel_rfl
theorem app_ev (x : Val) : lw_app (e6 x) = some x := by kernel_rfl
def five (d : PyData) : PyData := .list (List.replicate 5 d)
def fiveOk (x : Val) : Bool := match dataQ x with
  | some d => (noL x || !d.hasDict) && showC (five d) && SeqAt.shaped (.str (five d).shown)
  | none => false
theorem fives : ∀ x ∈ qs, fiveOk x = true := qs_all (by decide +kernel) (by decide +kernel) (by decide +kernel) (by decide +kernel) (by decide +kernel) (by decide +kernel) (by decide +kernel) (by decide +kernel)
theorem fiveOk_some {x : Val} (h : fiveOk x = true) : ∃ d, dataQ x = some d ∧ (noL x = true ∨ d.hasDict = false) ∧ (five d).showable = true ∧ (five d).depth ≤ 60 ∧ (five d).shown.length ≤ sizeLine ∧ SeqAt.shaped (.str (five d).shown) = true := by
  unfold fiveOk at h
  split at h
  case h_2 => cases h
  rename_i d e
  unfold showC at h
  simp only [Bool.and_eq_true, Bool.or_eq_true, decide_eq_true_eq, Bool.not_eq_true'] at h
  exact ⟨d, e, h.1.1, h.1.2.1.1, h.1.2.1.2, h.1.2.2, h.2⟩
theorem five_dq {K : PySem.W.Frag} {cm : Cm} {P : Addr → Prop} {H : Hp} {p : Addr} {vs : List V} {x : Val} {d : PyData} (hp : H p = some (.lst vs)) (r : Res cm P H vs [x, x, x, x, x]) (np : p ≠ sysModules) (e : dataQ x = some d) (h : noL x = true ∨ d.hasDict = false) :
    ∃ as, Dq K H (.ref p) (five d) as ∧ ((five d).hasDict = true → ∀ b ∈ as, b ≠ sysModules ∨ ∃ kvs, H b = some (.dK kvs)) := by
  have e5 : dataQs [x, x, x, x, x] = some [d, d, d, d, d] := by simp [dataQs, e]
  obtain ⟨as, h1, h2⟩ := (Rep.dq (K := K) r).2 rfl _ e5
  refine ⟨p :: as, .lst (.inl (.inl hp)) h1, fun c b hb => ?_⟩
  rcases h with z | z
  · rcases List.mem_cons.mp hb with w | w
    · exact .inl (by rw [w]; exact np)
    · exact .inr (h2 (by simp [noLs, z]) b w)
  · simp [five, PyData.hasDict, PyData.hasDictAll, z] at c
def gs2 : List (List Dg) := [[⟨true, 0⟩], [⟨false, 0⟩]]
def rowsT2 : Val := .tup [.tup [.tup [.str "send", .int 0]], .tup [.tup [.str "get", .int 0]]]
theorem rows_ev (x : Val) : lw_rows (e6 x) = some rowsT2 := by kernel_rfl
theorem talk_ev : ((f_Talk [rowsT2]).bind rowsFld) = some gs2 ∧ ((f_Talk [.lst [.tup [.tup [.str "send", .int 0]], .tup [.tup [.str "get", .int 0]]]]).bind rowsFld) = some gs2 := by constructor <;> decide +kernel
def e8 (x : Val) : En := [none, none, some x, none, none, none, none, none, some rowsT2, none, none]
def odds (x : Val) : List Val := [.non, rowsT2, .lst [.tup [.tup [.str "send", .int 0]], .tup [.tup [.str "get", .int 0]]], .int 5, .str "talk", .dk0, x]
theorem odd_ev (x : Val) : lw_odd (e8 x) = some (.lst (odds x)) := by kernel_rfl
theorem own_ev (x : Val) : lw_own (e8 x) = f_Talk [rowsT2] := by kernel_rfl
def e10 (t y : Val) : En := [none, none, none, none, none, none, none, none, some rowsT2, some t, some y]
def toldV : Val := .lst [.bl false, .bl false, .bl false, .bl true]
theorem consF_of {f : En → Option Val} {g : En → Option (List Val)} {env : En} {x : Val} {xs : List Val} (h : f env = some x) (k : g env = some xs) : consF f g env = some (x :: xs) := by
  unfold consF
  rw [h, k]
  rfl
theorem lstF_of {g : En → Option (List Val)} {env : En} {xs : List Val} (h : g env = some xs) (l : xs.length ≤ most) : lstF g env = some (.lst xs) := by
  unfold lstF
  rw [h]
  show (if xs.length ≤ most then some (Val.lst xs) else none) = _
  rw [if_pos l]
theorem told2_ev {t t2 y : Val} {w : String} (ht : rowsFld t = some gs2) (h2 : f_Talk [.lst [.tup [.tup [.str "send", .int 0]], .tup [.tup [.str "get", .int 0]]]] = some t2) (ht2 : rowsFld t2 = some gs2) (hy : oddB y = some w) : lw_told2 (e10 t y) = some toldV := by
  have a1 : oddF false t y = some (.bl false) := by unfold oddF; rw [ht, hy]; rfl
  have a2 : oddR false y t = some (.bl false) := a1
  have a3 : neT t t2 = some (.bl false) := by unfold neT; rw [ht, ht2]; rfl
  have a4 : oddF true t y = some (.bl true) := by unfold oddF; rw [ht, hy]; rfl
  have b1 : bin2 (oddF false) (getE 9) (getE 10) (e10 t y) = some (.bl false) := a1
  have b2 : bin2 (oddR false) (getE 10) (getE 9) (e10 t y) = some (.bl false) := a2
  have b4 : bin2 (oddF true) (getE 9) (getE 10) (e10 t y) = some (.bl true) := a4
  refine lstF_of (consF_of b1 (consF_of b2 (consF_of ?_ (consF_of b4 (show noF _ = some [] from rfl))))) (by decide)
  show ((some t).bind fun a => (f_Talk [.lst [.tup [.tup [.str "send", .int 0]], .tup [.tup [.str "get", .int 0]]]]).bind fun b => neT a b) = _
  rw [h2]
  exact a3
theorem qodd : ∀ x ∈ qs, ∃ w, oddB x = some w := qs_all ⟨_, rfl⟩ ⟨_, rfl⟩ ⟨_, rfl⟩ ⟨_, rfl⟩ ⟨_, rfl⟩ ⟨_, rfl⟩ ⟨_, rfl⟩ ⟨_, rfl⟩
def e11 : En := [none, none, none, none, none, none, none, some toldV, none, none, none]
theorem ret_ev : lw_ret e11 = some (.bl true) := by kernel_rfl
theorem len11 {σ : List (Option V)} (h : σ.length = 11) : ∃ a0 a1 a2 a3 a4 a5 a6 a7 a8 a9 a10, σ = [a0, a1, a2, a3, a4, a5, a6, a7, a8, a9, a10] := by
  match σ, h with
  | [a0, a1, a2, a3, a4, a5, a6, a7, a8, a9, a10], _ => exact ⟨_, _, _, _, _, _, _, _, _, _, _, rfl⟩
def spLaw (K : PySem.W.Frag) : Sp := fun vs H Q _ => ∃ (a : Addr) (ns : List Int), vs = [.ref a] ∧ SqL K H a (iL ns) ∧ ns.length ≤ 63 ∧ ∀ H', Q (.bl true) H'
section
variable {P : Program} {w : World} {K : PySem.W.Frag} {mg : Str → Option Value} {base : Heap} {cm : Cm}
theorem ok_law {f : Addr} {fd : FuncData} (F : Fun K "law" "law" st_law f fd) (T : TxtV K mg cm) (EX : ExcT K mg cm) {fa__law_class : Addr} {fd__law_class : FuncData} (d__law_class : Df P w K mg base cm "_law_class" 1 ["error"] f__law_class fa__law_class fd__law_class) (X1 : XKA P w K mg base "BadTalk" "place" (cm.cls 1)) (X2 : XKA P w K mg base "BadDoing" "value" (cm.cls 2)) (X3 : XKA P w K mg base "BadNumber" "value" (cm.cls 3)) (X4 : XKA P w K mg base "BadRun" "place" (cm.cls 4)) (X5 : XKA P w K mg base "BadCut" "value" (cm.cls 5)) (X6 : XKA P w K mg base "BadText" "place" (cm.cls 6)) (X7 : XKA P w K mg base "Waits" "letter" (cm.cls 7)) (X9 : XKA P w K mg base "TooGreat" "most" (cm.cls 9))
    (hNL : PySem.W.excIn K (cm.cls 8) [.type "ValueError", .type "Exception", .type "BaseException", .type "object"] "ValueError.__new__" = true) (kNL : PySem.W.keepIn K (.ref (cm.cls 8)) = true)
    {fB fD : Addr} {fdB fdD : FuncData} (TB : mg "_law_begun" = some (.ref fB)) (TD : mg "_law_draw" = some (.ref fD))
    (FB : Fun K "_law_begun" "_law_begun" sBeg fB fdB) (bB : Binds K fdB ["script"] []) (GB : FnOk P w K mg base CX0 2 fB fdB ["script"] (spBeg K))
    (FD : Fun K "_law_draw" "_law_draw" sDrw fD fdD) (bD : Binds K fdD ["m", "limit"] []) (GD : FnOk P w K mg base CX0 2 fD fdD ["m", "limit"] spDrw)
    {C fI fQ : Addr} {fdI : FuncData} (hC : cm.cls 0 = C) (MT : Mk K C fI) (GT : ∀ Ck, FnOk P w K mg base CX0 5 fI fdI ["self", "rows"] (spTInit C Sl0 Ck)) (bT : Binds K fdI ["self", "rows"] []) (TT : mg "Talk" = some (.ref C)) (TX : TalkX K C fQ) (GQ : FnR P w K mg base CX0 1 fQ (spTEq K C)) :
    FnG P w K mg base CX0 7 f fd ["script"] (spLaw K) := by
  refine okG F ss_law (fun vs H Q E h => ?_) (fun cdv A outer s H vs Q E hQ hr h => ?_)
  · obtain ⟨a, ns, rfl, _⟩ := h
    rfl
  · obtain ⟨a, ns, rfl, hS, hlen, q⟩ := h
    have hu : (A.deeper (envOfC "law" (defScope st_law) s.heap.objs.size f cdv)).units + 64 < cLine := by
      have := hr.un
      omega
    refine ⟨_, (pss_cons (ps_set (i := 1) ss_law.nd rfl (Or.inl rfl) (pe_call GB (hr.mono (by decide)) (by rfl) TB FB.kp bB .nil pass0 (pa_cons (pv 0) pa_nil))) (pss_cons (ps_set (i := 2) ss_law.nd rfl (Or.inl rfl) (pe_ix ix_list (ve_lst (va_cons (ve_non (cm := cm)) (va_cons ve_int (va_cons ve_int (va_cons (ve_tup (va_cons ve_int (va_cons ve_int (va_nil (cm := cm))))) (va_cons ve_str (va_cons (ve_lst (va_cons ve_int (va_nil (cm := cm)))) (va_cons ve_dk0 (va_cons (ve_op op_pow ov_pow ve_int ve_int) (va_nil (cm := cm))))))))))) (pe_call GD (hr.mono (by decide)) (by rfl) TD FD.kp bD .nil pass0 (pa_cons (pv 1) (pa_cons pe_int pa_nil))) (fun _ _ => rfl))) (pss_cons (show SV _ cm [3] _ lw_s2 from (sv_new (i := 3) ss_law.nd rfl (Or.inl rfl) (by decide) (vn_lst (va_cons (ve_exc X1 (hr.mono (by decide)) (by rfl) (vv 2)) (va_cons (ve_exc X4 (hr.mono (by decide)) (by rfl) (vv 2)) (va_cons (ve_exc X6 (hr.mono (by decide)) (by rfl) (vv 2)) (va_cons (ve_exc X2 (hr.mono (by decide)) (by rfl) (vv 2)) (va_cons (ve_exc X3 (hr.mono (by decide)) (by rfl) (vv 2)) (va_cons (ve_exc X5 (hr.mono (by decide)) (by rfl) (vv 2)) (va_cons (ve_exc X7 (hr.mono (by decide)) (by rfl) (vv 2)) (va_cons (ve_exc X9 (hr.mono (by decide)) (by rfl) (vv 2)) va_nil))))))))) sn_st)) (pss_cons (show SV _ cm [3] _ lw_s3 from (sv_app0 (i := 3) (ps_expr (pe_bm PySem.F.plainAttrs_list PySem.F.slot_list_append PySem.F.type_list_append mt_append (pv 3) (pa_cons (ve_exc0 (c := 8) PySem.F.excBase_ValueError hNL EX.g8 kNL (by rfl)) pa_nil))) (by decide) sr_st)) (pss_cons (show SV _ cm [3] _ lw_s4 from (sv_set (i := 4) ss_law.nd rfl (Or.inl rfl) (by decide) (ve_lst (va_cons ve_str (va_cons ve_str (va_cons ve_str (va_cons ve_str (va_cons ve_str (va_cons ve_str (va_cons ve_str (va_cons ve_str (va_cons ve_str va_nil)))))))))) sr_st)) (pss_cons (show SV _ cm [3] _ lw_s5 from (sv_for PassesOwn.never rfl (vi_range1 (by rfl) T.range (va_cons ve_int va_nil)) (pg_name (i := 5) ss_law.nd rfl (Or.inl rfl)) (sv_cons (sv_set (i := 6) ss_law.nd rfl (Or.inl rfl) (by decide) (ve_ite (vt_cmp op_lt ov_lt (vv 5) ve_int (nomark _)) (ve_tup (va_cons (ve_ix ix_list ov_ixL (vv 4) (vv 5) (fun _ _ => rfl)) (va_cons (vv 2) va_nil))) (ve_tup (va_cons (ve_ix ix_list ov_ixL (vv 4) (vv 5) (fun _ _ => rfl)) va_nil))) sr_st) (sv_cons (sv_if (vt_cmp (op_neD hu) ov_ne (ve_callB (call_reprD hQ hu) cv_repr (by rfl) EX.repr bb_repr (va_cons (ve_callD d__law_class (hr.mono (by decide)) (by rfl) (va_cons (ve_ix ix_list ov_ixL (vv 3) (vv 5) (fun _ _ => rfl)) va_nil)) va_nil)) (ve_callB (call_reprD hQ hu) cv_repr (by rfl) EX.repr bb_repr (va_cons (vv 6) va_nil)) (nomark _)) (sv_one (sv_ret ve_bl)) sv_nil) (sv_cons (sv_if (PW.pt (vw_or (vt_cmp (op_neD hu) ov_ne (ve_isx (S := talkC) (.own (cm.cls 10)) (talk_of EX) (pe_glob (v := .ref (cm.cls 10)) rfl EX.g10 rfl) (by rfl) T.isinstance bb_isinstance (ve_ix ix_list ov_ixL (vv 3) (vv 5) (fun _ _ => rfl))) (ve_cmp (op_neD hu) ov_ne (vv 5) ve_int (nomark _)) (nomark _)) (vw_or1 (vt_cmp (op_neD hu) ov_ne (ve_isx (S := talkC) (.ty "ValueError") (ve_of EX) (pe_bltn (v := .ty "ValueError") (by rfl) EX.VE bt_VE rfl) (by rfl) T.isinstance bb_isinstance (ve_ix ix_list ov_ixL (vv 3) (vv 5) (fun _ _ => rfl))) (ve_cmp (op_neD hu) ov_ne (vv 5) ve_int (nomark _)) (nomark _))))) (sv_one (sv_ret ve_bl)) sv_nil) (sv_one (sv_if (vt_cmp (op_neD hu) ov_ne (ve_isx (S := oneC 9) (.ty "OverflowError") (oe_of EX) (pe_bltn (v := .ty "OverflowError") (by rfl) EX.OE bt_OE rfl) (by rfl) T.isinstance bb_isinstance (ve_ix ix_list ov_ixL (vv 3) (vv 5) (fun _ _ => rfl))) (ve_cmp (op_eqD hu) ov_eq (vv 5) ve_int (nomark _)) (nomark _)) (sv_one (sv_ret ve_bl)) sv_nil))))) tg_name (by decide))) (pss_cons (ps_set (i := 7) ss_law.nd rfl (Or.inl rfl) (pe_lstS (va_cons (ve_xf (L := [1, 4, 6]) (xf_of EX (by decide) EX.nP) (ve_excK X4 (hr.mono (by decide)) (by rfl) (vv (cm := cm) 2))) (va_cons (ve_xf (L := [1, 4, 6]) (xf_of EX (by decide) EX.nP) (ve_excK X6 (hr.mono (by decide)) (by rfl) (vv (cm := cm) 2))) (va_cons (ve_xf (L := [2, 3, 5]) (xf_of EX (by decide) EX.nV) (ve_excK X5 (hr.mono (by decide)) (by rfl) (vv (cm := cm) 2))) (va_cons (ve_xf (L := [7]) (xf_of EX (by decide) EX.nL) (ve_excK X7 (hr.mono (by decide)) (by rfl) (vv (cm := cm) 2))) (va_nil (cm := cm)))))))) (pss_cons (ps_expr (pe_bm PySem.F.plainAttrs_list PySem.F.slot_list_append PySem.F.type_list_append mt_append (pv 7) (pa_cons (ve_xf (L := [9]) (xf_of EX (by decide) EX.nM) (ve_excK X9 (hr.mono (by decide)) (by rfl) (vv (cm := cm) 2))) pa_nil))) (pss_cons (ps_if (pt_cmpR (op_neD hu) (pe_callB (call_reprD hQ hu) (by rfl) EX.repr bb_repr (pa_cons (pv 7) pa_nil)) (pe_callB (call_reprD hQ hu) (by rfl) EX.repr bb_repr (pa_cons (pe_op op_repS (pe_lst (pa_cons (pv 2) pa_nil)) pe_int) pa_nil)) (nomark _)) (pss_one (ps_ret pe_bl)) pss_nil) (pss_cons (ps_set (i := 8) ss_law.nd rfl (Or.inl rfl) (ve_tup (va_cons (ve_tup (va_cons (ve_tup (va_cons ve_str (va_cons ve_int (va_nil (cm := cm))))) (va_nil (cm := cm)))) (va_cons (ve_tup (va_cons (ve_tup (va_cons ve_str (va_cons ve_int (va_nil (cm := cm))))) (va_nil (cm := cm)))) (va_nil (cm := cm)))))) (pss_cons (ps_set (i := 9) ss_law.nd rfl (Or.inl rfl) (ve_make hC mkT_ok MT GT bT (hr.mono (by decide)) (by rfl) TT (va_cons (vv (cm := cm) 8) (va_nil (cm := cm))))) (pss_cons (ps_set (i := 10) ss_law.nd rfl (Or.inl rfl) (pe_ix ix_list (ve_lst (va_cons (ve_non (cm := cm)) (va_cons (vv (cm := cm) 8) (va_cons (vn_ve (vn_list (by rfl) T.list bt_list (vv (cm := cm) 8))) (va_cons ve_int (va_cons ve_str (va_cons ve_dk0 (va_cons (vv (cm := cm) 2) (va_nil (cm := cm)))))))))) (pe_call GD (hr.mono (by decide)) (by rfl) TD FD.kp bD .nil pass0 (pa_cons (pv 1) (pa_cons pe_int pa_nil))) (fun _ _ => rfl))) (pss_cons (ps_set (i := 7) ss_law.nd rfl (Or.inl rfl) (ve_lst (va_cons (ve_cmp (op_eqO TX.hs TX.hf GQ (hr.mono (by decide)) pass0) (ov_eqX (K := K) hC TX) (vv (cm := cm) 9) (vv (cm := cm) 10) (nomark _)) (va_cons (ve_cmp (op_eqR TX.hs TX.hf GQ (hr.mono (by decide)) pass0) (ov_eqXR (K := K) hC TX) (vv (cm := cm) 10) (vv (cm := cm) 9) (nomark _)) (va_cons (ve_cmp (op_neO TX.hs TX.hf TX.hne TX.hm GQ (hr.mono (by decide)) pass0) (ov_neT (K := K) hC) (vv (cm := cm) 9) (ve_make hC mkT_ok MT GT bT (hr.mono (by decide)) (by rfl) TT (va_cons (vn_ve (vn_list (by rfl) T.list bt_list (vv (cm := cm) 8))) (va_nil (cm := cm)))) (nomark _)) (va_cons (ve_cmp (op_neX TX.hs TX.hf TX.hne TX.hm GQ (hr.mono (by decide)) pass0) (ov_neX (K := K) hC TX) (vv (cm := cm) 9) (vv (cm := cm) 10) (nomark _)) (va_nil (cm := cm)))))))) (pss_one (ps_ret (ve_cmp (op_eqD hu) ov_eq (ve_callB (call_reprD hQ hu) cv_repr (by rfl) EX.repr bb_repr (va_cons (vv (cm := cm) 7) (va_nil (cm := cm)))) (ve_callB (call_reprD hQ hu) cv_repr (by rfl) EX.repr bb_repr (va_cons (ve_lst (va_cons ve_bl (va_cons ve_bl (va_cons ve_bl (va_cons ve_bl (va_nil (cm := cm))))))) (va_nil (cm := cm)))) (nomark _))))))))))))))))), ?_⟩
    refine ⟨_, rfl, a, ns, rfl, hS, hlen, fun H1 m g s1 M => ?_⟩
    -- q
    refine ⟨hm m g, e0, .lst qs, slots_mk M.hid (by exact True.intro), q_list, fun vl H2 s2 rl => ?_⟩
    obtain ⟨p, vs, rfl, np, hp, rv⟩ := Re.lst_ rl
    refine ⟨_, rfl, m, g, 8, 0, rfl, by decide, by decide, by decide, M.same s2, fun d H3 d0 d8 M3 B => ?_⟩
    have hp3 := B _ _ hp (fun z => np (.inl z)) fun z => np (.inr z)
    have rv3 := Rep.keep B.keep rv
    obtain ⟨x, ex, hx⟩ : ∃ x, atI qs d = some x ∧ x ∈ qs := by
      have c : d = 0 ∨ d = 1 ∨ d = 2 ∨ d = 3 ∨ d = 4 ∨ d = 5 ∨ d = 6 ∨ d = 7 := by omega
      rcases c with rfl | rfl | rfl | rfl | rfl | rfl | rfl | rfl
      · exact ⟨_, rfl, .head _⟩
      · exact ⟨_, rfl, .tail _ (.head _)⟩
      · exact ⟨_, rfl, .tail _ (.tail _ (.head _))⟩
      · exact ⟨_, rfl, .tail _ (.tail _ (.tail _ (.head _)))⟩
      · exact ⟨_, rfl, .tail _ (.tail _ (.tail _ (.tail _ (.head _))))⟩
      · exact ⟨_, rfl, .tail _ (.tail _ (.tail _ (.tail _ (.tail _ (.head _)))))⟩
      · exact ⟨_, rfl, .tail _ (.tail _ (.tail _ (.tail _ (.tail _ (.tail _ (.head _))))))⟩
      · exact ⟨_, rfl, .tail _ (.tail _ (.tail _ (.tail _ (.tail _ (.tail _ (.tail _ (.head _)))))))⟩
    obtain ⟨v, ev, rx⟩ := atI_re rv3 ex
    refine ⟨p, vs, d, v, rfl, rfl, .inl (.inl hp3), ev, ?_⟩
    clear rv rv3 rl hp hp3 B s2
    -- some, words, for
    have st1 : StV cm (hm m g) [3] H3 (e1 m x) [some (V.ref a), some (V.ref m), some v, none, none, none, none, none, none, none, none] H3 := stv_mk (slots_mk M3.hid (by exact ⟨.loc m, rx, True.intro⟩)) (fun i hi => by cases hi with | head => rfl | tail _ h => cases h)
    refine ⟨hm m g, H3, e1 m x, _, st1, ev2 m x, fun σ2 H4 st2 _ => ?_⟩
    refine ⟨hm m g, H3, e2 m x, _, st2, ev3 m x, fun σ3 H5 st3 _ => ?_⟩
    refine ⟨hm m g, H3, e3 m x, _, st3, ev4 m x, fun σ4 H6 st4 _ => ?_⟩
    refine ⟨hm m g, H3, e4 m x, _, st4, ev5 m x hx, fun σ5 H7 st5 _ => ?_⟩
    obtain ⟨a0, a1, a2, a3, a4, a5, a6, a7, a8, a9, a10, rfl⟩ := len11 (st5.len.trans rfl)
    obtain ⟨w1, e1', r1⟩ := st5.val (i := 1) rfl (by decide)
    obtain ⟨v2, e2', r2⟩ := st5.val (i := 2) rfl (by decide)
    cases e1'
    cases e2'
    cases r1
    have M7 := M3.same st5.base
    clear st1 st2 st3 st4 st5 rx M3
    -- told
    refine ⟨hm m g, e6 x, _, slots_mk M7.hid (by exact ⟨r2, True.intro⟩), told_ev x, fun vs H8 s8 rs => ⟨by rw [Res.length rs]; show 4 ≤ sizeLine; decide, fun p np nsys => ?_⟩⟩
    have r2 := r2.same s8
    have M8 := M7.same s8
    have s9 : Same H8 (upd H8 p (.lst vs)) := same_new np
    have pm := M8.ne np
    have up : ∀ a, (hm m g a ∨ a = p) → hm m g a ∨ H8 a = none := fun a c => by
      rcases c with c | rfl
      · exact .inl c
      · exact .inr np
    have rs9 : Res cm (fun a => hm m g a ∨ a = p) (upd H8 p (.lst vs)) vs [x, x, x, x] := Rep.move up (Keep.of s9) rs
    have r2 : Re cm (fun a => hm m g a ∨ a = p) (upd H8 p (.lst vs)) v2 x := Rep.move up (Keep.of s9) r2
    have M9 := M8.same s9
    have hp9 : upd H8 p (.lst vs) p = some (.lst vs) := upd_same
    have l4 : vs.length = 4 := Res.length rs
    clear s9 rs
    revert rs9 r2 M9 hp9
    generalize upd H8 p (.lst vs) = H9
    intro rs9 r2 M9 hp9
    have hid9 : ∀ {H : Hp} {xs : List V}, MAt H m g 1 → H p = some (.lst xs) → Hid (fun a => hm m g a ∨ a = p) H := fun {H xs} M h a c => by
      rcases c with c | rfl
      · exact M.hid a c
      · exact ⟨_, h, fun vs z => by cases z⟩
    refine ⟨_, rfl, (show tyV K "list" (.ref p) H9 from Or.inl ⟨rfl, _, .inl (.inl hp9)⟩), _, e6 x, x, slots_mk (hid9 M9 hp9) (by exact ⟨r2, True.intro⟩), app_ev x, fun v5 H10 s10 r5 => ?_⟩
    have hp10 := s10 _ _ hp9
    refine ⟨p, _, _, rfl, rfl, hp10, by rw [l4]; show 4 < sizeLine; decide, ?_⟩
    have kp : Keep (fun a => hm m g a ∨ a = p) H10 (upd H10 p (.lst (vs ++ [v5]))) := fun b o' e n => by
      rw [upd_ne (fun z => n (.inr z))]
      exact e
    have rs11 : Res cm (fun a => hm m g a ∨ a = p) (upd H10 p (.lst (vs ++ [v5]))) (vs ++ [v5]) [x, x, x, x, x] := (Res.append (Rep.same s10 rs9) (.cons r5 .nil) : Res cm _ _ _ _).keep kp
    have r2 := (Rep.same s10 r2).keep kp
    have M11 : MAt (upd H10 p (.lst (vs ++ [v5]))) m g 1 := (M9.same s10).chgN hp10 (by rw [l4]; decide) pm
    have hp11 : upd H10 p (.lst (vs ++ [v5])) p = some (.lst (vs ++ [v5])) := upd_same
    clear kp rs9
    revert rs11 r2 M11 hp11
    generalize upd H10 p (.lst (vs ++ [v5])) = H11
    intro rs11 r2 M11 hp11
    -- if repr(told) != repr([q] * 5)
    obtain ⟨dd, ed, hn, h1, h2, h3, h4⟩ := fiveOk_some (fives x hx)
    obtain ⟨as, dq1, dk1⟩ := five_dq (K := K) hp11 rs11 nsys ed hn
    refine ⟨_, rfl, .ref p, five dd, as, rfl, dq1, h1, dk1, h2, h3, ?_⟩
    refine ⟨_, rfl, by show 1 ≤ sizeLine; decide, fun p1 np1 => ⟨p1, 5, _, rfl, rfl, upd_same, by decide, by decide, by show 1 * 5 ≤ sizeLine; decide, fun p2 np2 ns2 => ?_⟩⟩
    have s12 : Same H11 (upd H11 p1 (.lst [v2])) := same_new np1
    have s13 : Same (upd H11 p1 (.lst [v2])) (upd (upd H11 p1 (.lst [v2])) p2 (.lst (List.replicate (5 : Int).toNat [v2]).flatten)) := same_new np2
    have r2 := (r2.same s12).same s13
    have M12 := (M11.same s12).same s13
    have hp12 : (upd (upd H11 p1 (.lst [v2])) p2 (.lst (List.replicate (5 : Int).toNat [v2]).flatten)) p2 = some (.lst [v2, v2, v2, v2, v2]) := upd_same
    clear s12 s13 dq1 dk1 rs11
    revert r2 M12 hp12
    generalize upd (upd H11 p1 (.lst [v2])) p2 (.lst (List.replicate (5 : Int).toNat [v2]).flatten) = H12
    intro r2 M12 hp12
    obtain ⟨as2, dq2, dk2⟩ := five_dq (K := K) hp12 (.cons r2 (.cons r2 (.cons r2 (.cons r2 (.cons r2 .nil))))) ns2 ed hn
    refine ⟨.ref p2, five dd, as2, rfl, dq2, h1, dk2, h2, h3, ?_⟩
    refine ⟨.str _, .str _, .str _, .str _, h4, h4, ?_⟩
    refine ⟨false, congrArg V.bl (by simp [PyData.eqv]), ?_⟩
    clear dq2 dk2 hp12 hp11
    have r2 := Rep.less (P' := hm m g) (fun b c => .inl c) r2
    -- rows, own, odd
    refine ⟨hm m g, e6 x, rowsT2, slots_mk M12.hid (by exact ⟨r2, True.intro⟩), rows_ev x, fun v8 H13 s13 r8 => ?_⟩
    have r2 := r2.same s13
    have M13 := M12.same s13
    obtain ⟨t, et, ht⟩ := Option.bind_eq_some_iff.mp talk_ev.1
    obtain ⟨t2, et2, ht2⟩ := Option.bind_eq_some_iff.mp talk_ev.2
    refine ⟨hm m g, e8 x, t, slots_mk M13.hid (by exact ⟨r2, r8, True.intro⟩), (own_ev x).trans et, fun v9 H14 s14 r9 => ?_⟩
    have r2 := r2.same s14
    have r8 := r8.same s14
    have M14 := M13.same s14
    refine ⟨hm m g, e8 x, .lst (odds x), slots_mk M14.hid (by exact ⟨r2, r8, True.intro⟩), odd_ev x, fun vl H15 s15 rl => ?_⟩
    obtain ⟨p5, vs5, rfl, np5, hp5, rv5⟩ := Re.lst_ rl
    refine ⟨_, rfl, m, g, 7, 1, rfl, by decide, by decide, by decide, M14.same s15, fun d2 H16 d0' d7 M16 B => ?_⟩
    have hp16 := B _ _ hp5 (fun z => np5 (.inl z)) fun z => np5 (.inr z)
    have rv16 := Rep.keep B.keep rv5
    have r8 := Rep.keep B.keep (r8.same s15)
    have r9 := Rep.keep B.keep ((r9.same s15))
    obtain ⟨y, ey, wy, hy⟩ : ∃ y, atI (odds x) d2 = some y ∧ ∃ w, oddB y = some w := by
      have c : d2 = 0 ∨ d2 = 1 ∨ d2 = 2 ∨ d2 = 3 ∨ d2 = 4 ∨ d2 = 5 ∨ d2 = 6 := by omega
      rcases c with rfl | rfl | rfl | rfl | rfl | rfl | rfl
      · exact ⟨_, rfl, _, rfl⟩
      · exact ⟨_, rfl, _, rfl⟩
      · exact ⟨_, rfl, _, rfl⟩
      · exact ⟨_, rfl, _, rfl⟩
      · exact ⟨_, rfl, _, rfl⟩
      · exact ⟨_, rfl, _, rfl⟩
      · exact ⟨_, rfl, qodd x hx⟩
    obtain ⟨vy, ev2, ry⟩ := atI_re rv16 ey
    refine ⟨p5, vs5, d2, vy, rfl, rfl, .inl (.inl hp16), ev2, ?_⟩
    -- told, return
    refine ⟨hm m g, e10 t y, toldV, slots_mk M16.hid (by exact ⟨r8, r9, ry, True.intro⟩), told2_ev ht et2 ht2 hy, fun v7 H17 s17 r7 => ?_⟩
    refine ⟨hm m g, e11, .bl true, slots_mk (M16.hid.same s17) (by exact ⟨r7, True.intro⟩), ret_ev, fun vb H18 s18 rb => ?_⟩
    cases Re.bl_ rb
    exact q H18
end
end Up

namespace Up
open PySem PySem.Spec PyProof.Rows L2
theorem kit_sub {K : PySem.W.Frag} {t : Value} {C : Addr} {b : Bool} (h1 : PySem.W.subIn K (.ref C) (.ref C) = some true) (h2 : PySem.W.isClsIn K C = true) (h3 : PySem.W.typeIn K (.ref C) = some (.type "type")) (h4 : PySem.W.subIn K t (.ref C) = some b) : PySem.W.kitOne K t (.ref C) = some b := by
  have h2' : (PySem.W.clsIn K C).isSome = true := h2
  by_cases c : (t == Value.ref C) = true
  · have e : t = Value.ref C := eq_of_beq c
    subst e
    rw [h1] at h4
    cases h4
    unfold PySem.W.kitOne
    rw [if_pos c]
  · unfold PySem.W.kitOne PySem.W.kitCls
    rw [if_neg c]
    show (if ((PySem.W.clsIn K C).isSome && PySem.W.typeIn K (.ref C) == some (.type "type")) = true then PySem.W.subIn K t (.ref C) else none) = some b
    rw [h2', h3, if_pos (by rfl)]
    exact h4
theorem odd_all {p : String → Prop} (h1 : p "NoneType") (h2 : p "int") (h3 : p "str") (h4 : p "list") (h5 : p "tuple") (h6 : p "dict") : ∀ T ∈ oddT, p T := fun T hT => by
  simp only [oddT, List.mem_cons, List.not_mem_nil, or_false] at hT
  rcases hT with rfl | rfl | rfl | rfl | rfl | rfl <;> assumption
theorem all_mk {P : Program} {w : World} {K : PySem.W.Frag} {h : Heap} {mg : Str → Option Value} {fa : Addr} (X : K.In h) (G : h.Ns mainGlobals mg) (hfa : mg "law" = some (.ref fa))
    {tH tL : Tok}
    {f_is_whole : Addr}
    {od_is_whole an_is_whole : Option Addr}
    {sl_is_whole : Array (Option Value)}
    {oc_is_whole kV_is_whole dc_is_whole pm_is_whole cd_is_whole ct_is_whole : Value}
    {f_is_index : Addr}
    {od_is_index an_is_index : Option Addr}
    {sl_is_index : Array (Option Value)}
    {oc_is_index kV_is_index dc_is_index pm_is_index cd_is_index ct_is_index : Value}
    {f_is_listing : Addr}
    {od_is_listing an_is_listing : Option Addr}
    {sl_is_listing : Array (Option Value)}
    {oc_is_listing kV_is_listing dc_is_listing pm_is_listing cd_is_listing ct_is_listing : Value}
    {f_is_couple : Addr}
    {od_is_couple an_is_couple : Option Addr}
    {sl_is_couple : Array (Option Value)}
    {oc_is_couple kV_is_couple dc_is_couple pm_is_couple cd_is_couple ct_is_couple : Value}
    {f_is_doing : Addr}
    {od_is_doing an_is_doing : Option Addr}
    {sl_is_doing : Array (Option Value)}
    {oc_is_doing kV_is_doing dc_is_doing pm_is_doing cd_is_doing ct_is_doing : Value}
    {f_copied_rows : Addr}
    {od_copied_rows an_copied_rows : Option Addr}
    {sl_copied_rows : Array (Option Value)}
    {oc_copied_rows kV_copied_rows dc_copied_rows pm_copied_rows cd_copied_rows ct_copied_rows : Value}
    {f_found_places : Addr}
    {od_found_places an_found_places : Option Addr}
    {sl_found_places : Array (Option Value)}
    {oc_found_places kV_found_places dc_found_places pm_found_places cd_found_places ct_found_places : Value}
    {f_count_letters : Addr}
    {od_count_letters an_count_letters : Option Addr}
    {sl_count_letters : Array (Option Value)}
    {oc_count_letters kV_count_letters dc_count_letters pm_count_letters cd_count_letters ct_count_letters : Value}
    {f_check_letters : Addr}
    {od_check_letters an_check_letters : Option Addr}
    {sl_check_letters : Array (Option Value)}
    {oc_check_letters kV_check_letters dc_check_letters pm_check_letters cd_check_letters ct_check_letters : Value}
    {f_found_hands : Addr}
    {od_found_hands an_found_hands : Option Addr}
    {sl_found_hands : Array (Option Value)}
    {oc_found_hands kV_found_hands dc_found_hands pm_found_hands cd_found_hands ct_found_hands : Value}
    {f_found_clocks : Addr}
    {od_found_clocks an_found_clocks : Option Addr}
    {sl_found_clocks : Array (Option Value)}
    {oc_found_clocks kV_found_clocks dc_found_clocks pm_found_clocks cd_found_clocks ct_found_clocks : Value}
    {f_row_clocks : Addr}
    {od_row_clocks an_row_clocks : Option Addr}
    {sl_row_clocks : Array (Option Value)}
    {oc_row_clocks kV_row_clocks dc_row_clocks pm_row_clocks cd_row_clocks ct_row_clocks : Value}
    {f_law_mixed : Addr}
    {od_law_mixed an_law_mixed : Option Addr}
    {sl_law_mixed : Array (Option Value)}
    {oc_law_mixed kV_law_mixed dc_law_mixed pm_law_mixed cd_law_mixed ct_law_mixed : Value}
    {f_law_folded : Addr}
    {od_law_folded an_law_folded : Option Addr}
    {sl_law_folded : Array (Option Value)}
    {oc_law_folded kV_law_folded dc_law_folded pm_law_folded cd_law_folded ct_law_folded : Value}
    {f_law_draw : Addr}
    {od_law_draw an_law_draw : Option Addr}
    {sl_law_draw : Array (Option Value)}
    {oc_law_draw kV_law_draw dc_law_draw pm_law_draw cd_law_draw ct_law_draw : Value}
    {f_law_begun : Addr}
    {od_law_begun an_law_begun : Option Addr}
    {sl_law_begun : Array (Option Value)}
    {oc_law_begun kV_law_begun dc_law_begun pm_law_begun cd_law_begun ct_law_begun : Value}
    {CT fTI fTE : Addr}
    {odTI anTI : Option Addr}
    {slTI : Array (Option Value)}
    {ocTI kVTI dcTI pmTI cdTI ctTI : Value}
    {odTE anTE : Option Addr}
    {slTE : Array (Option Value)}
    {ocTE kVTE dcTE pmTE cdTE ctTE : Value}
    {CE : Addr}
    {C1 fx1 N1 : Addr}
    {nm1 q1 : Str}
    {bs1 : List Value}
    {sn1 : List Str}
    {sub1 : List Value}
    {ab1 : Bool}
    {col1 : Option Bool}
    {dd1 : Option Addr}
    {m01 m11 m21 m31 m51 : Option Value}
    {odx1 anx1 : Option Addr}
    {slx1 : Array (Option Value)}
    {ocx1 kVx1 dcx1 pmx1 cdx1 ctx1 : Value}
    {C2 fx2 N2 : Addr}
    {nm2 q2 : Str}
    {bs2 : List Value}
    {sn2 : List Str}
    {sub2 : List Value}
    {ab2 : Bool}
    {col2 : Option Bool}
    {dd2 : Option Addr}
    {m02 m12 m22 m32 m52 : Option Value}
    {odx2 anx2 : Option Addr}
    {slx2 : Array (Option Value)}
    {ocx2 kVx2 dcx2 pmx2 cdx2 ctx2 : Value}
    {C3 fx3 N3 : Addr}
    {nm3 q3 : Str}
    {bs3 : List Value}
    {sn3 : List Str}
    {sub3 : List Value}
    {ab3 : Bool}
    {col3 : Option Bool}
    {dd3 : Option Addr}
    {m03 m13 m23 m33 m53 : Option Value}
    {odx3 anx3 : Option Addr}
    {slx3 : Array (Option Value)}
    {ocx3 kVx3 dcx3 pmx3 cdx3 ctx3 : Value}
    {C4 fx4 N4 : Addr}
    {nm4 q4 : Str}
    {bs4 : List Value}
    {sn4 : List Str}
    {sub4 : List Value}
    {ab4 : Bool}
    {col4 : Option Bool}
    {dd4 : Option Addr}
    {m04 m14 m24 m34 m54 : Option Value}
    {odx4 anx4 : Option Addr}
    {slx4 : Array (Option Value)}
    {ocx4 kVx4 dcx4 pmx4 cdx4 ctx4 : Value}
    {C5 fx5 N5 : Addr}
    {nm5 q5 : Str}
    {bs5 : List Value}
    {sn5 : List Str}
    {sub5 : List Value}
    {ab5 : Bool}
    {col5 : Option Bool}
    {dd5 : Option Addr}
    {m05 m15 m25 m35 m55 : Option Value}
    {odx5 anx5 : Option Addr}
    {slx5 : Array (Option Value)}
    {ocx5 kVx5 dcx5 pmx5 cdx5 ctx5 : Value}
    {C6 fx6 N6 : Addr}
    {nm6 q6 : Str}
    {bs6 : List Value}
    {sn6 : List Str}
    {sub6 : List Value}
    {ab6 : Bool}
    {col6 : Option Bool}
    {dd6 : Option Addr}
    {m06 m16 m26 m36 m56 : Option Value}
    {odx6 anx6 : Option Addr}
    {slx6 : Array (Option Value)}
    {ocx6 kVx6 dcx6 pmx6 cdx6 ctx6 : Value}
    {C7 fx7 N7 : Addr}
    {nm7 q7 : Str}
    {bs7 : List Value}
    {sn7 : List Str}
    {sub7 : List Value}
    {ab7 : Bool}
    {col7 : Option Bool}
    {dd7 : Option Addr}
    {m07 m17 m27 m37 m57 : Option Value}
    {odx7 anx7 : Option Addr}
    {slx7 : Array (Option Value)}
    {ocx7 kVx7 dcx7 pmx7 cdx7 ctx7 : Value}
    {C8 N8 : Addr}
    {nm8 q8 : Str}
    {bs8 : List Value}
    {sn8 : List Str}
    {sub8 : List Value}
    {ab8 : Bool}
    {col8 : Option Bool}
    {dd8 : Option Addr}
    {m08 m18 m28 m38 m58 : Option Value}
    {C9 fx9 N9 : Addr}
    {nm9 q9 : Str}
    {bs9 : List Value}
    {sn9 : List Str}
    {sub9 : List Value}
    {ab9 : Bool}
    {col9 : Option Bool}
    {dd9 : Option Addr}
    {m09 m19 m29 m39 m59 : Option Value}
    {odx9 anx9 : Option Addr}
    {slx9 : Array (Option Value)}
    {ocx9 kVx9 dcx9 pmx9 cdx9 ctx9 : Value}
    {f_law_class : Addr}
    {od_law_class an_law_class : Option Addr}
    {sl_law_class : Array (Option Value)}
    {oc_law_class kV_law_class dc_law_class pm_law_class cd_law_class ct_law_class : Value}
    {f_law : Addr}
    {od_law an_law : Option Addr}
    {sl_law : Array (Option Value)}
    {oc_law kV_law dc_law pm_law cd_law ct_law : Value}
    (z_int : PySem.W.nsIn K mainGlobals "int" = some none)
    (z_len : PySem.W.nsIn K mainGlobals "len" = some none)
    (z_range : PySem.W.nsIn K mainGlobals "range" = some none)
    (z_enumerate : PySem.W.nsIn K mainGlobals "enumerate" = some none)
    (z_isinstance : PySem.W.nsIn K mainGlobals "isinstance" = some none)
    (z_bool : PySem.W.nsIn K mainGlobals "bool" = some none)
    (z_str : PySem.W.nsIn K mainGlobals "str" = some none)
    (z_list : PySem.W.nsIn K mainGlobals "list" = some none)
    (z_tuple : PySem.W.nsIn K mainGlobals "tuple" = some none)
    (z_max : PySem.W.nsIn K mainGlobals "max" = some none)
    (z_zip : PySem.W.nsIn K mainGlobals "zip" = some none)
    (z_min : PySem.W.nsIn K mainGlobals "min" = some none)
    (z_set : PySem.W.nsIn K mainGlobals "set" = some none)
    (z_sorted : PySem.W.nsIn K mainGlobals "sorted" = some none)
    (z_sum : PySem.W.nsIn K mainGlobals "sum" = some none)
    (mH : PySem.W.nsIn K mainGlobals "MOST_HANDS" = some (some (.int 6 tH)))
    (mL : PySem.W.nsIn K mainGlobals "MOST_LETTERS" = some (some (.int 12 tL)))
    (a_is_whole : PySem.W.nsIn K mainGlobals "is_whole" = some (some (.ref f_is_whole)))
    (l_is_whole : K.lookup f_is_whole = some ⟨oc_is_whole, od_is_whole, .func (PySem.W.fnOf "is_whole" "is_whole" (defArgs s_is_whole) (defBody s_is_whole) (defScope s_is_whole) .none kV_is_whole dc_is_whole pm_is_whole an_is_whole cd_is_whole ct_is_whole), sl_is_whole⟩)
    (c_is_whole : PySem.W.codeIn K cd_is_whole "is_whole" = true)
    (k_is_whole : PySem.W.keepIn K (.ref f_is_whole) = true)
    (a_is_index : PySem.W.nsIn K mainGlobals "is_index" = some (some (.ref f_is_index)))
    (l_is_index : K.lookup f_is_index = some ⟨oc_is_index, od_is_index, .func (PySem.W.fnOf "is_index" "is_index" (defArgs s_is_index) (defBody s_is_index) (defScope s_is_index) .none kV_is_index dc_is_index pm_is_index an_is_index cd_is_index ct_is_index), sl_is_index⟩)
    (c_is_index : PySem.W.codeIn K cd_is_index "is_index" = true)
    (k_is_index : PySem.W.keepIn K (.ref f_is_index) = true)
    (a_is_listing : PySem.W.nsIn K mainGlobals "is_listing" = some (some (.ref f_is_listing)))
    (l_is_listing : K.lookup f_is_listing = some ⟨oc_is_listing, od_is_listing, .func (PySem.W.fnOf "is_listing" "is_listing" (defArgs s_is_listing) (defBody s_is_listing) (defScope s_is_listing) .none kV_is_listing dc_is_listing pm_is_listing an_is_listing cd_is_listing ct_is_listing), sl_is_listing⟩)
    (c_is_listing : PySem.W.codeIn K cd_is_listing "is_listing" = true)
    (k_is_listing : PySem.W.keepIn K (.ref f_is_listing) = true)
    (a_is_couple : PySem.W.nsIn K mainGlobals "is_couple" = some (some (.ref f_is_couple)))
    (l_is_couple : K.lookup f_is_couple = some ⟨oc_is_couple, od_is_couple, .func (PySem.W.fnOf "is_couple" "is_couple" (defArgs s_is_couple) (defBody s_is_couple) (defScope s_is_couple) .none kV_is_couple dc_is_couple pm_is_couple an_is_couple cd_is_couple ct_is_couple), sl_is_couple⟩)
    (c_is_couple : PySem.W.codeIn K cd_is_couple "is_couple" = true)
    (k_is_couple : PySem.W.keepIn K (.ref f_is_couple) = true)
    (a_is_doing : PySem.W.nsIn K mainGlobals "is_doing" = some (some (.ref f_is_doing)))
    (l_is_doing : K.lookup f_is_doing = some ⟨oc_is_doing, od_is_doing, .func (PySem.W.fnOf "is_doing" "is_doing" (defArgs s_is_doing) (defBody s_is_doing) (defScope s_is_doing) .none kV_is_doing dc_is_doing pm_is_doing an_is_doing cd_is_doing ct_is_doing), sl_is_doing⟩)
    (c_is_doing : PySem.W.codeIn K cd_is_doing "is_doing" = true)
    (k_is_doing : PySem.W.keepIn K (.ref f_is_doing) = true)
    (a_copied_rows : PySem.W.nsIn K mainGlobals "copied_rows" = some (some (.ref f_copied_rows)))
    (l_copied_rows : K.lookup f_copied_rows = some ⟨oc_copied_rows, od_copied_rows, .func (PySem.W.fnOf "copied_rows" "copied_rows" (defArgs s_copied_rows) (defBody s_copied_rows) (defScope s_copied_rows) .none kV_copied_rows dc_copied_rows pm_copied_rows an_copied_rows cd_copied_rows ct_copied_rows), sl_copied_rows⟩)
    (c_copied_rows : PySem.W.codeIn K cd_copied_rows "copied_rows" = true)
    (k_copied_rows : PySem.W.keepIn K (.ref f_copied_rows) = true)
    (a_found_places : PySem.W.nsIn K mainGlobals "found_places" = some (some (.ref f_found_places)))
    (l_found_places : K.lookup f_found_places = some ⟨oc_found_places, od_found_places, .func (PySem.W.fnOf "found_places" "found_places" (defArgs s_found_places) (defBody s_found_places) (defScope s_found_places) .none kV_found_places dc_found_places pm_found_places an_found_places cd_found_places ct_found_places), sl_found_places⟩)
    (c_found_places : PySem.W.codeIn K cd_found_places "found_places" = true)
    (k_found_places : PySem.W.keepIn K (.ref f_found_places) = true)
    (a_count_letters : PySem.W.nsIn K mainGlobals "count_letters" = some (some (.ref f_count_letters)))
    (l_count_letters : K.lookup f_count_letters = some ⟨oc_count_letters, od_count_letters, .func (PySem.W.fnOf "count_letters" "count_letters" (defArgs s_count_letters) (defBody s_count_letters) (defScope s_count_letters) .none kV_count_letters dc_count_letters pm_count_letters an_count_letters cd_count_letters ct_count_letters), sl_count_letters⟩)
    (c_count_letters : PySem.W.codeIn K cd_count_letters "count_letters" = true)
    (k_count_letters : PySem.W.keepIn K (.ref f_count_letters) = true)
    (a_check_letters : PySem.W.nsIn K mainGlobals "check_letters" = some (some (.ref f_check_letters)))
    (l_check_letters : K.lookup f_check_letters = some ⟨oc_check_letters, od_check_letters, .func (PySem.W.fnOf "check_letters" "check_letters" (defArgs s_check_letters) (defBody s_check_letters) (defScope s_check_letters) .none kV_check_letters dc_check_letters pm_check_letters an_check_letters cd_check_letters ct_check_letters), sl_check_letters⟩)
    (c_check_letters : PySem.W.codeIn K cd_check_letters "check_letters" = true)
    (k_check_letters : PySem.W.keepIn K (.ref f_check_letters) = true)
    (a_found_hands : PySem.W.nsIn K mainGlobals "found_hands" = some (some (.ref f_found_hands)))
    (l_found_hands : K.lookup f_found_hands = some ⟨oc_found_hands, od_found_hands, .func (PySem.W.fnOf "found_hands" "found_hands" (defArgs s_found_hands) (defBody s_found_hands) (defScope s_found_hands) .none kV_found_hands dc_found_hands pm_found_hands an_found_hands cd_found_hands ct_found_hands), sl_found_hands⟩)
    (c_found_hands : PySem.W.codeIn K cd_found_hands "found_hands" = true)
    (k_found_hands : PySem.W.keepIn K (.ref f_found_hands) = true)
    (a_found_clocks : PySem.W.nsIn K mainGlobals "found_clocks" = some (some (.ref f_found_clocks)))
    (l_found_clocks : K.lookup f_found_clocks = some ⟨oc_found_clocks, od_found_clocks, .func (PySem.W.fnOf "found_clocks" "found_clocks" (defArgs s_found_clocks) (defBody s_found_clocks) (defScope s_found_clocks) .none kV_found_clocks dc_found_clocks pm_found_clocks an_found_clocks cd_found_clocks ct_found_clocks), sl_found_clocks⟩)
    (c_found_clocks : PySem.W.codeIn K cd_found_clocks "found_clocks" = true)
    (k_found_clocks : PySem.W.keepIn K (.ref f_found_clocks) = true)
    (a_row_clocks : PySem.W.nsIn K mainGlobals "row_clocks" = some (some (.ref f_row_clocks)))
    (l_row_clocks : K.lookup f_row_clocks = some ⟨oc_row_clocks, od_row_clocks, .func (PySem.W.fnOf "row_clocks" "row_clocks" (defArgs s_row_clocks) (defBody s_row_clocks) (defScope s_row_clocks) .none kV_row_clocks dc_row_clocks pm_row_clocks an_row_clocks cd_row_clocks ct_row_clocks), sl_row_clocks⟩)
    (c_row_clocks : PySem.W.codeIn K cd_row_clocks "row_clocks" = true)
    (k_row_clocks : PySem.W.keepIn K (.ref f_row_clocks) = true)
    (a_law_mixed : PySem.W.nsIn K mainGlobals "_law_mixed" = some (some (.ref f_law_mixed)))
    (l_law_mixed : K.lookup f_law_mixed = some ⟨oc_law_mixed, od_law_mixed, .func (PySem.W.fnOf "_law_mixed" "_law_mixed" (defArgs sMix) (defBody sMix) (defScope sMix) .none kV_law_mixed dc_law_mixed pm_law_mixed an_law_mixed cd_law_mixed ct_law_mixed), sl_law_mixed⟩)
    (c_law_mixed : PySem.W.codeIn K cd_law_mixed "_law_mixed" = true)
    (k_law_mixed : PySem.W.keepIn K (.ref f_law_mixed) = true)
    (a_law_folded : PySem.W.nsIn K mainGlobals "_law_folded" = some (some (.ref f_law_folded)))
    (l_law_folded : K.lookup f_law_folded = some ⟨oc_law_folded, od_law_folded, .func (PySem.W.fnOf "_law_folded" "_law_folded" (defArgs sFol) (defBody sFol) (defScope sFol) .none kV_law_folded dc_law_folded pm_law_folded an_law_folded cd_law_folded ct_law_folded), sl_law_folded⟩)
    (c_law_folded : PySem.W.codeIn K cd_law_folded "_law_folded" = true)
    (k_law_folded : PySem.W.keepIn K (.ref f_law_folded) = true)
    (a_law_draw : PySem.W.nsIn K mainGlobals "_law_draw" = some (some (.ref f_law_draw)))
    (l_law_draw : K.lookup f_law_draw = some ⟨oc_law_draw, od_law_draw, .func (PySem.W.fnOf "_law_draw" "_law_draw" (defArgs sDrw) (defBody sDrw) (defScope sDrw) .none kV_law_draw dc_law_draw pm_law_draw an_law_draw cd_law_draw ct_law_draw), sl_law_draw⟩)
    (c_law_draw : PySem.W.codeIn K cd_law_draw "_law_draw" = true)
    (k_law_draw : PySem.W.keepIn K (.ref f_law_draw) = true)
    (a_law_begun : PySem.W.nsIn K mainGlobals "_law_begun" = some (some (.ref f_law_begun)))
    (l_law_begun : K.lookup f_law_begun = some ⟨oc_law_begun, od_law_begun, .func (PySem.W.fnOf "_law_begun" "_law_begun" (defArgs sBeg) (defBody sBeg) (defScope sBeg) .none kV_law_begun dc_law_begun pm_law_begun an_law_begun cd_law_begun ct_law_begun), sl_law_begun⟩)
    (c_law_begun : PySem.W.codeIn K cd_law_begun "_law_begun" = true)
    (k_law_begun : PySem.W.keepIn K (.ref f_law_begun) = true)
    (cn : PySem.W.specialIn K (.builtin "object.__class__") "__get__" = some (some (.builtin "getset_descriptor.__get__")))
    (ct : PySem.W.takesIn K (.builtin "object.__class__") = some true)
    (aT : PySem.W.nsIn K mainGlobals "Talk" = some (some (.ref CT)))
    (pgT : PySem.W.plainGet K CT Str.empty = true)
    (hdT : PySem.W.hasDictIn K CT = true)
    (poT : PySem.W.plainOver K CT = true)
    (saT : PySem.W.findIn K (.ref CT) "__setattr__" = some (some (.builtin "object.__setattr__")))
    (msT : PySem.W.makesIn K CT = true)
    (kcT : PySem.W.keepIn K (.ref CT) = true)
    (caT : PySem.W.findIn K (.ref CT) "__class__" = some (some (.builtin "object.__class__")))
    (cmT : PySem.W.mroIn K CT (.type "object") = some true)
    (neT : PySem.W.findIn K (.ref CT) "__ne__" = some (some (.builtin "object.__ne__")))
    (icT : PySem.W.isClsIn K CT = true)
    (tyT : PySem.W.typeIn K (.ref CT) = some (.type "type"))
    (sfT : PySem.W.subIn K (.ref CT) (.ref CT) = some true)
    (a1T : PySem.W.findIn K (.ref CT) "__init__" = some (some (.ref fTI)))
    (i1T : PySem.W.isFn K (.ref fTI) = true)
    (a2T : PySem.W.findIn K (.ref CT) "__eq__" = some (some (.ref fTE)))
    (i2T : PySem.W.isFn K (.ref fTE) = true)
    (n_rows : PySem.W.findIn K (.ref CT) "rows" = some none)
    (n_places : PySem.W.findIn K (.ref CT) "places" = some none)
    (n_many : PySem.W.findIn K (.ref CT) "many" = some none)
    (n_senders : PySem.W.findIn K (.ref CT) "senders" = some none)
    (n_getters : PySem.W.findIn K (.ref CT) "getters" = some none)
    (n_clocks : PySem.W.findIn K (.ref CT) "clocks" = some none)
    (lTI : K.lookup fTI = some ⟨ocTI, odTI, .func (PySem.W.fnOf "__init__" "Talk.__init__" (defArgs s_tinit) (defBody s_tinit) (defScope s_tinit) .none kVTI dcTI pmTI anTI cdTI ctTI), slTI⟩)
    (cTI : PySem.W.codeIn K cdTI "Talk.__init__" = true)
    (kTI : PySem.W.keepIn K (.ref fTI) = true)
    (lTE : K.lookup fTE = some ⟨ocTE, odTE, .func (PySem.W.fnOf "__eq__" "Talk.__eq__" (defArgs s_teq) (defBody s_teq) (defScope s_teq) .none kVTE dcTE pmTE anTE cdTE ctTE), slTE⟩)
    (cTE : PySem.W.codeIn K cdTE "Talk.__eq__" = true)
    (kTE : PySem.W.keepIn K (.ref fTE) = true)
    (aCE : PySem.W.nsIn K mainGlobals "TalkError" = some (some (.ref CE)))
    (iCE : PySem.W.isClsIn K CE = true)
    (tCE : PySem.W.typeIn K (.ref CE) = some (.type "type"))
    (sCE : PySem.W.subIn K (.ref CE) (.ref CE) = some true)
    (z_repr : PySem.W.nsIn K mainGlobals "repr" = some none)
    (z_ValueError : PySem.W.nsIn K mainGlobals "ValueError" = some none)
    (z_OverflowError : PySem.W.nsIn K mainGlobals "OverflowError" = some none)
    (aC1 : PySem.W.nsIn K mainGlobals "BadTalk" = some (some (.ref C1)))
    (xL1 : K.lookup C1 = some (excClassObj nm1 q1 C1 N1 bs1 [.ref CE, .type "ValueError", .type "Exception", .type "BaseException", .type "object"] true sn1 sub1 ab1 col1 dd1 m01 m11 m21 m31 m51 "ValueError.__new__"))
    (sax1 : PySem.W.findIn K (.ref C1) "__setattr__" = some (some (.builtin "object.__setattr__")))
    (gax1 : PySem.W.findIn K (.ref C1) "__getattribute__" = some (some (.builtin "BaseException.__getattribute__")))
    (ggx1 : PySem.W.findIn K (.ref C1) "__getattr__" = some none)
    (kCx1 : PySem.W.keepIn K (.ref C1) = true)
    (eCx1 : PySem.W.subIn K (.ref C1) (.type "BaseException") = some true)
    (tCx1 : PySem.W.typeIn K (.ref C1) = some (.type "type"))
    (hCx1 : PySem.W.hasDictIn K C1 = true)
    (iCx1 : PySem.W.isClsIn K C1 = true)
    (cax1 : PySem.W.findIn K (.ref C1) "__class__" = some (some (.builtin "object.__class__")))
    (cmx1 : PySem.W.mroIn K C1 (.type "object") = some true)
    (sEx1 : PySem.W.subIn K (.ref C1) (.ref CE) = some true)
    (sVx1 : PySem.W.subIn K (.ref C1) (.type "ValueError") = some true)
    (sOx1 : PySem.W.subIn K (.ref C1) (.type "OverflowError") = some false)
    (nbx1 : PySem.W.findIn K (.ref C1) "place" = some none)
    (a1x1 : PySem.W.findIn K (.ref C1) "__init__" = some (some (.ref fx1)))
    (t1x1 : PySem.W.typeIn K (.ref fx1) = some (.type "function"))
    (lx1 : K.lookup fx1 = some ⟨ocx1, odx1, .func (PySem.W.fnOf "__init__" "BadTalk.__init__" (defArgs s_xBadTalk) (defBody s_xBadTalk) (defScope s_xBadTalk) .none kVx1 dcx1 pmx1 anx1 cdx1 ctx1), slx1⟩)
    (cx1 : PySem.W.codeIn K cdx1 "BadTalk.__init__" = true)
    (kx1 : PySem.W.keepIn K (.ref fx1) = true)
    (aC2 : PySem.W.nsIn K mainGlobals "BadDoing" = some (some (.ref C2)))
    (xL2 : K.lookup C2 = some (excClassObj nm2 q2 C2 N2 bs2 [.ref CE, .type "ValueError", .type "Exception", .type "BaseException", .type "object"] true sn2 sub2 ab2 col2 dd2 m02 m12 m22 m32 m52 "ValueError.__new__"))
    (sax2 : PySem.W.findIn K (.ref C2) "__setattr__" = some (some (.builtin "object.__setattr__")))
    (gax2 : PySem.W.findIn K (.ref C2) "__getattribute__" = some (some (.builtin "BaseException.__getattribute__")))
    (ggx2 : PySem.W.findIn K (.ref C2) "__getattr__" = some none)
    (kCx2 : PySem.W.keepIn K (.ref C2) = true)
    (eCx2 : PySem.W.subIn K (.ref C2) (.type "BaseException") = some true)
    (tCx2 : PySem.W.typeIn K (.ref C2) = some (.type "type"))
    (hCx2 : PySem.W.hasDictIn K C2 = true)
    (iCx2 : PySem.W.isClsIn K C2 = true)
    (cax2 : PySem.W.findIn K (.ref C2) "__class__" = some (some (.builtin "object.__class__")))
    (cmx2 : PySem.W.mroIn K C2 (.type "object") = some true)
    (sEx2 : PySem.W.subIn K (.ref C2) (.ref CE) = some true)
    (sVx2 : PySem.W.subIn K (.ref C2) (.type "ValueError") = some true)
    (sOx2 : PySem.W.subIn K (.ref C2) (.type "OverflowError") = some false)
    (nbx2 : PySem.W.findIn K (.ref C2) "value" = some none)
    (a1x2 : PySem.W.findIn K (.ref C2) "__init__" = some (some (.ref fx2)))
    (t1x2 : PySem.W.typeIn K (.ref fx2) = some (.type "function"))
    (lx2 : K.lookup fx2 = some ⟨ocx2, odx2, .func (PySem.W.fnOf "__init__" "BadDoing.__init__" (defArgs s_xBadDoing) (defBody s_xBadDoing) (defScope s_xBadDoing) .none kVx2 dcx2 pmx2 anx2 cdx2 ctx2), slx2⟩)
    (cx2 : PySem.W.codeIn K cdx2 "BadDoing.__init__" = true)
    (kx2 : PySem.W.keepIn K (.ref fx2) = true)
    (aC3 : PySem.W.nsIn K mainGlobals "BadNumber" = some (some (.ref C3)))
    (xL3 : K.lookup C3 = some (excClassObj nm3 q3 C3 N3 bs3 [.ref CE, .type "ValueError", .type "Exception", .type "BaseException", .type "object"] true sn3 sub3 ab3 col3 dd3 m03 m13 m23 m33 m53 "ValueError.__new__"))
    (sax3 : PySem.W.findIn K (.ref C3) "__setattr__" = some (some (.builtin "object.__setattr__")))
    (gax3 : PySem.W.findIn K (.ref C3) "__getattribute__" = some (some (.builtin "BaseException.__getattribute__")))
    (ggx3 : PySem.W.findIn K (.ref C3) "__getattr__" = some none)
    (kCx3 : PySem.W.keepIn K (.ref C3) = true)
    (eCx3 : PySem.W.subIn K (.ref C3) (.type "BaseException") = some true)
    (tCx3 : PySem.W.typeIn K (.ref C3) = some (.type "type"))
    (hCx3 : PySem.W.hasDictIn K C3 = true)
    (iCx3 : PySem.W.isClsIn K C3 = true)
    (cax3 : PySem.W.findIn K (.ref C3) "__class__" = some (some (.builtin "object.__class__")))
    (cmx3 : PySem.W.mroIn K C3 (.type "object") = some true)
    (sEx3 : PySem.W.subIn K (.ref C3) (.ref CE) = some true)
    (sVx3 : PySem.W.subIn K (.ref C3) (.type "ValueError") = some true)
    (sOx3 : PySem.W.subIn K (.ref C3) (.type "OverflowError") = some false)
    (nbx3 : PySem.W.findIn K (.ref C3) "value" = some none)
    (a1x3 : PySem.W.findIn K (.ref C3) "__init__" = some (some (.ref fx3)))
    (t1x3 : PySem.W.typeIn K (.ref fx3) = some (.type "function"))
    (lx3 : K.lookup fx3 = some ⟨ocx3, odx3, .func (PySem.W.fnOf "__init__" "BadNumber.__init__" (defArgs s_xBadNumber) (defBody s_xBadNumber) (defScope s_xBadNumber) .none kVx3 dcx3 pmx3 anx3 cdx3 ctx3), slx3⟩)
    (cx3 : PySem.W.codeIn K cdx3 "BadNumber.__init__" = true)
    (kx3 : PySem.W.keepIn K (.ref fx3) = true)
    (aC4 : PySem.W.nsIn K mainGlobals "BadRun" = some (some (.ref C4)))
    (xL4 : K.lookup C4 = some (excClassObj nm4 q4 C4 N4 bs4 [.ref CE, .type "ValueError", .type "Exception", .type "BaseException", .type "object"] true sn4 sub4 ab4 col4 dd4 m04 m14 m24 m34 m54 "ValueError.__new__"))
    (sax4 : PySem.W.findIn K (.ref C4) "__setattr__" = some (some (.builtin "object.__setattr__")))
    (gax4 : PySem.W.findIn K (.ref C4) "__getattribute__" = some (some (.builtin "BaseException.__getattribute__")))
    (ggx4 : PySem.W.findIn K (.ref C4) "__getattr__" = some none)
    (kCx4 : PySem.W.keepIn K (.ref C4) = true)
    (eCx4 : PySem.W.subIn K (.ref C4) (.type "BaseException") = some true)
    (tCx4 : PySem.W.typeIn K (.ref C4) = some (.type "type"))
    (hCx4 : PySem.W.hasDictIn K C4 = true)
    (iCx4 : PySem.W.isClsIn K C4 = true)
    (cax4 : PySem.W.findIn K (.ref C4) "__class__" = some (some (.builtin "object.__class__")))
    (cmx4 : PySem.W.mroIn K C4 (.type "object") = some true)
    (sEx4 : PySem.W.subIn K (.ref C4) (.ref CE) = some true)
    (sVx4 : PySem.W.subIn K (.ref C4) (.type "ValueError") = some true)
    (sOx4 : PySem.W.subIn K (.ref C4) (.type "OverflowError") = some false)
    (nbx4 : PySem.W.findIn K (.ref C4) "place" = some none)
    (a1x4 : PySem.W.findIn K (.ref C4) "__init__" = some (some (.ref fx4)))
    (t1x4 : PySem.W.typeIn K (.ref fx4) = some (.type "function"))
    (lx4 : K.lookup fx4 = some ⟨ocx4, odx4, .func (PySem.W.fnOf "__init__" "BadRun.__init__" (defArgs s_xBadRun) (defBody s_xBadRun) (defScope s_xBadRun) .none kVx4 dcx4 pmx4 anx4 cdx4 ctx4), slx4⟩)
    (cx4 : PySem.W.codeIn K cdx4 "BadRun.__init__" = true)
    (kx4 : PySem.W.keepIn K (.ref fx4) = true)
    (aC5 : PySem.W.nsIn K mainGlobals "BadCut" = some (some (.ref C5)))
    (xL5 : K.lookup C5 = some (excClassObj nm5 q5 C5 N5 bs5 [.ref CE, .type "ValueError", .type "Exception", .type "BaseException", .type "object"] true sn5 sub5 ab5 col5 dd5 m05 m15 m25 m35 m55 "ValueError.__new__"))
    (sax5 : PySem.W.findIn K (.ref C5) "__setattr__" = some (some (.builtin "object.__setattr__")))
    (gax5 : PySem.W.findIn K (.ref C5) "__getattribute__" = some (some (.builtin "BaseException.__getattribute__")))
    (ggx5 : PySem.W.findIn K (.ref C5) "__getattr__" = some none)
    (kCx5 : PySem.W.keepIn K (.ref C5) = true)
    (eCx5 : PySem.W.subIn K (.ref C5) (.type "BaseException") = some true)
    (tCx5 : PySem.W.typeIn K (.ref C5) = some (.type "type"))
    (hCx5 : PySem.W.hasDictIn K C5 = true)
    (iCx5 : PySem.W.isClsIn K C5 = true)
    (cax5 : PySem.W.findIn K (.ref C5) "__class__" = some (some (.builtin "object.__class__")))
    (cmx5 : PySem.W.mroIn K C5 (.type "object") = some true)
    (sEx5 : PySem.W.subIn K (.ref C5) (.ref CE) = some true)
    (sVx5 : PySem.W.subIn K (.ref C5) (.type "ValueError") = some true)
    (sOx5 : PySem.W.subIn K (.ref C5) (.type "OverflowError") = some false)
    (nbx5 : PySem.W.findIn K (.ref C5) "value" = some none)
    (a1x5 : PySem.W.findIn K (.ref C5) "__init__" = some (some (.ref fx5)))
    (t1x5 : PySem.W.typeIn K (.ref fx5) = some (.type "function"))
    (lx5 : K.lookup fx5 = some ⟨ocx5, odx5, .func (PySem.W.fnOf "__init__" "BadCut.__init__" (defArgs s_xBadCut) (defBody s_xBadCut) (defScope s_xBadCut) .none kVx5 dcx5 pmx5 anx5 cdx5 ctx5), slx5⟩)
    (cx5 : PySem.W.codeIn K cdx5 "BadCut.__init__" = true)
    (kx5 : PySem.W.keepIn K (.ref fx5) = true)
    (aC6 : PySem.W.nsIn K mainGlobals "BadText" = some (some (.ref C6)))
    (xL6 : K.lookup C6 = some (excClassObj nm6 q6 C6 N6 bs6 [.ref CE, .type "ValueError", .type "Exception", .type "BaseException", .type "object"] true sn6 sub6 ab6 col6 dd6 m06 m16 m26 m36 m56 "ValueError.__new__"))
    (sax6 : PySem.W.findIn K (.ref C6) "__setattr__" = some (some (.builtin "object.__setattr__")))
    (gax6 : PySem.W.findIn K (.ref C6) "__getattribute__" = some (some (.builtin "BaseException.__getattribute__")))
    (ggx6 : PySem.W.findIn K (.ref C6) "__getattr__" = some none)
    (kCx6 : PySem.W.keepIn K (.ref C6) = true)
    (eCx6 : PySem.W.subIn K (.ref C6) (.type "BaseException") = some true)
    (tCx6 : PySem.W.typeIn K (.ref C6) = some (.type "type"))
    (hCx6 : PySem.W.hasDictIn K C6 = true)
    (iCx6 : PySem.W.isClsIn K C6 = true)
    (cax6 : PySem.W.findIn K (.ref C6) "__class__" = some (some (.builtin "object.__class__")))
    (cmx6 : PySem.W.mroIn K C6 (.type "object") = some true)
    (sEx6 : PySem.W.subIn K (.ref C6) (.ref CE) = some true)
    (sVx6 : PySem.W.subIn K (.ref C6) (.type "ValueError") = some true)
    (sOx6 : PySem.W.subIn K (.ref C6) (.type "OverflowError") = some false)
    (nbx6 : PySem.W.findIn K (.ref C6) "place" = some none)
    (a1x6 : PySem.W.findIn K (.ref C6) "__init__" = some (some (.ref fx6)))
    (t1x6 : PySem.W.typeIn K (.ref fx6) = some (.type "function"))
    (lx6 : K.lookup fx6 = some ⟨ocx6, odx6, .func (PySem.W.fnOf "__init__" "BadText.__init__" (defArgs s_xBadText) (defBody s_xBadText) (defScope s_xBadText) .none kVx6 dcx6 pmx6 anx6 cdx6 ctx6), slx6⟩)
    (cx6 : PySem.W.codeIn K cdx6 "BadText.__init__" = true)
    (kx6 : PySem.W.keepIn K (.ref fx6) = true)
    (aC7 : PySem.W.nsIn K mainGlobals "Waits" = some (some (.ref C7)))
    (xL7 : K.lookup C7 = some (excClassObj nm7 q7 C7 N7 bs7 [.ref CE, .type "ValueError", .type "Exception", .type "BaseException", .type "object"] true sn7 sub7 ab7 col7 dd7 m07 m17 m27 m37 m57 "ValueError.__new__"))
    (sax7 : PySem.W.findIn K (.ref C7) "__setattr__" = some (some (.builtin "object.__setattr__")))
    (gax7 : PySem.W.findIn K (.ref C7) "__getattribute__" = some (some (.builtin "BaseException.__getattribute__")))
    (ggx7 : PySem.W.findIn K (.ref C7) "__getattr__" = some none)
    (kCx7 : PySem.W.keepIn K (.ref C7) = true)
    (eCx7 : PySem.W.subIn K (.ref C7) (.type "BaseException") = some true)
    (tCx7 : PySem.W.typeIn K (.ref C7) = some (.type "type"))
    (hCx7 : PySem.W.hasDictIn K C7 = true)
    (iCx7 : PySem.W.isClsIn K C7 = true)
    (cax7 : PySem.W.findIn K (.ref C7) "__class__" = some (some (.builtin "object.__class__")))
    (cmx7 : PySem.W.mroIn K C7 (.type "object") = some true)
    (sEx7 : PySem.W.subIn K (.ref C7) (.ref CE) = some true)
    (sVx7 : PySem.W.subIn K (.ref C7) (.type "ValueError") = some true)
    (sOx7 : PySem.W.subIn K (.ref C7) (.type "OverflowError") = some false)
    (nbx7 : PySem.W.findIn K (.ref C7) "letter" = some none)
    (a1x7 : PySem.W.findIn K (.ref C7) "__init__" = some (some (.ref fx7)))
    (t1x7 : PySem.W.typeIn K (.ref fx7) = some (.type "function"))
    (lx7 : K.lookup fx7 = some ⟨ocx7, odx7, .func (PySem.W.fnOf "__init__" "Waits.__init__" (defArgs s_xWaits) (defBody s_xWaits) (defScope s_xWaits) .none kVx7 dcx7 pmx7 anx7 cdx7 ctx7), slx7⟩)
    (cx7 : PySem.W.codeIn K cdx7 "Waits.__init__" = true)
    (kx7 : PySem.W.keepIn K (.ref fx7) = true)
    (aC8 : PySem.W.nsIn K mainGlobals "NothingLeft" = some (some (.ref C8)))
    (xL8 : K.lookup C8 = some (excClassObj nm8 q8 C8 N8 bs8 [.ref CE, .type "ValueError", .type "Exception", .type "BaseException", .type "object"] true sn8 sub8 ab8 col8 dd8 m08 m18 m28 m38 m58 "ValueError.__new__"))
    (sax8 : PySem.W.findIn K (.ref C8) "__setattr__" = some (some (.builtin "object.__setattr__")))
    (gax8 : PySem.W.findIn K (.ref C8) "__getattribute__" = some (some (.builtin "BaseException.__getattribute__")))
    (ggx8 : PySem.W.findIn K (.ref C8) "__getattr__" = some none)
    (kCx8 : PySem.W.keepIn K (.ref C8) = true)
    (eCx8 : PySem.W.subIn K (.ref C8) (.type "BaseException") = some true)
    (tCx8 : PySem.W.typeIn K (.ref C8) = some (.type "type"))
    (hCx8 : PySem.W.hasDictIn K C8 = true)
    (iCx8 : PySem.W.isClsIn K C8 = true)
    (cax8 : PySem.W.findIn K (.ref C8) "__class__" = some (some (.builtin "object.__class__")))
    (cmx8 : PySem.W.mroIn K C8 (.type "object") = some true)
    (sEx8 : PySem.W.subIn K (.ref C8) (.ref CE) = some true)
    (sVx8 : PySem.W.subIn K (.ref C8) (.type "ValueError") = some true)
    (sOx8 : PySem.W.subIn K (.ref C8) (.type "OverflowError") = some false)
    (exx8 : PySem.W.excIn K C8 [.type "ValueError", .type "Exception", .type "BaseException", .type "object"] "ValueError.__new__" = true)
    (aC9 : PySem.W.nsIn K mainGlobals "TooGreat" = some (some (.ref C9)))
    (xL9 : K.lookup C9 = some (excClassObj nm9 q9 C9 N9 bs9 [.type "OverflowError", .type "ArithmeticError", .type "Exception", .type "BaseException", .type "object"] true sn9 sub9 ab9 col9 dd9 m09 m19 m29 m39 m59 "OverflowError.__new__"))
    (sax9 : PySem.W.findIn K (.ref C9) "__setattr__" = some (some (.builtin "object.__setattr__")))
    (gax9 : PySem.W.findIn K (.ref C9) "__getattribute__" = some (some (.builtin "BaseException.__getattribute__")))
    (ggx9 : PySem.W.findIn K (.ref C9) "__getattr__" = some none)
    (kCx9 : PySem.W.keepIn K (.ref C9) = true)
    (eCx9 : PySem.W.subIn K (.ref C9) (.type "BaseException") = some true)
    (tCx9 : PySem.W.typeIn K (.ref C9) = some (.type "type"))
    (hCx9 : PySem.W.hasDictIn K C9 = true)
    (iCx9 : PySem.W.isClsIn K C9 = true)
    (cax9 : PySem.W.findIn K (.ref C9) "__class__" = some (some (.builtin "object.__class__")))
    (cmx9 : PySem.W.mroIn K C9 (.type "object") = some true)
    (sEx9 : PySem.W.subIn K (.ref C9) (.ref CE) = some false)
    (sVx9 : PySem.W.subIn K (.ref C9) (.type "ValueError") = some false)
    (sOx9 : PySem.W.subIn K (.ref C9) (.type "OverflowError") = some true)
    (nbx9 : PySem.W.findIn K (.ref C9) "most" = some none)
    (a1x9 : PySem.W.findIn K (.ref C9) "__init__" = some (some (.ref fx9)))
    (t1x9 : PySem.W.typeIn K (.ref fx9) = some (.type "function"))
    (lx9 : K.lookup fx9 = some ⟨ocx9, odx9, .func (PySem.W.fnOf "__init__" "TooGreat.__init__" (defArgs s_xTooGreat) (defBody s_xTooGreat) (defScope s_xTooGreat) .none kVx9 dcx9 pmx9 anx9 cdx9 ctx9), slx9⟩)
    (cx9 : PySem.W.codeIn K cdx9 "TooGreat.__init__" = true)
    (kx9 : PySem.W.keepIn K (.ref fx9) = true)
    (s_1_1 : PySem.W.subIn K (.ref C1) (.ref C1) = some true)
    (s_1_2 : PySem.W.subIn K (.ref C1) (.ref C2) = some false)
    (s_1_3 : PySem.W.subIn K (.ref C1) (.ref C3) = some false)
    (s_1_4 : PySem.W.subIn K (.ref C1) (.ref C4) = some false)
    (s_1_5 : PySem.W.subIn K (.ref C1) (.ref C5) = some false)
    (s_1_6 : PySem.W.subIn K (.ref C1) (.ref C6) = some false)
    (s_1_7 : PySem.W.subIn K (.ref C1) (.ref C7) = some false)
    (s_1_8 : PySem.W.subIn K (.ref C1) (.ref C8) = some false)
    (s_1_9 : PySem.W.subIn K (.ref C1) (.ref C9) = some false)
    (s_2_1 : PySem.W.subIn K (.ref C2) (.ref C1) = some false)
    (s_2_2 : PySem.W.subIn K (.ref C2) (.ref C2) = some true)
    (s_2_3 : PySem.W.subIn K (.ref C2) (.ref C3) = some false)
    (s_2_4 : PySem.W.subIn K (.ref C2) (.ref C4) = some false)
    (s_2_5 : PySem.W.subIn K (.ref C2) (.ref C5) = some false)
    (s_2_6 : PySem.W.subIn K (.ref C2) (.ref C6) = some false)
    (s_2_7 : PySem.W.subIn K (.ref C2) (.ref C7) = some false)
    (s_2_8 : PySem.W.subIn K (.ref C2) (.ref C8) = some false)
    (s_2_9 : PySem.W.subIn K (.ref C2) (.ref C9) = some false)
    (s_3_1 : PySem.W.subIn K (.ref C3) (.ref C1) = some false)
    (s_3_2 : PySem.W.subIn K (.ref C3) (.ref C2) = some false)
    (s_3_3 : PySem.W.subIn K (.ref C3) (.ref C3) = some true)
    (s_3_4 : PySem.W.subIn K (.ref C3) (.ref C4) = some false)
    (s_3_5 : PySem.W.subIn K (.ref C3) (.ref C5) = some false)
    (s_3_6 : PySem.W.subIn K (.ref C3) (.ref C6) = some false)
    (s_3_7 : PySem.W.subIn K (.ref C3) (.ref C7) = some false)
    (s_3_8 : PySem.W.subIn K (.ref C3) (.ref C8) = some false)
    (s_3_9 : PySem.W.subIn K (.ref C3) (.ref C9) = some false)
    (s_4_1 : PySem.W.subIn K (.ref C4) (.ref C1) = some false)
    (s_4_2 : PySem.W.subIn K (.ref C4) (.ref C2) = some false)
    (s_4_3 : PySem.W.subIn K (.ref C4) (.ref C3) = some false)
    (s_4_4 : PySem.W.subIn K (.ref C4) (.ref C4) = some true)
    (s_4_5 : PySem.W.subIn K (.ref C4) (.ref C5) = some false)
    (s_4_6 : PySem.W.subIn K (.ref C4) (.ref C6) = some false)
    (s_4_7 : PySem.W.subIn K (.ref C4) (.ref C7) = some false)
    (s_4_8 : PySem.W.subIn K (.ref C4) (.ref C8) = some false)
    (s_4_9 : PySem.W.subIn K (.ref C4) (.ref C9) = some false)
    (s_5_1 : PySem.W.subIn K (.ref C5) (.ref C1) = some false)
    (s_5_2 : PySem.W.subIn K (.ref C5) (.ref C2) = some false)
    (s_5_3 : PySem.W.subIn K (.ref C5) (.ref C3) = some false)
    (s_5_4 : PySem.W.subIn K (.ref C5) (.ref C4) = some false)
    (s_5_5 : PySem.W.subIn K (.ref C5) (.ref C5) = some true)
    (s_5_6 : PySem.W.subIn K (.ref C5) (.ref C6) = some false)
    (s_5_7 : PySem.W.subIn K (.ref C5) (.ref C7) = some false)
    (s_5_8 : PySem.W.subIn K (.ref C5) (.ref C8) = some false)
    (s_5_9 : PySem.W.subIn K (.ref C5) (.ref C9) = some false)
    (s_6_1 : PySem.W.subIn K (.ref C6) (.ref C1) = some false)
    (s_6_2 : PySem.W.subIn K (.ref C6) (.ref C2) = some false)
    (s_6_3 : PySem.W.subIn K (.ref C6) (.ref C3) = some false)
    (s_6_4 : PySem.W.subIn K (.ref C6) (.ref C4) = some false)
    (s_6_5 : PySem.W.subIn K (.ref C6) (.ref C5) = some false)
    (s_6_6 : PySem.W.subIn K (.ref C6) (.ref C6) = some true)
    (s_6_7 : PySem.W.subIn K (.ref C6) (.ref C7) = some false)
    (s_6_8 : PySem.W.subIn K (.ref C6) (.ref C8) = some false)
    (s_6_9 : PySem.W.subIn K (.ref C6) (.ref C9) = some false)
    (s_7_1 : PySem.W.subIn K (.ref C7) (.ref C1) = some false)
    (s_7_2 : PySem.W.subIn K (.ref C7) (.ref C2) = some false)
    (s_7_3 : PySem.W.subIn K (.ref C7) (.ref C3) = some false)
    (s_7_4 : PySem.W.subIn K (.ref C7) (.ref C4) = some false)
    (s_7_5 : PySem.W.subIn K (.ref C7) (.ref C5) = some false)
    (s_7_6 : PySem.W.subIn K (.ref C7) (.ref C6) = some false)
    (s_7_7 : PySem.W.subIn K (.ref C7) (.ref C7) = some true)
    (s_7_8 : PySem.W.subIn K (.ref C7) (.ref C8) = some false)
    (s_7_9 : PySem.W.subIn K (.ref C7) (.ref C9) = some false)
    (s_8_1 : PySem.W.subIn K (.ref C8) (.ref C1) = some false)
    (s_8_2 : PySem.W.subIn K (.ref C8) (.ref C2) = some false)
    (s_8_3 : PySem.W.subIn K (.ref C8) (.ref C3) = some false)
    (s_8_4 : PySem.W.subIn K (.ref C8) (.ref C4) = some false)
    (s_8_5 : PySem.W.subIn K (.ref C8) (.ref C5) = some false)
    (s_8_6 : PySem.W.subIn K (.ref C8) (.ref C6) = some false)
    (s_8_7 : PySem.W.subIn K (.ref C8) (.ref C7) = some false)
    (s_8_8 : PySem.W.subIn K (.ref C8) (.ref C8) = some true)
    (s_8_9 : PySem.W.subIn K (.ref C8) (.ref C9) = some false)
    (s_9_1 : PySem.W.subIn K (.ref C9) (.ref C1) = some false)
    (s_9_2 : PySem.W.subIn K (.ref C9) (.ref C2) = some false)
    (s_9_3 : PySem.W.subIn K (.ref C9) (.ref C3) = some false)
    (s_9_4 : PySem.W.subIn K (.ref C9) (.ref C4) = some false)
    (s_9_5 : PySem.W.subIn K (.ref C9) (.ref C5) = some false)
    (s_9_6 : PySem.W.subIn K (.ref C9) (.ref C6) = some false)
    (s_9_7 : PySem.W.subIn K (.ref C9) (.ref C7) = some false)
    (s_9_8 : PySem.W.subIn K (.ref C9) (.ref C8) = some false)
    (s_9_9 : PySem.W.subIn K (.ref C9) (.ref C9) = some true)
    (u_NoneType : PySem.W.subIn K (.type "NoneType") (.ref CT) = some false)
    (v_NoneType : PySem.W.subIn K (.ref CT) (.type "NoneType") = some false)
    (u_int : PySem.W.subIn K (.type "int") (.ref CT) = some false)
    (v_int : PySem.W.subIn K (.ref CT) (.type "int") = some false)
    (u_str : PySem.W.subIn K (.type "str") (.ref CT) = some false)
    (v_str : PySem.W.subIn K (.ref CT) (.type "str") = some false)
    (u_list : PySem.W.subIn K (.type "list") (.ref CT) = some false)
    (v_list : PySem.W.subIn K (.ref CT) (.type "list") = some false)
    (u_tuple : PySem.W.subIn K (.type "tuple") (.ref CT) = some false)
    (v_tuple : PySem.W.subIn K (.ref CT) (.type "tuple") = some false)
    (u_dict : PySem.W.subIn K (.type "dict") (.ref CT) = some false)
    (v_dict : PySem.W.subIn K (.ref CT) (.type "dict") = some false)
    (a_law_class : PySem.W.nsIn K mainGlobals "_law_class" = some (some (.ref f_law_class)))
    (l_law_class : K.lookup f_law_class = some ⟨oc_law_class, od_law_class, .func (PySem.W.fnOf "_law_class" "_law_class" (defArgs st__law_class) (defBody st__law_class) (defScope st__law_class) .none kV_law_class dc_law_class pm_law_class an_law_class cd_law_class ct_law_class), sl_law_class⟩)
    (c_law_class : PySem.W.codeIn K cd_law_class "_law_class" = true)
    (k_law_class : PySem.W.keepIn K (.ref f_law_class) = true)
    (a_law : PySem.W.nsIn K mainGlobals "law" = some (some (.ref f_law)))
    (l_law : K.lookup f_law = some ⟨oc_law, od_law, .func (PySem.W.fnOf "law" "law" (defArgs st_law) (defBody st_law) (defScope st_law) .none kV_law dc_law pm_law an_law cd_law ct_law), sl_law⟩)
    (c_law : PySem.W.codeIn K cd_law "law" = true)
    (k_law : PySem.W.keepIn K (.ref f_law) = true) :
    ∃ fd : FuncData, (∀ (s : Shared) (v : Value), BindsTo s fd ⟨[v], []⟩ [("script", v)]) ∧ ∀ base : Heap, K.In base → base.Ns mainGlobals mg → FnG P w K mg base CX0 7 fa fd ["script"] (spLaw K) := by
  have e := hfa.symm.trans (PySem.W.mg_of X G a_law)
  cases e
  have F_is_whole := fun_mk (st := s_is_whole) l_is_whole c_is_whole k_is_whole
  have b_is_whole := F_is_whole.binds (ps := ["value"]) fun _ _ _ _ _ _ us hl => match us, hl with | [_], _ => rfl
  have F_is_index := fun_mk (st := s_is_index) l_is_index c_is_index k_is_index
  have b_is_index := F_is_index.binds (ps := ["value", "many"]) fun _ _ _ _ _ _ us hl => match us, hl with | [_, _], _ => rfl
  have F_is_listing := fun_mk (st := s_is_listing) l_is_listing c_is_listing k_is_listing
  have b_is_listing := F_is_listing.binds (ps := ["value", "most"]) fun _ _ _ _ _ _ us hl => match us, hl with | [_, _], _ => rfl
  have F_is_couple := fun_mk (st := s_is_couple) l_is_couple c_is_couple k_is_couple
  have b_is_couple := F_is_couple.binds (ps := ["value"]) fun _ _ _ _ _ _ us hl => match us, hl with | [_], _ => rfl
  have F_is_doing := fun_mk (st := s_is_doing) l_is_doing c_is_doing k_is_doing
  have b_is_doing := F_is_doing.binds (ps := ["value", "many"]) fun _ _ _ _ _ _ us hl => match us, hl with | [_, _], _ => rfl
  have F_copied_rows := fun_mk (st := s_copied_rows) l_copied_rows c_copied_rows k_copied_rows
  have b_copied_rows := F_copied_rows.binds (ps := ["rows"]) fun _ _ _ _ _ _ us hl => match us, hl with | [_], _ => rfl
  have F_found_places := fun_mk (st := s_found_places) l_found_places c_found_places k_found_places
  have b_found_places := F_found_places.binds (ps := ["rows"]) fun _ _ _ _ _ _ us hl => match us, hl with | [_], _ => rfl
  have F_count_letters := fun_mk (st := s_count_letters) l_count_letters c_count_letters k_count_letters
  have b_count_letters := F_count_letters.binds (ps := ["places"]) fun _ _ _ _ _ _ us hl => match us, hl with | [_], _ => rfl
  have F_check_letters := fun_mk (st := s_check_letters) l_check_letters c_check_letters k_check_letters
  have b_check_letters := F_check_letters.binds (ps := ["places", "many"]) fun _ _ _ _ _ _ us hl => match us, hl with | [_, _], _ => rfl
  have F_found_hands := fun_mk (st := s_found_hands) l_found_hands c_found_hands k_found_hands
  have b_found_hands := F_found_hands.binds (ps := ["places", "word", "many"]) fun _ _ _ _ _ _ us hl => match us, hl with | [_, _, _], _ => rfl
  have F_found_clocks := fun_mk (st := s_found_clocks) l_found_clocks c_found_clocks k_found_clocks
  have b_found_clocks := F_found_clocks.binds (ps := ["rows"]) fun _ _ _ _ _ _ us hl => match us, hl with | [_], _ => rfl
  have F_row_clocks := fun_mk (st := s_row_clocks) l_row_clocks c_row_clocks k_row_clocks
  have b_row_clocks := F_row_clocks.binds (ps := ["hand", "row", "hands", "clocks"]) fun _ _ _ _ _ _ us hl => match us, hl with | [_, _, _, _], _ => rfl
  have F_law_mixed := fun_mk (st := sMix) l_law_mixed c_law_mixed k_law_mixed
  have b_law_mixed := F_law_mixed.binds (ps := ["cell", "n"]) fun _ _ _ _ _ _ us hl => match us, hl with | [_, _], _ => rfl
  have F_law_folded := fun_mk (st := sFol) l_law_folded c_law_folded k_law_folded
  have b_law_folded := F_law_folded.binds (ps := ["script"]) fun _ _ _ _ _ _ us hl => match us, hl with | [_], _ => rfl
  have F_law_draw := fun_mk (st := sDrw) l_law_draw c_law_draw k_law_draw
  have b_law_draw := F_law_draw.binds (ps := ["m", "limit"]) fun _ _ _ _ _ _ us hl => match us, hl with | [_, _], _ => rfl
  have F_law_begun := fun_mk (st := sBeg) l_law_begun c_law_begun k_law_begun
  have b_law_begun := F_law_begun.binds (ps := ["script"]) fun _ _ _ _ _ _ us hl => match us, hl with | [_], _ => rfl
  have FTI := fun_mk (st := s_tinit) lTI cTI kTI
  have bTI := FTI.binds (ps := ["self", "rows"]) fun _ _ _ _ _ _ us hl => match us, hl with | [_, _], _ => rfl
  have FTE := fun_mk (st := s_teq) lTE cTE kTE
  have bTE := FTE.binds (ps := ["self", "other"]) fun _ _ _ _ _ _ us hl => match us, hl with | [_, _], _ => rfl
  have Fx1 := fun_mk (st := s_xBadTalk) lx1 cx1 kx1
  have bx1 := Fx1.binds (ps := ["self", "place"]) fun _ _ _ _ _ _ us hl => match us, hl with | [_, _], _ => rfl
  have Fx2 := fun_mk (st := s_xBadDoing) lx2 cx2 kx2
  have bx2 := Fx2.binds (ps := ["self", "value"]) fun _ _ _ _ _ _ us hl => match us, hl with | [_, _], _ => rfl
  have Fx3 := fun_mk (st := s_xBadNumber) lx3 cx3 kx3
  have bx3 := Fx3.binds (ps := ["self", "value"]) fun _ _ _ _ _ _ us hl => match us, hl with | [_, _], _ => rfl
  have Fx4 := fun_mk (st := s_xBadRun) lx4 cx4 kx4
  have bx4 := Fx4.binds (ps := ["self", "place"]) fun _ _ _ _ _ _ us hl => match us, hl with | [_, _], _ => rfl
  have Fx5 := fun_mk (st := s_xBadCut) lx5 cx5 kx5
  have bx5 := Fx5.binds (ps := ["self", "value"]) fun _ _ _ _ _ _ us hl => match us, hl with | [_, _], _ => rfl
  have Fx6 := fun_mk (st := s_xBadText) lx6 cx6 kx6
  have bx6 := Fx6.binds (ps := ["self", "place"]) fun _ _ _ _ _ _ us hl => match us, hl with | [_, _], _ => rfl
  have Fx7 := fun_mk (st := s_xWaits) lx7 cx7 kx7
  have bx7 := Fx7.binds (ps := ["self", "letter"]) fun _ _ _ _ _ _ us hl => match us, hl with | [_, _], _ => rfl
  have Fx9 := fun_mk (st := s_xTooGreat) lx9 cx9 kx9
  have bx9 := Fx9.binds (ps := ["self", "most"]) fun _ _ _ _ _ _ us hl => match us, hl with | [_, _], _ => rfl
  have F_law_class := fun_mk (st := st__law_class) l_law_class c_law_class k_law_class
  have b_law_class := F_law_class.binds (ps := ["error"]) fun _ _ _ _ _ _ us hl => match us, hl with | [_], _ => rfl
  have F_law := fun_mk (st := st_law) l_law c_law k_law
  have b_law := F_law.binds (ps := ["script"]) fun _ _ _ _ _ _ us hl => match us, hl with | [_], _ => rfl
  have TB : TxtB mg := ⟨(PySem.W.mg_none_of X G z_int), (PySem.W.mg_none_of X G z_len), (PySem.W.mg_none_of X G z_range), (PySem.W.mg_none_of X G z_enumerate)⟩
  have TC : TxtC mg := ⟨TB, (PySem.W.mg_none_of X G z_isinstance), (PySem.W.mg_none_of X G z_bool), (PySem.W.mg_none_of X G z_str), (PySem.W.mg_none_of X G z_list), (PySem.W.mg_none_of X G z_tuple)⟩
  have TM : TxtM mg := ⟨TC, (PySem.W.mg_none_of X G z_max)⟩
  have TZ : TxtZ mg := ⟨TM, (PySem.W.mg_none_of X G z_zip)⟩
  have TT : TxtT K mg CT f_copied_rows f_found_places f_count_letters f_check_letters f_found_hands f_found_clocks := ⟨TZ, ⟨pgT, hdT, poT, saT⟩, n_rows, n_places, n_many, n_senders, n_getters, n_clocks, (PySem.W.mg_of X G aT), (PySem.W.mg_of X G a_copied_rows), (PySem.W.mg_of X G a_found_places), (PySem.W.mg_of X G a_count_letters), (PySem.W.mg_of X G a_check_letters), (PySem.W.mg_of X G a_found_hands), (PySem.W.mg_of X G a_found_clocks)⟩
  have JT : IsTalk K CT := ⟨caT, cn, ct, cmT, kit_sub sfT icT tyT sfT⟩
  have TQ : TalkQ K CT fTE := ⟨JT, a2T, i2T, neT⟩
  have TV : TxtV K mg ⟨clsN CT C1 C2 C3 C4 C5 C6 C7 C8 C9 CE, w⟩ := ⟨TZ, (PySem.W.mg_none_of X G z_min), (PySem.W.mg_none_of X G z_set), (PySem.W.mg_none_of X G z_sorted), (PySem.W.mg_none_of X G z_sum), ⟨pgT, hdT, poT, saT⟩, n_rows, n_places, n_many, n_senders, n_getters, n_clocks⟩
  have O1 : OexA K C1 := OexA.ve ⟨⟨nm1, q1, N1, bs1, _, sn1, sub1, ab1, col1, dd1, m01, m11, m21, m31, m51, xL1, rfl⟩, sax1, eCx1, tCx1, kCx1⟩
  have Y1 : XClA K C1 := ⟨O1, gax1, ggx1, hCx1, iCx1, cax1, cn, ct, cmx1⟩
  have O2 : OexA K C2 := OexA.ve ⟨⟨nm2, q2, N2, bs2, _, sn2, sub2, ab2, col2, dd2, m02, m12, m22, m32, m52, xL2, rfl⟩, sax2, eCx2, tCx2, kCx2⟩
  have Y2 : XClA K C2 := ⟨O2, gax2, ggx2, hCx2, iCx2, cax2, cn, ct, cmx2⟩
  have O3 : OexA K C3 := OexA.ve ⟨⟨nm3, q3, N3, bs3, _, sn3, sub3, ab3, col3, dd3, m03, m13, m23, m33, m53, xL3, rfl⟩, sax3, eCx3, tCx3, kCx3⟩
  have Y3 : XClA K C3 := ⟨O3, gax3, ggx3, hCx3, iCx3, cax3, cn, ct, cmx3⟩
  have O4 : OexA K C4 := OexA.ve ⟨⟨nm4, q4, N4, bs4, _, sn4, sub4, ab4, col4, dd4, m04, m14, m24, m34, m54, xL4, rfl⟩, sax4, eCx4, tCx4, kCx4⟩
  have Y4 : XClA K C4 := ⟨O4, gax4, ggx4, hCx4, iCx4, cax4, cn, ct, cmx4⟩
  have O5 : OexA K C5 := OexA.ve ⟨⟨nm5, q5, N5, bs5, _, sn5, sub5, ab5, col5, dd5, m05, m15, m25, m35, m55, xL5, rfl⟩, sax5, eCx5, tCx5, kCx5⟩
  have Y5 : XClA K C5 := ⟨O5, gax5, ggx5, hCx5, iCx5, cax5, cn, ct, cmx5⟩
  have O6 : OexA K C6 := OexA.ve ⟨⟨nm6, q6, N6, bs6, _, sn6, sub6, ab6, col6, dd6, m06, m16, m26, m36, m56, xL6, rfl⟩, sax6, eCx6, tCx6, kCx6⟩
  have Y6 : XClA K C6 := ⟨O6, gax6, ggx6, hCx6, iCx6, cax6, cn, ct, cmx6⟩
  have O7 : OexA K C7 := OexA.ve ⟨⟨nm7, q7, N7, bs7, _, sn7, sub7, ab7, col7, dd7, m07, m17, m27, m37, m57, xL7, rfl⟩, sax7, eCx7, tCx7, kCx7⟩
  have Y7 : XClA K C7 := ⟨O7, gax7, ggx7, hCx7, iCx7, cax7, cn, ct, cmx7⟩
  have O8 : OexA K C8 := OexA.ve ⟨⟨nm8, q8, N8, bs8, _, sn8, sub8, ab8, col8, dd8, m08, m18, m28, m38, m58, xL8, rfl⟩, sax8, eCx8, tCx8, kCx8⟩
  have Y8 : XClA K C8 := ⟨O8, gax8, ggx8, hCx8, iCx8, cax8, cn, ct, cmx8⟩
  have O9 : OexA K C9 := OexA.oe xL9 sax9 eCx9 tCx9 kCx9
  have Y9 : XClA K C9 := ⟨O9, gax9, ggx9, hCx9, iCx9, cax9, cn, ct, cmx9⟩
  have EX : ExcT K mg ⟨clsN CT C1 C2 C3 C4 C5 C6 C7 C8 C9 CE, w⟩ := ⟨(PySem.W.mg_of X G aC1), (PySem.W.mg_of X G aC2), (PySem.W.mg_of X G aC3), (PySem.W.mg_of X G aC4), (PySem.W.mg_of X G aC5), (PySem.W.mg_of X G aC6), (PySem.W.mg_of X G aC7), (PySem.W.mg_of X G aC8), (PySem.W.mg_of X G aC9), (PySem.W.mg_of X G aCE), (PySem.W.mg_none_of X G z_repr), (PySem.W.mg_none_of X G z_ValueError), (PySem.W.mg_none_of X G z_OverflowError), xcs_all (Y1) (Y2) (Y3) (Y4) (Y5) (Y6) (Y7) (Y8) (Y9), xcs_all (xcs_all ((kit_sub s_1_1 iCx1 tCx1 s_1_1)) ((kit_sub s_2_2 iCx2 tCx2 s_1_2)) ((kit_sub s_3_3 iCx3 tCx3 s_1_3)) ((kit_sub s_4_4 iCx4 tCx4 s_1_4)) ((kit_sub s_5_5 iCx5 tCx5 s_1_5)) ((kit_sub s_6_6 iCx6 tCx6 s_1_6)) ((kit_sub s_7_7 iCx7 tCx7 s_1_7)) ((kit_sub s_8_8 iCx8 tCx8 s_1_8)) ((kit_sub s_9_9 iCx9 tCx9 s_1_9))) (xcs_all ((kit_sub s_1_1 iCx1 tCx1 s_2_1)) ((kit_sub s_2_2 iCx2 tCx2 s_2_2)) ((kit_sub s_3_3 iCx3 tCx3 s_2_3)) ((kit_sub s_4_4 iCx4 tCx4 s_2_4)) ((kit_sub s_5_5 iCx5 tCx5 s_2_5)) ((kit_sub s_6_6 iCx6 tCx6 s_2_6)) ((kit_sub s_7_7 iCx7 tCx7 s_2_7)) ((kit_sub s_8_8 iCx8 tCx8 s_2_8)) ((kit_sub s_9_9 iCx9 tCx9 s_2_9))) (xcs_all ((kit_sub s_1_1 iCx1 tCx1 s_3_1)) ((kit_sub s_2_2 iCx2 tCx2 s_3_2)) ((kit_sub s_3_3 iCx3 tCx3 s_3_3)) ((kit_sub s_4_4 iCx4 tCx4 s_3_4)) ((kit_sub s_5_5 iCx5 tCx5 s_3_5)) ((kit_sub s_6_6 iCx6 tCx6 s_3_6)) ((kit_sub s_7_7 iCx7 tCx7 s_3_7)) ((kit_sub s_8_8 iCx8 tCx8 s_3_8)) ((kit_sub s_9_9 iCx9 tCx9 s_3_9))) (xcs_all ((kit_sub s_1_1 iCx1 tCx1 s_4_1)) ((kit_sub s_2_2 iCx2 tCx2 s_4_2)) ((kit_sub s_3_3 iCx3 tCx3 s_4_3)) ((kit_sub s_4_4 iCx4 tCx4 s_4_4)) ((kit_sub s_5_5 iCx5 tCx5 s_4_5)) ((kit_sub s_6_6 iCx6 tCx6 s_4_6)) ((kit_sub s_7_7 iCx7 tCx7 s_4_7)) ((kit_sub s_8_8 iCx8 tCx8 s_4_8)) ((kit_sub s_9_9 iCx9 tCx9 s_4_9))) (xcs_all ((kit_sub s_1_1 iCx1 tCx1 s_5_1)) ((kit_sub s_2_2 iCx2 tCx2 s_5_2)) ((kit_sub s_3_3 iCx3 tCx3 s_5_3)) ((kit_sub s_4_4 iCx4 tCx4 s_5_4)) ((kit_sub s_5_5 iCx5 tCx5 s_5_5)) ((kit_sub s_6_6 iCx6 tCx6 s_5_6)) ((kit_sub s_7_7 iCx7 tCx7 s_5_7)) ((kit_sub s_8_8 iCx8 tCx8 s_5_8)) ((kit_sub s_9_9 iCx9 tCx9 s_5_9))) (xcs_all ((kit_sub s_1_1 iCx1 tCx1 s_6_1)) ((kit_sub s_2_2 iCx2 tCx2 s_6_2)) ((kit_sub s_3_3 iCx3 tCx3 s_6_3)) ((kit_sub s_4_4 iCx4 tCx4 s_6_4)) ((kit_sub s_5_5 iCx5 tCx5 s_6_5)) ((kit_sub s_6_6 iCx6 tCx6 s_6_6)) ((kit_sub s_7_7 iCx7 tCx7 s_6_7)) ((kit_sub s_8_8 iCx8 tCx8 s_6_8)) ((kit_sub s_9_9 iCx9 tCx9 s_6_9))) (xcs_all ((kit_sub s_1_1 iCx1 tCx1 s_7_1)) ((kit_sub s_2_2 iCx2 tCx2 s_7_2)) ((kit_sub s_3_3 iCx3 tCx3 s_7_3)) ((kit_sub s_4_4 iCx4 tCx4 s_7_4)) ((kit_sub s_5_5 iCx5 tCx5 s_7_5)) ((kit_sub s_6_6 iCx6 tCx6 s_7_6)) ((kit_sub s_7_7 iCx7 tCx7 s_7_7)) ((kit_sub s_8_8 iCx8 tCx8 s_7_8)) ((kit_sub s_9_9 iCx9 tCx9 s_7_9))) (xcs_all ((kit_sub s_1_1 iCx1 tCx1 s_8_1)) ((kit_sub s_2_2 iCx2 tCx2 s_8_2)) ((kit_sub s_3_3 iCx3 tCx3 s_8_3)) ((kit_sub s_4_4 iCx4 tCx4 s_8_4)) ((kit_sub s_5_5 iCx5 tCx5 s_8_5)) ((kit_sub s_6_6 iCx6 tCx6 s_8_6)) ((kit_sub s_7_7 iCx7 tCx7 s_8_7)) ((kit_sub s_8_8 iCx8 tCx8 s_8_8)) ((kit_sub s_9_9 iCx9 tCx9 s_8_9))) (xcs_all ((kit_sub s_1_1 iCx1 tCx1 s_9_1)) ((kit_sub s_2_2 iCx2 tCx2 s_9_2)) ((kit_sub s_3_3 iCx3 tCx3 s_9_3)) ((kit_sub s_4_4 iCx4 tCx4 s_9_4)) ((kit_sub s_5_5 iCx5 tCx5 s_9_5)) ((kit_sub s_6_6 iCx6 tCx6 s_9_6)) ((kit_sub s_7_7 iCx7 tCx7 s_9_7)) ((kit_sub s_8_8 iCx8 tCx8 s_9_8)) ((kit_sub s_9_9 iCx9 tCx9 s_9_9))), xcs_all (kit_sub sCE iCE tCE sEx1) (kit_sub sCE iCE tCE sEx2) (kit_sub sCE iCE tCE sEx3) (kit_sub sCE iCE tCE sEx4) (kit_sub sCE iCE tCE sEx5) (kit_sub sCE iCE tCE sEx6) (kit_sub sCE iCE tCE sEx7) (kit_sub sCE iCE tCE sEx8) (kit_sub sCE iCE tCE sEx9), xcs_all (kit_TY (by decide +kernel) sVx1) (kit_TY (by decide +kernel) sVx2) (kit_TY (by decide +kernel) sVx3) (kit_TY (by decide +kernel) sVx4) (kit_TY (by decide +kernel) sVx5) (kit_TY (by decide +kernel) sVx6) (kit_TY (by decide +kernel) sVx7) (kit_TY (by decide +kernel) sVx8) (kit_TY (by decide +kernel) sVx9), xcs_all (kit_TY (by decide +kernel) sOx1) (kit_TY (by decide +kernel) sOx2) (kit_TY (by decide +kernel) sOx3) (kit_TY (by decide +kernel) sOx4) (kit_TY (by decide +kernel) sOx5) (kit_TY (by decide +kernel) sOx6) (kit_TY (by decide +kernel) sOx7) (kit_TY (by decide +kernel) sOx8) (kit_TY (by decide +kernel) sOx9), three_all nbx1 nbx4 nbx6, three_all nbx2 nbx3 nbx5, one_all nbx7, one_all nbx9⟩
  have TX : TalkX K CT fTE := ⟨TQ, (odd_all (kit_sub sfT icT tyT u_NoneType) (kit_sub sfT icT tyT u_int) (kit_sub sfT icT tyT u_str) (kit_sub sfT icT tyT u_list) (kit_sub sfT icT tyT u_tuple) (kit_sub sfT icT tyT u_dict)), (odd_all (u_NoneType) (u_int) (u_str) (u_list) (u_tuple) (u_dict)), (odd_all (decl_NoneType v_NoneType) (decl_int v_int) (decl_str v_str) (decl_list v_list) (decl_tuple v_tuple) (decl_dict v_dict))⟩
  refine ⟨PySem.W.fnOf "law" "law" (defArgs st_law) (defBody st_law) (defScope st_law) .none kV_law dc_law pm_law an_law cd_law ct_law, fun st u => .of_eq rfl, fun base KB GB0 => ?_⟩
  have GB : FnOk P w K mg base CX0 2 f_law_begun _ ["script"] (spBeg K) := ok_beg F_law_begun ⟨TB, (PySem.W.mg_of X G a_law_folded)⟩ F_law_folded b_law_folded
  have GD : FnOk P w K mg base CX0 2 f_law_draw _ ["m", "limit"] spDrw := ok_drw F_law_draw ⟨TB, (PySem.W.mg_of X G a_law_mixed)⟩ F_law_mixed b_law_mixed
  have GI : FnOk P w K mg base CX0 2 f_is_index _ ["value", "many"] spIndex := ok_index F_is_index ⟨TC, (PySem.W.mg_of X G a_is_whole)⟩ F_is_whole b_is_whole
  have GO : FnOk P w K mg base CX0 3 f_is_doing _ ["value", "many"] spDoing := ok_doing F_is_doing ⟨TC, (PySem.W.mg_of X G a_is_couple), (PySem.W.mg_of X G a_is_index)⟩ F_is_couple b_is_couple F_is_index b_is_index GI
  have GP : FnOk P w K mg base CX0 4 f_found_places _ ["rows"] spPlaces := ok_places F_found_places ⟨TC, (PySem.W.mg_of X G a_is_doing), tL, (PySem.W.mg_of X G mL)⟩ F_is_doing b_is_doing GO
  have GC : FnOk P w K mg base CX0 2 f_copied_rows _ ["rows"] spCopy := ok_copy F_copied_rows ⟨TC, (PySem.W.mg_of X G a_is_listing), tH, (PySem.W.mg_of X G mH)⟩ F_is_listing b_is_listing
  have GK : ∀ Ck, FnOk P w K mg base CX0 4 f_found_clocks _ ["rows"] (spClocks Sl0 Ck) := fun Ck => (ok_clocks F_found_clocks ⟨TZ, (PySem.W.mg_of X G a_row_clocks)⟩ F_row_clocks b_row_clocks).mono (by decide)
  have GT : ∀ Ck, FnOk P w K mg base CX0 5 fTI _ ["self", "rows"] (spTInit CT Sl0 Ck) := fun Ck => ok_tinit FTI TT F_copied_rows b_copied_rows GC F_found_places b_found_places GP F_count_letters b_count_letters F_check_letters b_check_letters F_found_hands b_found_hands k_found_clocks b_found_clocks (GK Ck)
  have GQ : FnR P w K mg base CX0 1 fTE (spTEq K CT) := ((ok_teq FTE TT JT).raw bTE .nil).imp fun vs H Q E h => by rw [List.append_nil]; exact h
  have MT : Mk K CT fTI := ⟨msT, a1T, i1T, kcT⟩
  have X1 : XKA P w K mg base "BadTalk" "place" C1 := ⟨Y1, (PySem.W.mg_of X G aC1), nbx1, fx1, _, a1x1, t1x1, ok_xBadTalk Fx1 O1 nbx1, bx1, fun a u st _ => .of_eq rfl⟩
  have X2 : XKA P w K mg base "BadDoing" "value" C2 := ⟨Y2, (PySem.W.mg_of X G aC2), nbx2, fx2, _, a1x2, t1x2, ok_xBadDoing Fx2 O2 nbx2, bx2, fun a u st _ => .of_eq rfl⟩
  have X3 : XKA P w K mg base "BadNumber" "value" C3 := ⟨Y3, (PySem.W.mg_of X G aC3), nbx3, fx3, _, a1x3, t1x3, ok_xBadNumber Fx3 O3 nbx3, bx3, fun a u st _ => .of_eq rfl⟩
  have X4 : XKA P w K mg base "BadRun" "place" C4 := ⟨Y4, (PySem.W.mg_of X G aC4), nbx4, fx4, _, a1x4, t1x4, ok_xBadRun Fx4 O4 nbx4, bx4, fun a u st _ => .of_eq rfl⟩
  have X5 : XKA P w K mg base "BadCut" "value" C5 := ⟨Y5, (PySem.W.mg_of X G aC5), nbx5, fx5, _, a1x5, t1x5, ok_xBadCut Fx5 O5 nbx5, bx5, fun a u st _ => .of_eq rfl⟩
  have X6 : XKA P w K mg base "BadText" "place" C6 := ⟨Y6, (PySem.W.mg_of X G aC6), nbx6, fx6, _, a1x6, t1x6, ok_xBadText Fx6 O6 nbx6, bx6, fun a u st _ => .of_eq rfl⟩
  have X7 : XKA P w K mg base "Waits" "letter" C7 := ⟨Y7, (PySem.W.mg_of X G aC7), nbx7, fx7, _, a1x7, t1x7, ok_xWaits Fx7 O7 nbx7, bx7, fun a u st _ => .of_eq rfl⟩
  have X9 : XKA P w K mg base "TooGreat" "most" C9 := ⟨Y9, (PySem.W.mg_of X G aC9), nbx9, fx9, _, a1x9, t1x9, ok_xTooGreat Fx9 O9 nbx9, bx9, fun a u st _ => .of_eq rfl⟩
  have d__law_class := df__law_class (P := P) (w := w) (base := base) (cm := ⟨clsN CT C1 C2 C3 C4 C5 C6 C7 C8 C9 CE, w⟩) ⟨F_law_class, (PySem.W.mg_of X G a_law_class), b_law_class⟩ TV EX
  exact ok_law F_law TV EX d__law_class X1 X2 X3 X4 X5 X6 X7 X9 exx8 kCx8 (PySem.W.mg_of X G a_law_begun) (PySem.W.mg_of X G a_law_draw) F_law_begun b_law_begun GB F_law_draw b_law_draw GD rfl MT GT bTI (PySem.W.mg_of X G aT) TX GQ
end Up

open PySem PySem.W PyProof.Rows
set_option maxRecDepth 100000 in
set_option maxHeartbeats 0 in
theorem PySem.Challenge.cw_uprightletters_k78_exceptions_of_both_pa_holds : PySem.Challenge.rw_uprightletters_k78_exceptions_of_both_pa.Holds := by
  w_on; o_law; k_head; (case hw => w_witness2)
  k_fill
  refine Up.walk_ofG (l := PySem.Challenge.rw_uprightletters_k78_exceptions_of_both_pa) (n := 63) (k := 7) (x := "script") (sp := fun K => Up.spLaw K) rfl (by decide) rfl ⟨rfl, by decide, by decide⟩ (fun w h Y => PySem.W.kIn_of Y) ?F (fun K H a ns hl hS => ⟨a, ns, rfl, hS, hl, fun _ => rfl⟩)
  case F =>
    intro w mg fa h KX G hmg
    refine' Up.all_mk KX G hmg ?z_int ?z_len ?z_range ?z_enumerate ?z_isinstance ?z_bool ?z_str ?z_list ?z_tuple ?z_max ?z_zip ?z_min ?z_set ?z_sorted ?z_sum ?mH ?mL ?a_is_whole ?l_is_whole ?c_is_whole ?k_is_whole ?a_is_index ?l_is_index ?c_is_index ?k_is_index ?a_is_listing ?l_is_listing ?c_is_listing ?k_is_listing ?a_is_couple ?l_is_couple ?c_is_couple ?k_is_couple ?a_is_doing ?l_is_doing ?c_is_doing ?k_is_doing ?a_copied_rows ?l_copied_rows ?c_copied_rows ?k_copied_rows ?a_found_places ?l_found_places ?c_found_places ?k_found_places ?a_count_letters ?l_count_letters ?c_count_letters ?k_count_letters ?a_check_letters ?l_check_letters ?c_check_letters ?k_check_letters ?a_found_hands ?l_found_hands ?c_found_hands ?k_found_hands ?a_found_clocks ?l_found_clocks ?c_found_clocks ?k_found_clocks ?a_row_clocks ?l_row_clocks ?c_row_clocks ?k_row_clocks ?a_law_mixed ?l_law_mixed ?c_law_mixed ?k_law_mixed ?a_law_folded ?l_law_folded ?c_law_folded ?k_law_folded ?a_law_draw ?l_law_draw ?c_law_draw ?k_law_draw ?a_law_begun ?l_law_begun ?c_law_begun ?k_law_begun ?cn ?ct ?aT ?pgT ?hdT ?poT ?saT ?msT ?kcT ?caT ?cmT ?neT ?icT ?tyT ?sfT ?a1T ?i1T ?a2T ?i2T ?n_rows ?n_places ?n_many ?n_senders ?n_getters ?n_clocks ?lTI ?cTI ?kTI ?lTE ?cTE ?kTE ?aCE ?iCE ?tCE ?sCE ?z_repr ?z_ValueError ?z_OverflowError ?aC1 ?xL1 ?sax1 ?gax1 ?ggx1 ?kCx1 ?eCx1 ?tCx1 ?hCx1 ?iCx1 ?cax1 ?cmx1 ?sEx1 ?sVx1 ?sOx1 ?nbx1 ?a1x1 ?t1x1 ?lx1 ?cx1 ?kx1 ?aC2 ?xL2 ?sax2 ?gax2 ?ggx2 ?kCx2 ?eCx2 ?tCx2 ?hCx2 ?iCx2 ?cax2 ?cmx2 ?sEx2 ?sVx2 ?sOx2 ?nbx2 ?a1x2 ?t1x2 ?lx2 ?cx2 ?kx2 ?aC3 ?xL3 ?sax3 ?gax3 ?ggx3 ?kCx3 ?eCx3 ?tCx3 ?hCx3 ?iCx3 ?cax3 ?cmx3 ?sEx3 ?sVx3 ?sOx3 ?nbx3 ?a1x3 ?t1x3 ?lx3 ?cx3 ?kx3 ?aC4 ?xL4 ?sax4 ?gax4 ?ggx4 ?kCx4 ?eCx4 ?tCx4 ?hCx4 ?iCx4 ?cax4 ?cmx4 ?sEx4 ?sVx4 ?sOx4 ?nbx4 ?a1x4 ?t1x4 ?lx4 ?cx4 ?kx4 ?aC5 ?xL5 ?sax5 ?gax5 ?ggx5 ?kCx5 ?eCx5 ?tCx5 ?hCx5 ?iCx5 ?cax5 ?cmx5 ?sEx5 ?sVx5 ?sOx5 ?nbx5 ?a1x5 ?t1x5 ?lx5 ?cx5 ?kx5 ?aC6 ?xL6 ?sax6 ?gax6 ?ggx6 ?kCx6 ?eCx6 ?tCx6 ?hCx6 ?iCx6 ?cax6 ?cmx6 ?sEx6 ?sVx6 ?sOx6 ?nbx6 ?a1x6 ?t1x6 ?lx6 ?cx6 ?kx6 ?aC7 ?xL7 ?sax7 ?gax7 ?ggx7 ?kCx7 ?eCx7 ?tCx7 ?hCx7 ?iCx7 ?cax7 ?cmx7 ?sEx7 ?sVx7 ?sOx7 ?nbx7 ?a1x7 ?t1x7 ?lx7 ?cx7 ?kx7 ?aC8 ?xL8 ?sax8 ?gax8 ?ggx8 ?kCx8 ?eCx8 ?tCx8 ?hCx8 ?iCx8 ?cax8 ?cmx8 ?sEx8 ?sVx8 ?sOx8 ?exx8 ?aC9 ?xL9 ?sax9 ?gax9 ?ggx9 ?kCx9 ?eCx9 ?tCx9 ?hCx9 ?iCx9 ?cax9 ?cmx9 ?sEx9 ?sVx9 ?sOx9 ?nbx9 ?a1x9 ?t1x9 ?lx9 ?cx9 ?kx9 ?s_1_1 ?s_1_2 ?s_1_3 ?s_1_4 ?s_1_5 ?s_1_6 ?s_1_7 ?s_1_8 ?s_1_9 ?s_2_1 ?s_2_2 ?s_2_3 ?s_2_4 ?s_2_5 ?s_2_6 ?s_2_7 ?s_2_8 ?s_2_9 ?s_3_1 ?s_3_2 ?s_3_3 ?s_3_4 ?s_3_5 ?s_3_6 ?s_3_7 ?s_3_8 ?s_3_9 ?s_4_1 ?s_4_2 ?s_4_3 ?s_4_4 ?s_4_5 ?s_4_6 ?s_4_7 ?s_4_8 ?s_4_9 ?s_5_1 ?s_5_2 ?s_5_3 ?s_5_4 ?s_5_5 ?s_5_6 ?s_5_7 ?s_5_8 ?s_5_9 ?s_6_1 ?s_6_2 ?s_6_3 ?s_6_4 ?s_6_5 ?s_6_6 ?s_6_7 ?s_6_8 ?s_6_9 ?s_7_1 ?s_7_2 ?s_7_3 ?s_7_4 ?s_7_5 ?s_7_6 ?s_7_7 ?s_7_8 ?s_7_9 ?s_8_1 ?s_8_2 ?s_8_3 ?s_8_4 ?s_8_5 ?s_8_6 ?s_8_7 ?s_8_8 ?s_8_9 ?s_9_1 ?s_9_2 ?s_9_3 ?s_9_4 ?s_9_5 ?s_9_6 ?s_9_7 ?s_9_8 ?s_9_9 ?u_NoneType ?v_NoneType ?u_int ?v_int ?u_str ?v_str ?u_list ?v_list ?u_tuple ?v_tuple ?u_dict ?v_dict ?a_law_class ?l_law_class ?c_law_class ?k_law_class ?a_law ?l_law ?c_law ?k_law
    (case z_int => k_is)
    (case z_len => k_is)
    (case z_range => k_is)
    (case z_enumerate => k_is)
    (case z_isinstance => k_is)
    (case z_bool => k_is)
    (case z_str => k_is)
    (case z_list => k_is)
    (case z_tuple => k_is)
    (case z_max => k_is)
    (case z_zip => k_is)
    (case z_min => k_is)
    (case z_set => k_is)
    (case z_sorted => k_is)
    (case z_sum => k_is)
    (case mH => k_is)
    (case mL => k_is)
    (case a_is_whole => k_is)
    (case l_is_whole => k_is)
    (case c_is_whole => k_is)
    (case k_is_whole => k_is)
    (case a_is_index => k_is)
    (case l_is_index => k_is)
    (case c_is_index => k_is)
    (case k_is_index => k_is)
    (case a_is_listing => k_is)
    (case l_is_listing => k_is)
    (case c_is_listing => k_is)
    (case k_is_listing => k_is)
    (case a_is_couple => k_is)
    (case l_is_couple => k_is)
    (case c_is_couple => k_is)
    (case k_is_couple => k_is)
    (case a_is_doing => k_is)
    (case l_is_doing => k_is)
    (case c_is_doing => k_is)
    (case k_is_doing => k_is)
    (case a_copied_rows => k_is)
    (case l_copied_rows => k_is)
    (case c_copied_rows => k_is)
    (case k_copied_rows => k_is)
    (case a_found_places => k_is)
    (case l_found_places => k_is)
    (case c_found_places => k_is)
    (case k_found_places => k_is)
    (case a_count_letters => k_is)
    (case l_count_letters => k_is)
    (case c_count_letters => k_is)
    (case k_count_letters => k_is)
    (case a_check_letters => k_is)
    (case l_check_letters => k_is)
    (case c_check_letters => k_is)
    (case k_check_letters => k_is)
    (case a_found_hands => k_is)
    (case l_found_hands => k_is)
    (case c_found_hands => k_is)
    (case k_found_hands => k_is)
    (case a_found_clocks => k_is)
    (case l_found_clocks => k_is)
    (case c_found_clocks => k_is)
    (case k_found_clocks => k_is)
    (case a_row_clocks => k_is)
    (case l_row_clocks => k_is)
    (case c_row_clocks => k_is)
    (case k_row_clocks => k_is)
    (case a_law_mixed => k_is)
    (case l_law_mixed => k_is)
    (case c_law_mixed => k_is)
    (case k_law_mixed => k_is)
    (case a_law_folded => k_is)
    (case l_law_folded => k_is)
    (case c_law_folded => k_is)
    (case k_law_folded => k_is)
    (case a_law_draw => k_is)
    (case l_law_draw => k_is)
    (case c_law_draw => k_is)
    (case k_law_draw => k_is)
    (case a_law_begun => k_is)
    (case l_law_begun => k_is)
    (case c_law_begun => k_is)
    (case k_law_begun => k_is)
    (case cn => k_is)
    (case ct => k_is)
    (case aT => k_is)
    (case pgT => k_is)
    (case hdT => k_is)
    (case poT => k_is)
    (case saT => k_is)
    (case msT => k_is)
    (case kcT => k_is)
    (case caT => k_is)
    (case cmT => k_is)
    (case neT => k_is)
    (case icT => k_is)
    (case tyT => k_is)
    (case sfT => k_is)
    (case a1T => k_is)
    (case i1T => k_is)
    (case a2T => k_is)
    (case i2T => k_is)
    (case n_rows => k_is)
    (case n_places => k_is)
    (case n_many => k_is)
    (case n_senders => k_is)
    (case n_getters => k_is)
    (case n_clocks => k_is)
    (case lTI => k_is)
    (case cTI => k_is)
    (case kTI => k_is)
    (case lTE => k_is)
    (case cTE => k_is)
    (case kTE => k_is)
    (case aCE => k_is)
    (case iCE => k_is)
    (case tCE => k_is)
    (case sCE => k_is)
    (case z_repr => k_is)
    (case z_ValueError => k_is)
    (case z_OverflowError => k_is)
    (case aC1 => k_is)
    (case xL1 => k_is)
    (case sax1 => k_is)
    (case gax1 => k_is)
    (case ggx1 => k_is)
    (case kCx1 => k_is)
    (case eCx1 => k_is)
    (case tCx1 => k_is)
    (case hCx1 => k_is)
    (case iCx1 => k_is)
    (case cax1 => k_is)
    (case cmx1 => k_is)
    (case sEx1 => k_is)
    (case sVx1 => k_is)
    (case sOx1 => k_is)
    (case nbx1 => k_is)
    (case a1x1 => k_is)
    (case t1x1 => k_is)
    (case lx1 => k_is)
    (case cx1 => k_is)
    (case kx1 => k_is)
    (case aC2 => k_is)
    (case xL2 => k_is)
    (case sax2 => k_is)
    (case gax2 => k_is)
    (case ggx2 => k_is)
    (case kCx2 => k_is)
    (case eCx2 => k_is)
    (case tCx2 => k_is)
    (case hCx2 => k_is)
    (case iCx2 => k_is)
    (case cax2 => k_is)
    (case cmx2 => k_is)
    (case sEx2 => k_is)
    (case sVx2 => k_is)
    (case sOx2 => k_is)
    (case nbx2 => k_is)
    (case a1x2 => k_is)
    (case t1x2 => k_is)
    (case lx2 => k_is)
    (case cx2 => k_is)
    (case kx2 => k_is)
    (case aC3 => k_is)
    (case xL3 => k_is)
    (case sax3 => k_is)
    (case gax3 => k_is)
    (case ggx3 => k_is)
    (case kCx3 => k_is)
    (case eCx3 => k_is)
    (case tCx3 => k_is)
    (case hCx3 => k_is)
    (case iCx3 => k_is)
    (case cax3 => k_is)
    (case cmx3 => k_is)
    (case sEx3 => k_is)
    (case sVx3 => k_is)
    (case sOx3 => k_is)
    (case nbx3 => k_is)
    (case a1x3 => k_is)
    (case t1x3 => k_is)
    (case lx3 => k_is)
    (case cx3 => k_is)
    (case kx3 => k_is)
    (case aC4 => k_is)
    (case xL4 => k_is)
    (case sax4 => k_is)
    (case gax4 => k_is)
    (case ggx4 => k_is)
    (case kCx4 => k_is)
    (case eCx4 => k_is)
    (case tCx4 => k_is)
    (case hCx4 => k_is)
    (case iCx4 => k_is)
    (case cax4 => k_is)
    (case cmx4 => k_is)
    (case sEx4 => k_is)
    (case sVx4 => k_is)
    (case sOx4 => k_is)
    (case nbx4 => k_is)
    (case a1x4 => k_is)
    (case t1x4 => k_is)
    (case lx4 => k_is)
    (case cx4 => k_is)
    (case kx4 => k_is)
    (case aC5 => k_is)
    (case xL5 => k_is)
    (case sax5 => k_is)
    (case gax5 => k_is)
    (case ggx5 => k_is)
    (case kCx5 => k_is)
    (case eCx5 => k_is)
    (case tCx5 => k_is)
    (case hCx5 => k_is)
    (case iCx5 => k_is)
    (case cax5 => k_is)
    (case cmx5 => k_is)
    (case sEx5 => k_is)
    (case sVx5 => k_is)
    (case sOx5 => k_is)
    (case nbx5 => k_is)
    (case a1x5 => k_is)
    (case t1x5 => k_is)
    (case lx5 => k_is)
    (case cx5 => k_is)
    (case kx5 => k_is)
    (case aC6 => k_is)
    (case xL6 => k_is)
    (case sax6 => k_is)
    (case gax6 => k_is)
    (case ggx6 => k_is)
    (case kCx6 => k_is)
    (case eCx6 => k_is)
    (case tCx6 => k_is)
    (case hCx6 => k_is)
    (case iCx6 => k_is)
    (case cax6 => k_is)
    (case cmx6 => k_is)
    (case sEx6 => k_is)
    (case sVx6 => k_is)
    (case sOx6 => k_is)
    (case nbx6 => k_is)
    (case a1x6 => k_is)
    (case t1x6 => k_is)
    (case lx6 => k_is)
    (case cx6 => k_is)
    (case kx6 => k_is)
    (case aC7 => k_is)
    (case xL7 => k_is)
    (case sax7 => k_is)
    (case gax7 => k_is)
    (case ggx7 => k_is)
    (case kCx7 => k_is)
    (case eCx7 => k_is)
    (case tCx7 => k_is)
    (case hCx7 => k_is)
    (case iCx7 => k_is)
    (case cax7 => k_is)
    (case cmx7 => k_is)
    (case sEx7 => k_is)
    (case sVx7 => k_is)
    (case sOx7 => k_is)
    (case nbx7 => k_is)
    (case a1x7 => k_is)
    (case t1x7 => k_is)
    (case lx7 => k_is)
    (case cx7 => k_is)
    (case kx7 => k_is)
    (case aC8 => k_is)
    (case xL8 => k_is)
    (case sax8 => k_is)
    (case gax8 => k_is)
    (case ggx8 => k_is)
    (case kCx8 => k_is)
    (case eCx8 => k_is)
    (case tCx8 => k_is)
    (case hCx8 => k_is)
    (case iCx8 => k_is)
    (case cax8 => k_is)
    (case cmx8 => k_is)
    (case sEx8 => k_is)
    (case sVx8 => k_is)
    (case sOx8 => k_is)
    (case exx8 => k_exc)
    (case aC9 => k_is)
    (case xL9 => k_is)
    (case sax9 => k_is)
    (case gax9 => k_is)
    (case ggx9 => k_is)
    (case kCx9 => k_is)
    (case eCx9 => k_is)
    (case tCx9 => k_is)
    (case hCx9 => k_is)
    (case iCx9 => k_is)
    (case cax9 => k_is)
    (case cmx9 => k_is)
    (case sEx9 => k_is)
    (case sVx9 => k_is)
    (case sOx9 => k_is)
    (case nbx9 => k_is)
    (case a1x9 => k_is)
    (case t1x9 => k_is)
    (case lx9 => k_is)
    (case cx9 => k_is)
    (case kx9 => k_is)
    (case s_1_1 => k_is)
    (case s_1_2 => k_is)
    (case s_1_3 => k_is)
    (case s_1_4 => k_is)
    (case s_1_5 => k_is)
    (case s_1_6 => k_is)
    (case s_1_7 => k_is)
    (case s_1_8 => k_is)
    (case s_1_9 => k_is)
    (case s_2_1 => k_is)
    (case s_2_2 => k_is)
    (case s_2_3 => k_is)
    (case s_2_4 => k_is)
    (case s_2_5 => k_is)
    (case s_2_6 => k_is)
    (case s_2_7 => k_is)
    (case s_2_8 => k_is)
    (case s_2_9 => k_is)
    (case s_3_1 => k_is)
    (case s_3_2 => k_is)
    (case s_3_3 => k_is)
    (case s_3_4 => k_is)
    (case s_3_5 => k_is)
    (case s_3_6 => k_is)
    (case s_3_7 => k_is)
    (case s_3_8 => k_is)
    (case s_3_9 => k_is)
    (case s_4_1 => k_is)
    (case s_4_2 => k_is)
    (case s_4_3 => k_is)
    (case s_4_4 => k_is)
    (case s_4_5 => k_is)
    (case s_4_6 => k_is)
    (case s_4_7 => k_is)
    (case s_4_8 => k_is)
    (case s_4_9 => k_is)
    (case s_5_1 => k_is)
    (case s_5_2 => k_is)
    (case s_5_3 => k_is)
    (case s_5_4 => k_is)
    (case s_5_5 => k_is)
    (case s_5_6 => k_is)
    (case s_5_7 => k_is)
    (case s_5_8 => k_is)
    (case s_5_9 => k_is)
    (case s_6_1 => k_is)
    (case s_6_2 => k_is)
    (case s_6_3 => k_is)
    (case s_6_4 => k_is)
    (case s_6_5 => k_is)
    (case s_6_6 => k_is)
    (case s_6_7 => k_is)
    (case s_6_8 => k_is)
    (case s_6_9 => k_is)
    (case s_7_1 => k_is)
    (case s_7_2 => k_is)
    (case s_7_3 => k_is)
    (case s_7_4 => k_is)
    (case s_7_5 => k_is)
    (case s_7_6 => k_is)
    (case s_7_7 => k_is)
    (case s_7_8 => k_is)
    (case s_7_9 => k_is)
    (case s_8_1 => k_is)
    (case s_8_2 => k_is)
    (case s_8_3 => k_is)
    (case s_8_4 => k_is)
    (case s_8_5 => k_is)
    (case s_8_6 => k_is)
    (case s_8_7 => k_is)
    (case s_8_8 => k_is)
    (case s_8_9 => k_is)
    (case s_9_1 => k_is)
    (case s_9_2 => k_is)
    (case s_9_3 => k_is)
    (case s_9_4 => k_is)
    (case s_9_5 => k_is)
    (case s_9_6 => k_is)
    (case s_9_7 => k_is)
    (case s_9_8 => k_is)
    (case s_9_9 => k_is)
    (case u_NoneType => k_is)
    (case v_NoneType => k_is)
    (case u_int => k_is)
    (case v_int => k_is)
    (case u_str => k_is)
    (case v_str => k_is)
    (case u_list => k_is)
    (case v_list => k_is)
    (case u_tuple => k_is)
    (case v_tuple => k_is)
    (case u_dict => k_is)
    (case v_dict => k_is)
    (case a_law_class => k_is)
    (case l_law_class => k_is)
    (case c_law_class => k_is)
    (case k_law_class => k_is)
    (case a_law => k_is)
    (case l_law => k_is)
    (case c_law => k_is)
    (case k_law => k_is)
#print axioms PySem.Challenge.cw_uprightletters_k78_exceptions_of_both_pa_holds
