import PyProof.Rows.All
import Wide.All
import OpenK.AllK
import Wide.FinOn
import HandS.ForMost
import HandS.Walk
import HandS.Zip
import HandS.List
import KE.GoesEnum
import KE.GoesZip
import KE.GoesMore
import PySem.Challenge.RW_uprightletters_k20_talks_by_hand
import HandS.IsInst
import HandS.SortKw
import PyProof.ReprRoads
import KE.DatumOrd
import HandS.Codes
import HandS.TupLen
import PyProof.EqKinds
import PyProof.InstEq
import HandS.OwnEq
import HandS.More
import HandS.SlotsOwn
import HandS.DictTup
import HandS.Strs
import HandS.TupAny
import HandS.Star
import HandS.TupSets
import KE.KSetDisp
import KE.GoesSet
import HandS.SetFor
import HandS.MakeKwOnly
import HandS.TupLe
import HandS.SortInts
import HandS.Conv
import HandS.Ends
set_option Elab.async false
set_option linter.all false
set_option maxRecDepth 100000
set_option maxHeartbeats 4000000
/-! rules of my own: enumerate of a tuple, zip of a list and a tuple -/
namespace PySem
namespace UpR
set_option maxHeartbeats 2000000 in
/-- what enumerate's maker meets when it is handed one thing that begins to be walked -/
theorem enum1_meets {v : Value} {o : Obj} {G : Heap → Prop} (B : Begins v o G) :
    Meets (Builtin.«enumerate.__new__» ⟨[.type "enumerate", v], []⟩) (fun _ R st => G st.heap ∧
      R (.ok (.ret (.ref (st.heap.push o).objs.size)))
        { st with heap := (st.heap.push o).push { cls := .type "enumerate", data := .fields #[.none, .bool false, .ref st.heap.objs.size, rawInt 0, .none, .none] } }) :=
  .of_wp fun prog w A R st hh => by
    obtain ⟨p0, gn, dw, tok, fs⟩ := st
    obtain ⟨hG, hR⟩ := hh
    have sub1 := sub_enumerate
    have it1 : ∀ {A' : Around} {E : Value → Shared → Prop} {Q : Value → Shared → Prop}, Q (.ref p0.objs.size) ⟨p0.push o, gn, dw, tok, fs⟩ → wpAny (model prog w) A' (pyIter v) Q E ⟨p0, gn, dw, tok, fs⟩ :=
      fun hq => B.iter prog w _ _ ⟨p0, gn, dw, tok, fs⟩ _ hG hq
    wp_walk using it1
    refine wpAny_stack_any fun stk => wpAny_pure ?_
    split
    · rename_i cc _ _ _ _ _
      cases (cc == Value.type "enumerate")
      all_goals
        wp_walk using it1
        exact ⟨_, rfl, hR⟩
    · wp_walk using it1
      exact ⟨_, rfl, hR⟩
theorem enum1_begins {prog : Program} {w : World} {A : Around} {E : Value → Shared → Prop} {st : Shared} {v : Value} {o : Obj} {G : Heap → Prop} {Q : Value → Shared → Prop} (B : Begins v o G) (hG : G st.heap)
    (hh : ∀ h', IsEnum h' (st.heap.objs.size + 1) st.heap.objs.size 0 .none → h'.get? st.heap.objs.size = some o → h'.objs.size = st.heap.objs.size + 2 →
      (∀ b u, st.heap.get? b = some u → h'.get? b = some u) → Q (.ref (st.heap.objs.size + 1)) { st with heap := h' }) :
    wpAny (model prog w) A (call (.type "enumerate") [v]) Q E st := by
  refine callType_new F.called_enumerate (by decide) (F.typeCall_enumerate_1 _) (F.newCall_enumerate_1 _) (fun obj => F.args_object_init_2 obj _) F.entry_enumerate_new (enum1_meets B) ⟨hG, ?_⟩
  have sz : (st.heap.push o).objs.size = st.heap.objs.size + 1 := Heap.size_push ..
  show _ ∧ _
  rw [sz]
  have en : IsEnum ((st.heap.push o).push { cls := .type "enumerate", data := .fields #[.none, .bool false, .ref st.heap.objs.size, rawInt 0, .none, .none] }) (st.heap.objs.size + 1) st.heap.objs.size 0 .none := by
    have t := Heap.get?_push_size (st.heap.push o) (o := { cls := .type "enumerate", data := .fields #[.none, .bool false, .ref st.heap.objs.size, rawInt 0, .none, .none] }) rfl
    rw [sz] at t
    exact t
  exact ⟨⟨_, en, rfl⟩, hh _ en (Heap.get?_push_of_some _ (Heap.get?_push_size _ B.free)) (by rw [Heap.size_push, sz]) fun b u e => Heap.get?_push_of_some _ (Heap.get?_push_of_some _ e)⟩
end UpR
end PySem
namespace Up
open PySem PySem.Spec PyProof.Rows L2
/-- the tuple at a, each item in a new pair behind its number -/
def IeT (K : PySem.W.Frag) (a : Addr) : It :=
  ⟨fun i H => ∃ (xs : List V) (x : V), SqT K H a xs ∧ xs[i]? = some x,
   fun i H v H' => ∃ U x, v = .ref U ∧ H U = none ∧ H' = upd H U (.tup [.int (i : Nat), x]) ∧ ∀ xs, SqT K H a xs → xs[i]? = some x,
   fun i H => ∃ xs : List V, SqT K H a xs ∧ xs.length = i⟩
theorem turn_eT {P : Program} {w : World} {K : PySem.W.Frag} {elts : List Expr} {kk : Nat} {tp : Pos} (a e it : Addr) :
    Turn P w K (.Tuple elts kk tp) (IeT K a) [e, it] e (fun i h => (∃ old, IsEnum h e it ((i : Nat) : Int) old) ∧ h.IsTupleIter it a i ∧ e ≠ it ∧ e ≠ a ∧ a ≠ it) where
  mem := List.mem_cons_self ..
  obj := fun i h st b hb => by
    obtain ⟨⟨old, he⟩, ⟨o, ho, _, hd⟩, _⟩ := st
    rcases (show b = e ∨ b = it by simpa using hb) with z | z
    · rw [z]
      exact ⟨_, he, fun v q => nomatch q⟩
    · rw [z]
      exact ⟨o, ho, fun v q => by rw [hd] at q; cases q⟩
  keep := fun i h h' st k => by
    obtain ⟨⟨old, he⟩, hi, ne⟩ := st
    exact ⟨⟨old, k e (by simp) _ he⟩, hi.at fun o q => k it (by simp) o q, ne⟩
  item := by
    intro X hP hw hK hc i pins s σ H E I hf st hg
    subst hP hw hK
    obtain ⟨⟨old, he⟩, hit, nei, nea, nai⟩ := st
    obtain ⟨xs, x, hq, hx⟩ := hg
    obtain ⟨its, rv, p, _⟩ := I.tuple hq
    obtain ⟨u, hu, ru⟩ := rv.get hx
    have hlt : i < its.toArray.size := by
      rcases Nat.lt_or_ge i its.toArray.size with z | z
      · exact z
      · simp at z
        rw [List.getElem?_eq_none z] at hu
        cases hu
    have el : e < s.heap.objs.size := Heap.lt_size he
    have il : it < s.heap.objs.size := by
      obtain ⟨_, q, _⟩ := hit
      exact Heap.lt_size q
    refine wpAny_pyNext_enum_itemD (Draws.tuple (A := X.A.in1) (I.ok.hd hc) it a nai its.toArray) he ⟨hit, p⟩ hlt nei (by simp [nei, nea]) fun x2 h' tk hx2 ho hit' hU hsz hk => ?_
    have ex2 : x2 = u := by
      have z : its[i]? = some x2 := by simpa using hx2
      exact Option.some.inj (z.symm.trans hu)
    subst ex2
    refine ⟨_, rfl, wpAny_letOwnedTupleGo_enum (s := { s with heap := h', toks := tk + 1 }) ho fun h2 he2 sb => ?_⟩
    have hU2 : h2.get? s.heap.objs.size = some { cls := .type "tuple", data := .seq #[.int i tk, x2] } := (sb.2 _ (Nat.ne_of_gt el)).trans hU
    have new : ObjOk X.prog X.w (upd H s.heap.objs.size (.tup [.int (i : Nat), x])) h2 s.heap.objs.size (.tup [.int (i : Nat), x]) :=
      ⟨by show 2 ≤ sizeLine; decide, [.int i tk, x2], .cons ⟨_, rfl⟩ (.cons ru .nil), ⟨_, hU2, rfl, _, rfl⟩⟩
    have J : Inv X pins σ (upd H s.heap.objs.size (.tup [.int (i : Nat), x])) { s with heap := h2, toks := tk + 1 } :=
      I.turnedNew (ch := [e, it]) (fun b ob hb q => (sb.2 b (fun z => hb (by simp [z]))).trans (hk b ob (fun z => hb (by simp [z])) (fun z => hb (by simp [z])) q)) hf (Nat.le_refl _) new
    refine ⟨.ref s.heap.objs.size, _, J, rfl, ⟨_, x, rfl, I.hok.fresh (Nat.le_refl _), rfl, fun ys hy => by rw [I.tuple_inj hy hq]; exact hx⟩, ⟨⟨x2, ?_⟩, hit'.1.at fun o q => (sb.2 it nei.symm).trans q, nei, nea, nai⟩, fun b hb => ?_⟩
    · have e1 : ((i + 1 : Nat) : Int) = (i : Int) + 1 := by omega
      rw [e1]
      exact he2
    · have lb : b < s.heap.objs.size := by
        rcases (show b = e ∨ b = it by simpa using hb) with z | z
        · exact z ▸ el
        · exact z ▸ il
      rw [upd_ne (Nat.ne_of_lt lb)]
      exact (hf b hb).1
  done := by
    intro X hP hw hK hc i pins s σ H E I hf st hg
    subst hP hw hK
    obtain ⟨⟨old, he⟩, hit, nei, nea, nai⟩ := st
    obtain ⟨xs, hq, hx⟩ := hg
    obtain ⟨its, rv, p, _⟩ := I.tuple hq
    obtain ⟨f0, f1, f2, f3, f4, f5⟩ := hf it (by simp)
    have hl := rv.length
    have sz : its.toArray.size = i := by
      rw [List.size_toArray]
      omega
    exact wpAny_pyNext_enum_endD (Draws.tuple (A := X.A.in1) (I.ok.hd hc) it a nai its.toArray) he (by rw [sz]; exact ⟨hit, p⟩) fun h' eb => ⟨rfl, I.turned (t' := s.toks) (fun b o hb q => eb b o hb q) f0 f1 f3 f4 f5⟩
  self := fun A i s Q E st h => let ⟨⟨_, he⟩, _⟩ := st; wpAny_pyIter_enum he h
def iEnT (K : PySem.W.Frag) (ta : TA) : TI := fun σ H R => ta σ H fun vs H1 => ∃ a xs, vs = [.ref a] ∧ SqT K H1 a xs ∧ R (IeT K a) H1
theorem pi_enT {X : Cx} {e : Expr} {ta : TA} {p pos tp : Pos} {elts : List Expr} {kk : Nat} (hg : Gl X "enumerate") (hm : X.mg "enumerate" = none) (ha : PA X [e] ta) (hs : starEach [e] X.env = [(false, eval e X.env)] := by rfl) :
    PI X (.Tuple elts kk tp) (.Call (.Name "enumerate" p) [e] [] pos) (iEnT X.K ta) := by
  refine ⟨fun pins s σ H R I h => ?_⟩
  refine Call_ (ld_blt I hg hm boot_enumerate (PyProof.Rows.callWith_type1 (thn (ha.run pos pins s σ H _ I h) fun us s1 ⟨vs, H1, I1, r1, q1⟩ => ?_) hs rfl))
  obtain ⟨a, xs, rfl, hq, q⟩ := q1
  cases r1 with
  | cons r rr =>
    cases rr
    cases r
    obtain ⟨its, rv, pt, _⟩ := I1.tuple hq
    have la : a < s1.heap.objs.size := by
      obtain ⟨o, ho, _⟩ := id pt
      exact Heap.lt_size ho
    refine PySem.UpR.enum1_begins (begins_tuple a its.toArray) pt fun h' he hit hsz hk => wpAny_pyIter_enum he ?_
    have I2 : Inv X pins σ H1 { s1 with heap := h' } := I1.kept (t' := s1.toks) hk
    refine ⟨s1.heap.objs.size + 1, [s1.heap.objs.size + 1, s1.heap.objs.size], _, _, H1, rfl, I2, turn_eT a (s1.heap.objs.size + 1) s1.heap.objs.size, ⟨⟨.none, he⟩, ⟨_, hit, rfl, rfl⟩, Nat.succ_ne_self _, ?_, ?_⟩, fun b hb => ?_, q⟩
    · exact Nat.ne_of_gt (Nat.lt_succ_of_lt la)
    · exact Nat.ne_of_lt la
    · have hle : s1.heap.objs.size ≤ b := by
        rcases (show b = s1.heap.objs.size + 1 ∨ b = s1.heap.objs.size by simpa using hb) with z | z
        · rw [z]
          exact Nat.le_succ _
        · exact Nat.le_of_eq z.symm
      exact I1.fpOk hle (I1.hok.fresh hle)
/-- a list at a beside a tuple at b, the items in new pairs -/
def IzM (K : PySem.W.Frag) (a b : Addr) : It :=
  ⟨fun i H => ∃ (xs ys : List V) (x y : V), SqL K H a xs ∧ SqT K H b ys ∧ xs[i]? = some x ∧ ys[i]? = some y,
   fun i H v H' => ∃ U x y, v = .ref U ∧ H U = none ∧ H' = upd H U (.tup [x, y]) ∧ (∀ xs, SqL K H a xs → xs[i]? = some x) ∧ ∀ ys, SqT K H b ys → ys[i]? = some y,
   fun i H => ∃ xs ys : List V, SqL K H a xs ∧ SqT K H b ys ∧ i ≤ xs.length ∧ i ≤ ys.length ∧ (i = xs.length ∨ i = ys.length)⟩
theorem no2 {x y z : Addr} (h1 : x ≠ y) (h2 : x ≠ z) : x ∉ ([y, z] : List Addr) := by simp [h1, h2]
theorem nij (n i j : Nat) (h : i ≠ j) : n + i ≠ n + j := by omega
theorem ni0 (n i : Nat) (h : i ≠ 0) : n + i ≠ n := by omega
theorem nik (n i k : Nat) (h : k < n) : n + i ≠ k := by omega
theorem n0j (n j : Nat) (h : j ≠ 0) : n ≠ n + j := by omega
theorem n0k (n k : Nat) (h : k < n) : n ≠ k := by omega
theorem sep_num (n k l : Nat) (h1 : k < n) (h2 : l < n) : ZipSep2 (n + 4) (n + 2) (n + 3) n (n + 1) [n, k] [n + 1, l] where
  TIz := nij n 2 4 (by decide)
  TOz := nij n 3 4 (by decide)
  TITO := nij n 2 3 (by decide)
  TIi1 := ni0 n 2 (by decide)
  mem1 := List.mem_cons_self ..
  zf1 := no2 (ni0 n 4 (by decide)) (nik n 4 k h1)
  Tf1 := no2 (ni0 n 3 (by decide)) (nik n 3 k h1)
  TIi2 := nij n 2 1 (by decide)
  mem2 := List.mem_cons_self ..
  zf2 := no2 (nij n 4 1 (by decide)) (nik n 4 l h2)
  Tf2 := no2 (nij n 3 1 (by decide)) (nik n 3 l h2)
  sep1_2 := no2 (n0j n 1 (by decide)) (n0k n l h2)
  sep2_1 := no2 (ni0 n 1 (by decide)) (nik n 1 k h1)
theorem turn_zM {P : Program} {w : World} {K : PySem.W.Frag} {elts : List Expr} {kk : Nat} {tp : Pos} {a b z TI TO i1 i2 : Addr} (S : ZipSep2 z TI TO i1 i2 [i1, a] [i2, b]) :
    Turn P w K (.Tuple elts kk tp) (IzM K a b) [z, TI, TO, i1, i2] z (fun i h => IsZip h z TI TO .none ∧ IsTupOf2 h TI (.ref i1) (.ref i2) ∧ (∃ x y, IsTupOf2 h TO x y) ∧ h.IsListIter i1 a i ∧ h.IsTupleIter i2 b i ∧ a ≠ i1 ∧ b ≠ i2) where
  mem := List.mem_cons_self ..
  obj := fun i h st c hc => by
    obtain ⟨hz, hTI, ⟨x, y, hTO⟩, ⟨o1, e1, _, d1⟩, ⟨o2, e2, _, d2⟩, _⟩ := st
    rcases (show c = z ∨ c = TI ∨ c = TO ∨ c = i1 ∨ c = i2 by simpa using hc) with q | q | q | q | q <;> rw [q]
    · exact ⟨_, hz, fun v q => nomatch q⟩
    · exact ⟨_, hTI, fun v q => nomatch q⟩
    · exact ⟨_, hTO, fun v q => nomatch q⟩
    · exact ⟨o1, e1, fun v q => by rw [d1] at q; cases q⟩
    · exact ⟨o2, e2, fun v q => by rw [d2] at q; cases q⟩
  keep := fun i h h' st k => by
    obtain ⟨hz, hTI, ⟨x, y, hTO⟩, h1, h2, ne⟩ := st
    exact ⟨k z (by simp) _ hz, k TI (by simp) _ hTI, ⟨x, y, k TO (by simp) _ hTO⟩, h1.at fun o q => k i1 (by simp) o q, h2.at fun o q => k i2 (by simp) o q, ne⟩
  item := by
    intro X hP hw hK hc i pins s σ H E I hf st hg
    subst hP hw hK
    obtain ⟨hz, hTI, ⟨x0, y0, hTO⟩, h1, h2, na, nb⟩ := st
    obtain ⟨xs, ys, x, y, qx, qy, ex, ey⟩ := hg
    obtain ⟨its, rv, p, _⟩ := I.list qx
    obtain ⟨jts, rw2, p2, _⟩ := I.tuple qy
    obtain ⟨u, hu, ru⟩ := rv.get ex
    obtain ⟨v, hv, rvv⟩ := rw2.get ey
    have l1 : i < its.toArray.size := by
      rw [List.size_toArray]
      exact (List.getElem?_eq_some_iff.mp hu).1
    have l2 : i < jts.toArray.size := by
      rw [List.size_toArray]
      exact (List.getElem?_eq_some_iff.mp hv).1
    have lz : z < s.heap.objs.size := Heap.lt_size hz
    have hd1 : X.A.in1.handled = none := I.ok.hd hc
    refine wpAny_pyNext_zipD2_item S (Draws.list (A := X.A.in1) hd1 i1 a na its.toArray) (Draws.tuple (A := X.A.in1) hd1 i2 b nb jts.toArray) hz hTI hTO ⟨h1, p.isList⟩ ⟨h2, p2⟩ l1 l2 fun u2 v2 h' tk eu ev z' TO' g1 g2 hU hsz hk => ?_
    have eu2 : u2 = u := by
      have t : its[i]? = some u2 := by simpa using eu
      exact Option.some.inj (t.symm.trans hu)
    have ev2 : v2 = v := by
      have t : jts[i]? = some v2 := by simpa using ev
      exact Option.some.inj (t.symm.trans hv)
    subst eu2 ev2
    refine ⟨_, rfl, wpAny_letOwnedTupleGo_zip (s := { s with heap := h', toks := tk }) z' fun k2 z2 sb => ?_⟩
    have hU2 : k2.get? s.heap.objs.size = some { cls := .type "tuple", data := .seq #[u2, v2] } := (sb.2 _ (Nat.ne_of_gt lz)).trans hU
    have new : ObjOk X.prog X.w (upd H s.heap.objs.size (.tup [x, y])) k2 s.heap.objs.size (.tup [x, y]) :=
      ⟨by show 2 ≤ sizeLine; decide, [u2, v2], .cons ru (.cons rvv .nil), ⟨_, hU2, rfl, _, rfl⟩⟩
    have J : Inv X pins σ (upd H s.heap.objs.size (.tup [x, y])) { s with heap := k2, toks := tk } :=
      I.turnedNew (ch := [z, TI, TO, i1, i2]) (fun c o hb q => (sb.2 c (fun t => hb (by simp [t]))).trans (hk c o (fun t => hb (by simp [t])) (fun t => hb (by simp [t])) (fun t => hb (by simp [t])) (fun t => hb (by simp [t])) q)) hf (Nat.le_refl _) new
    refine ⟨.ref s.heap.objs.size, _, J, rfl, ⟨_, x, y, rfl, I.hok.fresh (Nat.le_refl _), rfl, fun l hl => by rw [I.list_inj hl qx]; exact ex, fun l hl => by rw [I.tuple_inj hl qy]; exact ey⟩, ⟨z2, ?_, ⟨u2, v2, ?_⟩, ?_, ?_, na, nb⟩, fun c hcm => ?_⟩
    · exact (sb.2 _ S.TIz).trans (hk _ _ S.TIz S.TITO S.TIi1 S.TIi2 hTI)
    · exact (sb.2 _ S.TOz).trans TO'
    · exact g1.1.at fun o q => (sb.2 _ S.zi1.symm).trans q
    · exact g2.1.at fun o q => (sb.2 _ S.zi2.symm).trans q
    · have lt : c < s.heap.objs.size := by
        rcases (show c = z ∨ c = TI ∨ c = TO ∨ c = i1 ∨ c = i2 by simpa using hcm) with q | q | q | q | q <;> rw [q]
        · exact lz
        · exact Heap.lt_size hTI
        · exact Heap.lt_size hTO
        · obtain ⟨_, e1, _⟩ := h1
          exact Heap.lt_size e1
        · obtain ⟨_, e2, _⟩ := h2
          exact Heap.lt_size e2
      rw [upd_ne (Nat.ne_of_lt lt)]
      exact (hf c hcm).1
  done := by
    intro X hP hw hK hc i pins s σ H E I hf st hg
    subst hP hw hK
    obtain ⟨hz, hTI, ⟨x0, y0, hTO⟩, h1, h2, na, nb⟩ := st
    obtain ⟨xs, ys, qx, qy, le1, le2, hend⟩ := hg
    obtain ⟨its, rv, p, _⟩ := I.list qx
    obtain ⟨jts, rw2, p2, _⟩ := I.tuple qy
    have hd1 : X.A.in1.handled = none := I.ok.hd hc
    have s1 : its.toArray.size = xs.length := by rw [List.size_toArray, rv.length]
    have s2 : jts.toArray.size = ys.length := by rw [List.size_toArray, rw2.length]
    exact wpAny_pyNext_zipD2_end S (Draws.list (A := X.A.in1) hd1 i1 a na its.toArray) (Draws.tuple (A := X.A.in1) hd1 i2 b nb jts.toArray) hz hTI hTO ⟨h1, p.isList⟩ ⟨h2, p2⟩ (by omega) (by omega) (by omega) fun h' tk hk =>
      ⟨rfl, I.turnedL (ch := [z, TI, TO, i1, i2]) (fun c o hb q => hk c o (fun t => hb (by simp [t])) (fun t => hb (by simp [t])) (fun t => hb (by simp [t])) (fun t => hb (by simp [t])) q) hf⟩
  self := fun A i s Q E st h => wpAny_pyIter_zip st.1 h
def iZpM (K : PySem.W.Frag) (ta : TA) : TI := fun σ H R => ta σ H fun vs H1 => ∃ a b xs ys, vs = [.ref a, .ref b] ∧ SqL K H1 a xs ∧ SqT K H1 b ys ∧ R (IzM K a b) H1
theorem pi_zpM {X : Cx} {e e2 : Expr} {ta : TA} {p pos tp : Pos} {elts : List Expr} {kk : Nat} (hg : Gl X "zip") (hm : X.mg "zip" = none) (ha : PA X [e, e2] ta)
    (hs : starEach [e, e2] X.env = (false, eval e X.env) :: starEach [e2] X.env := by rfl) (hpl : (backTo pos (starEach [e2] X.env)).any (·.1) = false := by rfl) :
    PI X (.Tuple elts kk tp) (.Call (.Name "zip" p) [e, e2] [] pos) (iZpM X.K ta) := by
  refine ⟨fun pins s σ H R I h => ?_⟩
  refine Call_ (ld_blt I hg hm PyProof.Rows.boot_zip (PyProof.Rows.callWith_type1 (thn (ha.run pos pins s σ H _ I h) fun us s1 ⟨vs, H1, I1, r1, q1⟩ => ?_) hs hpl))
  obtain ⟨a, b, xs, ys, rfl, qx, qy, q⟩ := q1
  cases r1 with
  | cons r rr =>
    cases rr with
    | cons r' rr =>
      cases rr
      cases r
      cases r'
      obtain ⟨its, rv, p1, _⟩ := I1.list qx
      obtain ⟨jts, rw2, p2, _⟩ := I1.tuple qy
      have la : a < s1.heap.objs.size := p1.lt
      have lb : b < s1.heap.objs.size := by
        obtain ⟨o2, ho2, _⟩ := id p2
        exact Heap.lt_size ho2
      refine zip_begins2 (begins_list a its.toArray) (begins_tuple b jts.toArray) p1.isList p2 fun h' hz hTI hTO g1 g2 hsz hk => wpAny_pyIter_zip hz ?_
      have I2 : Inv X pins σ H1 { s1 with heap := h' } := I1.kept (t' := s1.toks) hk
      refine ⟨s1.heap.objs.size + 4, [s1.heap.objs.size + 4, s1.heap.objs.size + 2, s1.heap.objs.size + 3, s1.heap.objs.size, s1.heap.objs.size + 1], _, _, H1, rfl, I2, turn_zM (sep_num _ _ _ la lb), ⟨hz, hTI, ⟨_, _, hTO⟩, ⟨_, g1, rfl, rfl⟩, ⟨_, g2, rfl, rfl⟩, Nat.ne_of_lt la, Nat.ne_of_lt (Nat.lt_succ_of_lt lb)⟩, fun c hcm => ?_, q⟩
      have hle : s1.heap.objs.size ≤ c := by
        rcases (show c = s1.heap.objs.size + 4 ∨ c = s1.heap.objs.size + 2 ∨ c = s1.heap.objs.size + 3 ∨ c = s1.heap.objs.size ∨ c = s1.heap.objs.size + 1 by simpa using hcm) with t | t | t | t | t <;> rw [t]
        · exact Nat.le_add_right _ _
        · exact Nat.le_add_right _ _
        · exact Nat.le_add_right _ _
        · exact Nat.le_refl _
        · exact Nat.le_add_right _ _
      exact I1.fpOk hle (I1.hok.fresh hle)
theorem walk_zM {K : PySem.W.Frag} {a b : Addr} {xs ys : List V} {n : Nat} (hn : n = min xs.length ys.length) : Walk (IzM K a b) n (fun H => SqL K H a xs ∧ SqT K H b ys) (YPair (fun i => xs[i]?) (fun i => ys[i]?)) := by
  subst hn
  refine ⟨fun i _ hi q => ?_, fun _ q => ⟨xs, ys, q.1, q.2, by omega, by omega, by omega⟩, fun i H v H' _ q y => ?_⟩
  · have g1 : i < xs.length := by omega
    have g2 : i < ys.length := by omega
    exact ⟨xs, ys, xs[i], ys[i], q.1, q.2, by simp [g1], by simp [g2]⟩
  · obtain ⟨U, x, z, h1, h2, h3, h4, h5⟩ := y
    exact ⟨U, x, z, h1, h2, h3, h4 xs q.1, h5 ys q.2⟩
theorem walk_enT {K : PySem.W.Frag} {a : Addr} {xs : List V} : Walk (IeT K a) xs.length (fun H => SqT K H a xs) (YPair (fun i => some (.int (i : Nat))) (fun i => xs[i]?)) := by
  refine ⟨fun i _ hi q => ⟨xs, xs[i], q, by simp [hi]⟩, fun _ q => ⟨xs, q, rfl⟩, fun i H v H' _ q y => ?_⟩
  obtain ⟨U, x, h1, h2, h3, h4⟩ := y
  exact ⟨U, .int (i : Nat), x, h1, h2, h3, rfl, h4 xs q⟩
/-- a list or a tuple at a -/
def LTa (K : PySem.W.Frag) (H : Hp) (a : Addr) (xs : List V) : Prop := SqL K H a xs ∨ SqT K H a xs
def SeqW (K : PySem.W.Frag) (H : Hp) (a : Addr) (R : It → Hp → Prop) : Prop := (∃ xs, SqL K H a xs ∧ R (Itl K a) H) ∨ ∃ xs, SqT K H a xs ∧ R (Itt K a) H
def iSeq (K : PySem.W.Frag) (tl : TE) : TI := fun σ H R => tl σ H fun x H1 => ∃ a, x = .ref a ∧ SeqW K H1 a R
/-- what is walked is a list or a tuple -/
theorem pi_seq {X : Cx} {tg l : Expr} {tl : TE} (hl : PE X l tl) : PI X tg l (iSeq X.K tl) := by
  refine ⟨fun pins s σ H R I h => thn (hl.run pins s σ H _ I h) fun v s1 ⟨x, H1, I1, r1, a, e, q1⟩ => ?_⟩
  subst e
  cases r1
  have fp1 : ∀ b ∈ [s1.heap.objs.size], FpOk X pins H1 b := fun b hb => by
    obtain rfl : b = s1.heap.objs.size := by simpa using hb
    exact I1.fpOk (Nat.le_refl _) (I1.hok.fresh (Nat.le_refl _))
  rcases q1 with ⟨xs, hq, q⟩ | ⟨xs, hq, q⟩
  · obtain ⟨its, rv, p, _⟩ := I1.list hq
    exact wpAny_pyIter_list p.isList ⟨s1.heap.objs.size, [s1.heap.objs.size], _, _, H1, rfl, I1.kept (t' := s1.toks) fun b o e => Heap.get?_push_of_some _ e, turn_list a _, ⟨_, Heap.get?_push_size _ rfl, rfl, rfl⟩, fp1, q⟩
  · obtain ⟨its, rv, p, _⟩ := I1.tuple hq
    exact wpAny_pyIter_tuple (show s1.heap.IsTuple a its.toArray from p) ⟨s1.heap.objs.size, [s1.heap.objs.size], _, _, H1, rfl, I1.kept (t' := s1.toks) fun b o e => Heap.get?_push_of_some _ e, turn_tuple a _, ⟨_, Heap.get?_push_size _ rfl, rfl, rfl⟩, fp1, q⟩
theorem seqT_same {K : PySem.W.Frag} {H H' : Hp} {a : Addr} {xs : List V} (e : Same H H') (h : SqT K H a xs) : SqT K H' a xs := by
  rcases h with (h | ⟨o, h⟩) | h
  · exact .inl (.inl (e _ _ h))
  · exact .inl (.inr ⟨o, e _ _ h⟩)
  · exact .inr h
theorem LTa.same {K : PySem.W.Frag} {H H' : Hp} {a : Addr} {xs : List V} (e : Same H H') (h : LTa K H a xs) : LTa K H' a xs := h.imp e.seq (seqT_same e)
/-- its walk, whichever it is: G stands while nothing that is tracked changes -/
theorem seq_of {K : PySem.W.Frag} {H : Hp} {a : Addr} {xs : List V} {R : It → Hp → Prop} (h : LTa K H a xs)
    (k : ∀ (J : It) (G : Hp → Prop), Walk J xs.length G (YAt xs) → (∀ H', Same H H' → G H') → R J H) : SeqW K H a R := by
  rcases h with h | h
  · exact .inl ⟨xs, h, k _ _ walk_list fun H' e => e.seq h⟩
  · exact .inr ⟨xs, h, k _ _ walk_tup fun H' e => seqT_same e h⟩
/-! ### rules where the written part is named: within a comprehension -/
theorem bt_int : bootBuiltins "int" = some (.type "int") := by decide +kernel
theorem bt_bool : bootBuiltins "bool" = some (.type "bool") := by decide +kernel
theorem bt_str : bootBuiltins "str" = some (.type "str") := by decide +kernel
theorem bt_list : bootBuiltins "list" = some (.type "list") := by decide +kernel
theorem bt_tuple : bootBuiltins "tuple" = some (.type "tuple") := by decide +kernel
theorem bb_isinstance : bootBuiltins "isinstance" = some (.builtin "isinstance") := by decide +kernel
theorem bb_max : bootBuiltins "max" = some (.builtin "max") := by decide +kernel
theorem bb_min : bootBuiltins "min" = some (.builtin "min") := by decide +kernel
theorem bb_repr : bootBuiltins "repr" = some (.builtin "repr") := by decide +kernel
section
variable {X : Cx} {K : PySem.W.Frag}
def rTupOf (K : PySem.W.Frag) : List V → Hp → VK → Prop := fun xs H Q => ∃ p ys, xs = [.ref p] ∧ ((SqL K H p ys ∧ ∀ l, H l = none → Q (.ref l) (upd H l (.tup ys))) ∨ (SqT K H p ys ∧ Q (.ref p) H))
theorem call_tupK (e : X.K = K) : CallR X (.type "tuple") (rTupOf K) := e ▸ (call_tuple_of (X := X))
def rLenSq (K : PySem.W.Frag) : List V → Hp → VK → Prop := fun xs H Q => ∃ p ys, xs = [.ref p] ∧ (SqL K H p ys ∨ SqT K H p ys) ∧ Q (.int ys.length) H
theorem call_lenK (e : X.K = K) : CallR X (.builtin "len") (rLenSq K) := e ▸ (call_len_seq (X := X))
theorem ix_listK (e : X.K = K) : IxR X (rIxL K) := e ▸ (ix_list (X := X))
theorem ix_tupK (e : X.K = K) : IxR X (rIxT K) := e ▸ (ix_tup (X := X))
theorem op_inK (e : X.K = K) : OpR X (compareOp .In) (rIn K false) := e ▸ (op_in_seq (X := X))
theorem op_notInK (e : X.K = K) : OpR X (compareOp .NotIn) (rIn K true) := e ▸ (op_notIn_seq (X := X))
theorem op_eqDK (e : X.K = K) (hu : X.A.units + 64 < cLine) : OpR X (compareOp .Eq) (rEqD K) := e ▸ (op_eqD (X := X) hu)
theorem op_neDK (e : X.K = K) (hu : X.A.units + 64 < cLine) : OpR X (compareOp .NotEq) (rNeD K) := e ▸ (op_neD (X := X) hu)
theorem pg_tupK {ts : List Expr} {k n : Nat} {pos : Pos} {t : TGs} (e : X.K = K) (hc : X.calm = true) (h : PGs X ts t)
    (hn : (assignEach ts X.env).length = n := by rfl) (hs : (assignEach ts X.env).findIdx? (·.1) = none := by rfl) : PG X (.Tuple ts k pos) (gTup K n t) := e ▸ (pg_tup hc h hn hs)
end
end Up

set_option Elab.async false
set_option linter.all false
set_option maxRecDepth 100000
set_option maxHeartbeats 2000000
/-! the draws: what a law's own drawing does to the heap -/
namespace Up
open PySem PySem.Spec PyProof.Rows L2
def topS (i : Nat) : Stmt := PySem.Challenge.pw_uprightletters_k20_talks_by_hand.main.body.getD i (.Pass ⟨0, 0, 0, 0⟩)
abbrev sMix : Stmt := (topS 51)
abbrev sFol : Stmt := (topS 52)
abbrev sDrw : Stmt := (topS 53)
abbrev sBeg : Stmt := (topS 54)
theorem scM : FnScope ["cell", "n", "blend"] ["cell", "n"] (defScope sMix) := ⟨rfl, rfl, rfl, by decide +kernel, rfl, by decide +kernel, by decide +kernel⟩
theorem scF : FnScope ["script", "n", "found", "cell"] ["script"] (defScope sFol) := ⟨rfl, rfl, rfl, by decide +kernel, rfl, by decide +kernel, by decide +kernel⟩
theorem scD : FnScope ["m", "limit", "n", "lot", "here", "cell"] ["m", "limit"] (defScope sDrw) := ⟨rfl, rfl, rfl, by decide +kernel, rfl, by decide +kernel, by decide +kernel⟩
theorem scB : FnScope ["script", "m", "cell"] ["script"] (defScope sBeg) := ⟨rfl, rfl, rfl, by decide +kernel, rfl, by decide +kernel, by decide +kernel⟩
/-- built-in names that stand as they are; the drawing's own defs -/
structure TxtB (mg : Str → Option Value) : Prop where
  int : mg "int" = none
  len : mg "len" = none
  range : mg "range" = none
  enumerate : mg "enumerate" = none
section
variable {P : Program} {w : World} {K : PySem.W.Frag} {mg : Str → Option Value} {base : Heap}
/-! ### _law_mixed -/
def spMix : Sp := fun vs H Q _ => ∃ (c n : Int), vs = [.int c, .int n] ∧ -(2 ^ 62) < n ∧ n < 2 ^ 62 ∧ ∀ r : Int, Q (.int r) H
theorem ok_mix {f : Addr} {fd : FuncData} (F : Fun K "_law_mixed" "_law_mixed" sMix f fd) (T : TxtB mg) : FnOk P w K mg base CX0 1 f fd ["cell", "n"] spMix := by
  refine F.ok scM (fun vs H Q E h => ?_) (fun cdv A outer s H vs Q E hr h => ?_)
  · obtain ⟨c, n, rfl, _⟩ := h
    rfl
  · obtain ⟨c, n, rfl, lo, hi, q⟩ := h
    refine ⟨_, (pss_cons (ps_set (i := 2) scM.nd rfl (Or.inl rfl) (pe_op op_add (pe_op op_add (pe_op op_mod (pe_callTy call_int1 (by rfl) T.int bt_int (pa_cons (pe_op op_mul (pe_op op_mul (pv 0) (pe_op op_add pe_int (pe_op op_mul pe_int (pv 1)))) pe_int) pa_nil)) pe_int) (pe_op op_mul (pe_op op_mul pe_int (pv 1)) (pv 1))) (pe_op op_mul pe_int (pv 1)))) (pss_one (ps_ret (pe_op op_fdiv (pe_op op_mod (pe_callTy call_int1 (by rfl) T.int bt_int (pa_cons (pe_op op_mul (pv 2) pe_int) pa_nil)) pe_int) pe_int)))), ?_⟩
    refine ⟨_, rfl, _, rfl, _, _, rfl, rfl, .inl ⟨by decide, by decide⟩, _, _, rfl, rfl, _, _, rfl, rfl, .inr ⟨by omega, by omega⟩, _, _, rfl, rfl, .inr ⟨by decide, by decide⟩, .inl ⟨_, rfl, ?_⟩⟩
    refine ⟨_, _, rfl, rfl, (by show (0 : Int) < 2147483647; decide), ?_⟩
    refine ⟨_, rfl, _, _, rfl, rfl, .inl ⟨by decide, by decide⟩, _, rfl, _, _, rfl, rfl, .inr ⟨by omega, by omega⟩, _, _, rfl, rfl, ?_⟩
    refine ⟨_, rfl, _, _, rfl, rfl, .inl ⟨by decide, by decide⟩, _, _, rfl, rfl, ?_⟩
    refine ⟨_, rfl, _, _, rfl, rfl, .inr ⟨by decide, by decide⟩, .inl ⟨_, rfl, ?_⟩⟩
    refine ⟨_, _, rfl, rfl, (by show (0 : Int) < 2147483629; decide), _, _, rfl, rfl, ⟨by decide, by decide⟩, ?_⟩
    exact q _

/-! ### small lemmas -/
abbrev iL (ns : List Int) : List V := ns.map V.int
theorem same_new {H : Hp} {p : Addr} {o : HO} (h : H p = none) : Same H (upd H p o) := fun b x e => by
  rw [upd_ne (ne_of_none e h)]
  exact e
theorem ix_at {n : Nat} {k : Int} {j : Nat} (e : k = (j : Int)) (h : j < n) : ixN n k = some j := by
  subst e
  unfold ixN
  rw [if_pos (by omega), if_pos (by omega)]
  simp
theorem iL_get {ns : List Int} {j : Nat} (h : j < ns.length) : (iL ns)[j]? = some (.int ns[j]) := by
  rw [List.getElem?_map, List.getElem?_eq_getElem h]
  rfl
theorem iL_at {ns : List Int} {k : Int} {j : Nat} (e : k = (j : Int)) (h : j < ns.length) : atI (iL ns) k = some (.int ns[j]) := at_of e (iL_get h)
theorem iL_set (ns : List Int) (j : Nat) (z : Int) : (iL ns).set j (.int z) = iL (ns.set j z) := List.map_set.symm
theorem iL_app (ns : List Int) (z : Int) : iL ns ++ [V.int z] = iL (ns ++ [z]) := (List.map_append (l₁ := ns) (l₂ := [z]) (f := V.int)).symm
theorem iL_put {H : Hp} {D : Addr} {cs : List Int} {j : Nat} {z : Int} : upd H D (.lst ((iL cs).set j (.int z))) D = some (.lst (iL (cs.set j z))) := by
  rw [upd_same, iL_set]
/-! ### _law_folded -/
def spFol (K : PySem.W.Frag) : Sp := fun vs H Q _ => ∃ (a : Addr) (ns : List Int), vs = [.ref a] ∧ SqL K H a (iL ns) ∧ ns.length ≤ 63 ∧
  ∀ (H' : Hp) (p : Addr) (cs : List Int), Same H H' → H p = none → H' p = some (.lst (iL cs)) → cs.length = 64 → Q (.ref p) H'
theorem ok_fol {f : Addr} {fd : FuncData} (F : Fun K "_law_folded" "_law_folded" sFol f fd) (T : TxtB mg) : FnOk P w K mg base CX0 1 f fd ["script"] (spFol K) := by
  refine F.ok scF (fun vs H Q E h => ?_) (fun cdv A outer s H vs Q E hr h => ?_)
  · obtain ⟨a, ns, rfl, _⟩ := h
    rfl
  · obtain ⟨a, ns, rfl, hS, hlen, q⟩ := h
    refine ⟨_, (pss_cons (ps_setLc (i := 2) (own := [("n", 1)]) (tt := tYes) rfl scF.nd rfl rfl (sw_true rfl rfl rfl (by decide +kernel)) (pi_range1 (by rfl) T.range (pa_cons pe_int pa_nil)) (blkOk_by (own := [("n", 1)]) (N := ["script", "n", "found", "cell"]) (sc := defScope sFol) (by decide +kernel)) (fun _ _ _ _ _ => (pg_name (i := 1) scF.nd rfl (Or.inl rfl))) (fun _ _ _ _ _ => pts_nil) (fun _ _ _ _ _ => (pe_op op_add pe_int (pv 1)))) (pss_cons (ps_for PassesOwn.never rfl (pi_enum (by rfl) T.enumerate (pa_cons (pv 0) pa_nil)) (pg_tup (by rfl) (pgs_cons (pg_name (i := 1) scF.nd rfl (Or.inl rfl)) (pgs_cons (pg_name (i := 3) scF.nd rfl (Or.inl rfl)) pgs_nil))) (pss_one (ps_asg (pe_op op_mod (pe_callTy call_int1 (by rfl) T.int bt_int (pa_cons (pe_op op_add (pe_op op_mul (pe_ix ix_list (pv 2) (pe_op op_mod (pe_callTy call_int1 (by rfl) T.int bt_int (pa_cons (pv 1) pa_nil)) pe_int) (fun _ _ => rfl)) pe_int) (pv 3)) pa_nil)) pe_int) (pg_sub (pv 2) (pe_op op_mod (pe_callTy call_int1 (by rfl) T.int bt_int (pa_cons (pv 1) pa_nil)) pe_int) set_list)))) (pss_cons (ps_for PassesOwn.never rfl (pi_range2 (by rfl) T.range (pa_cons pe_int (pa_cons pe_int pa_nil))) (pg_name (i := 1) scF.nd rfl (Or.inl rfl)) (pss_one (ps_asg (pe_op op_mod (pe_callTy call_int1 (by rfl) T.int bt_int (pa_cons (pe_op op_add (pe_ix ix_list (pv 2) (pv 1) (fun _ _ => rfl)) (pe_op op_mul (pe_ix ix_list (pv 2) (pe_op op_sub (pv 1) pe_int) (fun _ _ => rfl)) pe_int)) pa_nil)) pe_int) (pg_sub (pv 2) (pv 1) set_list)))) (pss_one (ps_ret (pv 2)))))), ?_⟩
    -- found = [17 + n for n in range(64)]
    refine ⟨64, rfl, by decide, by decide, fun D nD => lc_range (lo := 0) (n := 64) (fun i H2 => ∃ cs : List Int, cs.length = i ∧ H2 D = some (.lst (iL cs)) ∧ Same H H2) ⟨[], rfl, upd_same, same_new nD⟩ ?_ ?_⟩
    · rintro i H2 hi ⟨cs, hl, hD, sm⟩
      refine ⟨rfl, ?_⟩
      refine ⟨_, rfl, _, _, rfl, rfl, _, hD, ?_, cs ++ [17 + (0 + (i : Int))], ?_, ?_, fun b o e => ?_⟩
      · rw [List.length_map]
        exact small1000 (by omega)
      · rw [List.length_append, hl]
        rfl
      · rw [upd_same, iL_app]
      · rw [upd_ne (ne_of_none e nD)]
        exact sm b o e
    · rintro H2 ⟨cs, hl, hD, sm⟩
      -- for n, cell in enumerate(script)
      refine ⟨_, rfl, a, _, rfl, sm.seq hS, for_it walk_enum (fun i σ H3 => ∃ (v1 v3 : Option V) (cs : List Int), σ = [some (.ref a), v1, some (.ref D), v3] ∧ cs.length = 64 ∧ H3 D = some (.lst (iL cs)) ∧ Same H H3) ⟨_, _, cs, rfl, hl, hD, sm⟩ (fun i σ H3 _ ⟨_, _, _, _, _, _, sm'⟩ => sm'.seq hS) ?_ ?_⟩
      · rintro i x σ H3 H4 hi ⟨v1, v3, cs, rfl, hl, hD, sm⟩ ⟨U, x1, x2, rfl, nU, rfl, e1, e2⟩
        have hin : i < ns.length := by rw [List.length_map] at hi; exact hi
        have ex1 : x1 = .int (i : Int) := (Option.some.inj e1).symm
        have ex2 : x2 = .int ns[i] := Option.some.inj (e2.symm.trans (iL_get hin))
        subst ex1 ex2
        have hD4 : (upd H3 U (.tup [.int (i : Int), .int ns[i]])) D = some (.lst (iL cs)) := by rw [upd_ne (ne_of_none hD nU)]; exact hD
        have hj : i % 64 < cs.length := by omega
        refine ⟨U, _, rfl, .inl (.inl upd_same), rfl, _, _, rfl, _, _, rfl, rfl, ?_⟩
        refine ⟨_, rfl, _, rfl, .inl ⟨_, rfl, ?_⟩⟩
        refine ⟨_, _, rfl, rfl, (by show (0 : Int) < 64; decide), D, iL cs, _, .int cs[i % 64], rfl, rfl, .inl (.inl hD4), iL_at (by omega) hj, ?_⟩
        refine ⟨_, _, rfl, rfl, .inr ⟨by decide, by decide⟩, _, rfl, _, _, rfl, rfl, .inl ⟨_, rfl, ?_⟩⟩
        refine ⟨_, _, rfl, rfl, (by show (0 : Int) < 2147483647; decide), ?_⟩
        refine ⟨_, rfl, _, rfl, .inl ⟨_, rfl, ?_⟩⟩
        refine ⟨_, _, rfl, rfl, (by show (0 : Int) < 64; decide), D, iL cs, _, i % 64, rfl, rfl, hD4, ix_at (by omega) (by rw [List.length_map]; exact hj), ?_⟩
        refine ⟨_, _, _, rfl, by rw [List.length_set]; exact hl, iL_put, fun b o e => ?_⟩
        · rw [upd_ne (ne_of_none e nD), upd_ne (ne_of_none (sm b o e) nU)]
          exact sm b o e
      · rintro σ H3 ⟨v1, v3, cs, rfl, hl, hD, sm⟩
        -- for n in range(1, 64)
        refine ⟨1, 64, rfl, ⟨by decide, by decide, by decide, by decide⟩, for_range (lo := 1) (n := 63) (fun i σ H3 => ∃ (v1 v3 : Option V) (cs : List Int), σ = [some (.ref a), v1, some (.ref D), v3] ∧ cs.length = 64 ∧ H3 D = some (.lst (iL cs)) ∧ Same H H3) ⟨_, _, cs, rfl, hl, hD, sm⟩ ?_ ?_⟩
        · rintro i σ H3 hi ⟨v1, v3, cs, rfl, hl, hD, sm⟩
          have h1 : i + 1 < cs.length := by omega
          have h0 : i < cs.length := by omega
          refine ⟨_, rfl, _, rfl, D, iL cs, _, .int cs[i + 1], rfl, rfl, .inl (.inl hD), iL_at (by omega) h1, ?_⟩
          refine ⟨_, rfl, _, rfl, _, _, rfl, rfl, D, iL cs, _, .int cs[i], rfl, rfl, .inl (.inl hD), iL_at (by omega) h0, ?_⟩
          refine ⟨_, _, rfl, rfl, .inr ⟨by decide, by decide⟩, _, _, rfl, rfl, .inl ⟨_, rfl, ?_⟩⟩
          refine ⟨_, _, rfl, rfl, (by show (0 : Int) < 2147483647; decide), ?_⟩
          refine ⟨_, rfl, _, rfl, D, iL cs, _, i + 1, rfl, rfl, hD, ix_at (by omega) (by rw [List.length_map]; exact h1), ?_⟩
          refine ⟨_, _, _, rfl, by rw [List.length_set]; exact hl, iL_put, fun b o e => ?_⟩
          · rw [upd_ne (ne_of_none e nD)]
            exact sm b o e
        · rintro σ H3 ⟨v1, v3, cs, rfl, hl, hD, sm⟩
          exact ⟨_, rfl, q H3 D cs sm nD hD hl⟩

/-! ### the drawing's state: m, a dict of two lists and a number -/
abbrev kCe : Key := .inr "cells"
abbrev kGr : Key := .inr "great"
abbrev kSp : Key := .inr "spot"
def mkM (c g : Addr) (n : Int) : List (Key × V) := [(kCe, .ref c), (kGr, .ref g), (kSp, .int n)]
theorem val_ce (c g : Addr) (n : Int) : valV (mkM c g n) kCe = some (.ref c) := by rfl
theorem val_gr (c g : Addr) (n : Int) : valV (mkM c g n) kGr = some (.ref g) := by rfl
theorem val_sp (c g : Addr) (n : Int) : valV (mkM c g n) kSp = some (.int n) := by rfl
theorem put_sp (c g : Addr) (n z : Int) : putK (mkM c g n) kSp (.int z) = mkM c g z := by rfl
theorem put_gr (c g g2 : Addr) (n : Int) : putK (mkM c g n) kGr (.ref g2) = mkM c g2 n := by rfl
theorem merge_m (c g : Addr) (n : Int) : mergeK [] (mkM c g n) = mkM c g n := by rfl
/-- m at m, its list of great numbers at g, at most b draws done -/
structure MAt (H : Hp) (m g : Addr) (b : Nat) : Prop where
  ex : ∃ (c : Addr) (cs gs : List Int) (n : Nat), H m = some (.dK (mkM c g n)) ∧ H c = some (.lst (iL cs)) ∧ cs.length = 64 ∧ H g = some (.lst (iL gs)) ∧ gs.length ≤ 63 ∧ n ≤ b
theorem MAt.mono {H : Hp} {m g : Addr} {a b : Nat} (M : MAt H m g a) (h : a ≤ b) : MAt H m g b := by
  obtain ⟨c, cs, gs, n, h1, h2, h3, h4, h5, h6⟩ := M.ex
  exact ⟨c, cs, gs, n, h1, h2, h3, h4, h5, Nat.le_trans h6 h⟩
theorem MAt.same {H H' : Hp} {m g : Addr} {b : Nat} (M : MAt H m g b) (s : Same H H') : MAt H' m g b := by
  obtain ⟨c, cs, gs, n, h1, h2, h3, h4, h5, h6⟩ := M.ex
  exact ⟨c, cs, gs, n, s _ _ h1, s _ _ h2, h3, s _ _ h4, h5, h6⟩
theorem MAt.m_some {H : Hp} {m g : Addr} {b : Nat} (M : MAt H m g b) : H m ≠ none := by
  obtain ⟨c, cs, gs, n, h1, _⟩ := M.ex
  rw [h1]
  exact fun z => nomatch z
theorem MAt.g_some {H : Hp} {m g : Addr} {b : Nat} (M : MAt H m g b) : H g ≠ none := by
  obtain ⟨c, cs, gs, n, h1, h2, h3, h4, _⟩ := M.ex
  rw [h4]
  exact fun z => nomatch z
/-- all but m and its list stand as they stood -/
def But (m g : Addr) (H H' : Hp) : Prop := ∀ b o, H b = some o → b ≠ m → b ≠ g → H' b = some o
theorem But.trans {m g : Addr} {H H1 H2 : Hp} (a : But m g H H1) (b : But m g H1 H2) : But m g H H2 := fun c o e n1 n2 => b c o (a c o e n1 n2) n1 n2
theorem But.of {m g : Addr} {H H' : Hp} (s : Same H H') : But m g H H' := fun b o e _ _ => s b o e
theorem But.free {m g : Addr} {H H' : Hp} {b : Nat} (s : But m g H H') (M : MAt H' m g b) {a : Addr} (h : H' a = none) : H a = none := by
  cases e : H a with
  | none => rfl
  | some o =>
    by_cases h1 : a = m
    · rw [h1] at h
      exact (M.m_some h).elim
    by_cases h2 : a = g
    · rw [h2] at h
      exact (M.g_some h).elim
    · rw [s a o e h1 h2] at h
      cases h
def spDrw : Sp := fun vs H Q _ => ∃ (m g : Addr) (lim : Int) (b : Nat), vs = [.ref m, .int lim] ∧ 0 < lim ∧ lim < 1000000 ∧ b < 1000000 ∧ MAt H m g b ∧
  ∀ (d : Int) (H' : Hp), 0 ≤ d → d < lim → MAt H' m g (b + 1) → But m g H H' → Q (.int d) H'
theorem dp_iL {K : PySem.W.Frag} {H : Hp} : ∀ ns : List Int, DpAll K H (iL ns) (ns.map PyData.int)
  | [] => .nil
  | n :: ns => .cons (.int n) (dp_iL ns)
theorem eqv_nil : ∀ ns : List Int, PyData.eqv (.list (ns.map PyData.int)) (.list []) = ns.isEmpty
  | [] => rfl
  | _ :: _ => rfl
theorem depth_ints : ∀ ns : List Int, PyData.depthAll (ns.map PyData.int) ≤ 1
  | [] => by decide
  | n :: ns => by
    have h := depth_ints ns
    have e : PyData.depth (.int n) = 0 := by rw [PyData.depth]
    rw [List.map_cons, PyData.depthAll, e]
    omega
theorem lay_ints : ∀ ns : List Int, PyData.canLayAll0 (ns.map PyData.int) = true
  | [] => rfl
  | n :: ns => by
    rw [List.map_cons, PyData.canLayAll0, lay_ints ns, PyData.canLay0]
    rfl
theorem shaped_ints (ns : List Int) : SeqAt.shaped (.list (ns.map PyData.int)) = true := by
  have h := depth_ints ns
  have h3 : PyData.depth (.list (ns.map PyData.int)) ≤ 64 := by
    rw [PyData.depth]
    omega
  unfold SeqAt.shaped
  rw [PyData.canLay0, lay_ints ns, decide_eq_true h3]
  rfl
structure TxtD (K : PySem.W.Frag) (mg : Str → Option Value) (fM : Addr) : Prop extends TxtB mg where
  mix : mg "_law_mixed" = some (.ref fM)
theorem ok_drw {f fM : Addr} {fd fdM : FuncData} (F : Fun K "_law_draw" "_law_draw" sDrw f fd) (T : TxtD K mg fM) (FM : Fun K "_law_mixed" "_law_mixed" sMix fM fdM) (bM : Binds K fdM ["cell", "n"] []) : FnOk P w K mg base CX0 2 f fd ["m", "limit"] spDrw := by
  have GM : FnOk P w K mg base CX0 1 fM fdM ["cell", "n"] spMix := ok_mix FM T.toTxtB
  refine F.ok scD (fun vs H Q E h => ?_) (fun cdv A outer s H vs Q E hr h => ?_)
  · obtain ⟨m, g, lim, b, rfl, _⟩ := h
    rfl
  · obtain ⟨m, g, lim, b, rfl, l0, l1, hb, M, q⟩ := h
    have hu := hu_of hr
    have hr1 : Room 1 _ := hr.mono (by decide)
    obtain ⟨c, cs, gs, n, hm, hc, lc, hg, lg, hn⟩ := M.ex
    have nmc : m ≠ c := ne_of hm hc (by intro z; cases z)
    have nmg : m ≠ g := ne_of hm hg (by intro z; cases z)
    have ncg : c ≠ g := fun z => by
      subst z
      have e2 : iL cs = iL gs := HO.lst.inj (Option.some.inj (hc.symm.trans hg))
      have e3 := congrArg List.length e2
      simp only [List.length_map] at e3
      omega
    refine ⟨_, (pss_cons (ps_set (i := 2) scD.nd rfl (Or.inl rfl) (pe_dget hu (pv 0) pe_str (fun _ _ => rfl))) (pss_cons (ps_dput hu (pv 0) pe_str (pe_op op_add (pv 2) pe_int) rfl) (pss_cons (ps_if (pt_cmpR (op_neD hr.units) (pe_dget hu (pv 0) pe_str (fun _ _ => rfl)) (pe_lst pa_nil) (nomark _)) (pss_cons (ps_set (i := 3) scD.nd rfl (Or.inl rfl) (pe_dget hu (pv 0) pe_str (fun _ _ => rfl))) (pss_cons (ps_set (i := 4) scD.nd rfl (Or.inl rfl) (pe_op op_mod (pe_callTy call_int1 (by rfl) T.int bt_int (pa_cons (pv 2) pa_nil)) (pe_callB call_len_seq (by rfl) T.len PySem.boot_len (pa_cons (pv 3) pa_nil)))) (pss_cons (ps_set (i := 5) scD.nd rfl (Or.inl rfl) (pe_ix ix_list (pv 3) (pv 4) (fun _ _ => rfl))) (pss_one (ps_if (pt_cmpR op_gt (pv 5) pe_int (nomark _)) (pss_cons (ps_asg (pe_op op_fdivN (pv 5) (pv 1)) (pg_sub (pv 3) (pv 4) set_list)) (pss_one (ps_ret (pe_op op_mod (pe_callTy call_int1 (by rfl) T.int bt_int (pa_cons (pv 5) pa_nil)) (pv 1))))) pss_nil))))) pss_nil) (pss_cons (ps_set (i := 3) scD.nd rfl (Or.inl rfl) (pe_dget hu (pv 0) pe_str (fun _ _ => rfl))) (pss_one (ps_ret (pe_op op_mod (pe_callTy call_int1 (by rfl) T.int bt_int (pa_cons (pe_call GM hr1 (by rfl) T.mix FM.kp bM .nil pass0 (pa_cons (pe_call GM hr1 (by rfl) T.mix FM.kp bM .nil pass0 (pa_cons (pe_op op_add (pe_ix ix_list (pv 3) (pe_op op_mod (pe_callTy call_int1 (by rfl) T.int bt_int (pa_cons (pv 2) pa_nil)) pe_int) (fun _ _ => rfl)) (pe_op op_mul pe_int (pe_op op_fdiv (pv 2) pe_int))) (pa_cons (pv 2) pa_nil))) (pa_cons (pe_op op_add (pv 2) pe_int) pa_nil))) pa_nil)) (pv 1)))))))), ?_⟩
    -- n = m['spot']; m['spot'] = n + 1
    refine ⟨_, rfl, m, _, rfl, DGet.k (k := kSp) hm, ?_⟩
    refine ⟨_, rfl, _, _, rfl, rfl, _, rfl, m, _, rfl, DPut.k (k := kSp) hm (by show 3 < sizeLine; decide), ?_⟩
    rw [put_sp]
    have hm1 : (upd H m (.dK (mkM c g ((n : Int) + 1)))) m = some (.dK (mkM c g ((n : Int) + 1))) := upd_same
    have hc1 : (upd H m (.dK (mkM c g ((n : Int) + 1)))) c = some (.lst (iL cs)) := by rw [upd_ne nmc.symm]; exact hc
    have hg1 : (upd H m (.dK (mkM c g ((n : Int) + 1)))) g = some (.lst (iL gs)) := by rw [upd_ne nmg.symm]; exact hg
    have k1 : ∀ b o, H b = some o → b ≠ m → (upd H m (.dK (mkM c g ((n : Int) + 1)))) b = some o := fun b o e h => by rw [upd_ne h]; exact e
    revert hm1 hc1 hg1 k1
    generalize upd H m (.dK (mkM c g ((n : Int) + 1))) = H1
    intro hm1 hc1 hg1 k1
    -- if m['great'] != []
    refine ⟨_, rfl, m, _, rfl, DGet.k (k := kGr) hm1, (by show 0 ≤ sizeLine; decide), fun p np => ?_⟩
    have k2 : Same H1 (upd H1 p (.lst [])) := same_new np
    have hm2 := k2 _ _ hm1
    have hc2 := k2 _ _ hc1
    have hg2 := k2 _ _ hg1
    have hp2 : (upd H1 p (.lst [])) p = some (.lst []) := upd_same
    have k3 : ∀ b o, H b = some o → b ≠ m → (upd H1 p (.lst [])) b = some o := fun b o e h => k2 b o (k1 b o e h)
    revert hm2 hc2 hg2 hp2 k3
    generalize upd H1 p (.lst []) = H2
    intro hm2 hc2 hg2 hp2 k3
    refine ⟨_, _, .lst (.inl (.inl hg2)) (dp_iL gs), .lst (.inl (.inl hp2)) .nil, shaped_ints gs, rfl, _, rfl, ?_⟩
    -- lot = m['cells'], and the rest: whichever way it is reached
    have mat : ∀ (H3 : Hp) (gs' : List Int), H3 m = some (.dK (mkM c g ((n : Int) + 1))) → H3 c = some (.lst (iL cs)) → H3 g = some (.lst (iL gs')) → gs'.length ≤ 63 → MAt H3 m g (b + 1) := fun H3 gs' e1 e2 e3 e4 => ⟨c, cs, gs', n + 1, e1, e2, lc, e3, e4, by omega⟩
    have fin : ∀ z : Int, 0 ≤ z % lim ∧ z % lim < lim := fun z => ⟨Int.emod_nonneg _ (by omega), Int.emod_lt_of_pos _ l0⟩
    cases gs with
    | cons z gs =>
      have hl1 : n % (gs.length + 1) < (z :: gs).length := by
        rw [List.length_cons]
        exact Nat.mod_lt _ (Nat.succ_pos _)
      have elen : ((iL (z :: gs)).length : Int) = ((gs.length + 1 : Nat) : Int) := by rw [List.length_map, List.length_cons]
      refine ⟨_, rfl, m, _, rfl, DGet.k (k := kGr) hm2, ?_⟩
      refine ⟨_, rfl, .inl ⟨_, rfl, _, rfl, g, _, rfl, .inl (.inl (.inl hg2)), _, _, rfl, rfl, (by show (0 : Int) < ((iL (z :: gs)).length : Int); rw [elen]; omega), ?_⟩⟩
      refine ⟨_, rfl, _, rfl, g, _, _, .int (z :: gs)[n % (gs.length + 1)], rfl, rfl, .inl (.inl hg2), iL_at (j := n % (gs.length + 1)) (by rw [elen]; exact (Int.natCast_emod n (gs.length + 1)).symm) hl1, ?_⟩
      refine ⟨_, rfl, _, _, rfl, rfl, _, rfl, ite2 (fun cz => ?_) (fun cz => ?_)⟩
      · refine ⟨_, rfl, _, rfl, _, _, rfl, rfl, ⟨by omega, by omega⟩, _, rfl, _, rfl, g, _, _, n % (gs.length + 1), rfl, rfl, hg2, ix_at (by rw [elen]; exact (Int.natCast_emod n (gs.length + 1)).symm) (by rw [List.length_map]; exact hl1), ?_⟩
        refine ⟨_, rfl, .inl ⟨_, rfl, _, rfl, _, _, rfl, rfl, l0, ?_⟩⟩
        refine q _ _ (fin _).1 (fin _).2 (mat _ _ (by rw [upd_ne nmg]; exact hm2) (by rw [upd_ne ncg]; exact hc2) iL_put (by rw [List.length_set]; exact lg)) fun b o e h1 h2 => ?_
        rw [upd_ne h2]
        exact k3 b o e h1
      · have hj : n % 64 < cs.length := by omega
        refine ⟨_, rfl, m, _, rfl, DGet.k (k := kCe) hm2, ?_⟩
        refine ⟨_, rfl, _, rfl, .inl ⟨_, rfl, _, _, rfl, rfl, (by show (0 : Int) < 64; decide), c, iL cs, _, .int cs[n % 64], rfl, rfl, .inl (.inl hc2), iL_at (by omega) hj, ?_⟩⟩
        refine ⟨_, rfl, _, _, rfl, rfl, ⟨by decide, by decide⟩, _, _, rfl, rfl, .inl ⟨by decide, by decide⟩, _, _, rfl, rfl, _, rfl, ?_⟩
        refine ⟨_, _, rfl, by omega, by omega, fun r => ?_⟩
        refine ⟨_, rfl, _, _, rfl, rfl, ?_⟩
        refine ⟨_, _, rfl, by omega, by omega, fun r2 => .inl ⟨_, rfl, ?_⟩⟩
        refine ⟨_, rfl, _, _, rfl, rfl, l0, ?_⟩
        exact q _ _ (fin _).1 (fin _).2 (mat _ _ hm2 hc2 hg2 lg) fun b o e h1 h2 => k3 b o e h1
    | nil =>
      have hj : n % 64 < cs.length := by omega
      refine ⟨_, rfl, m, _, rfl, DGet.k (k := kCe) hm2, ?_⟩
      refine ⟨_, rfl, _, rfl, .inl ⟨_, rfl, _, _, rfl, rfl, (by show (0 : Int) < 64; decide), c, iL cs, _, .int cs[n % 64], rfl, rfl, .inl (.inl hc2), iL_at (by omega) hj, ?_⟩⟩
      refine ⟨_, rfl, _, _, rfl, rfl, ⟨by decide, by decide⟩, _, _, rfl, rfl, .inl ⟨by decide, by decide⟩, _, _, rfl, rfl, _, rfl, ?_⟩
      refine ⟨_, _, rfl, by omega, by omega, fun r => ?_⟩
      refine ⟨_, rfl, _, _, rfl, rfl, ?_⟩
      refine ⟨_, _, rfl, by omega, by omega, fun r2 => .inl ⟨_, rfl, ?_⟩⟩
      refine ⟨_, rfl, _, _, rfl, rfl, l0, ?_⟩
      exact q _ _ (fin _).1 (fin _).2 (mat _ _ hm2 hc2 hg2 lg) fun b o e h1 h2 => k3 b o e h1

/-! ### _law_begun -/
def spBeg (K : PySem.W.Frag) : Sp := fun vs H Q _ => ∃ (a : Addr) (ns : List Int), vs = [.ref a] ∧ SqL K H a (iL ns) ∧ ns.length ≤ 63 ∧
  ∀ (H' : Hp) (m g : Addr), Same H H' → MAt H' m g 0 → Q (.ref m) H'
structure TxtG (K : PySem.W.Frag) (mg : Str → Option Value) (fF : Addr) : Prop extends TxtB mg where
  fol : mg "_law_folded" = some (.ref fF)
theorem ok_beg {f fF : Addr} {fd fdF : FuncData} (F : Fun K "_law_begun" "_law_begun" sBeg f fd) (T : TxtG K mg fF) (FF : Fun K "_law_folded" "_law_folded" sFol fF fdF) (bF : Binds K fdF ["script"] []) : FnOk P w K mg base CX0 2 f fd ["script"] (spBeg K) := by
  have GF : FnOk P w K mg base CX0 1 fF fdF ["script"] (spFol K) := ok_fol FF T.toTxtB
  refine F.ok scB (fun vs H Q E h => ?_) (fun cdv A outer s H vs Q E hr h => ?_)
  · obtain ⟨a, ns, rfl, _⟩ := h
    rfl
  · obtain ⟨a, ns, rfl, hS, hlen, q⟩ := h
    have hu := hu_of hr
    have hr1 : Room 1 _ := hr.mono (by decide)
    refine ⟨_, (pss_cons (ps_set (i := 1) scB.nd rfl (Or.inl rfl) (pe_disp (pps_cons pe_str (pe_call GF hr1 (by rfl) T.fol FF.kp bF .nil pass0 (pa_cons (pv 0) pa_nil)) (pps_cons pe_str (pe_lst pa_nil) (pps_cons pe_str pe_int pps_nil))) (by rfl) (by rfl) (fun z => by cases z) (by decide))) (pss_cons (ps_dput hu (pv 1) pe_str (pe_lc (own := [("cell", 2)]) (tt := tYes) rfl scB.nd (pi_list (pv 0)) (blkOk_by (own := [("cell", 2)]) (N := ["script", "m", "cell"]) (sc := defScope sBeg) (by decide +kernel)) (fun _ _ _ _ _ => (pg_name (i := 2) scB.nd rfl (Or.inl rfl))) (fun _ _ _ _ _ => pts_nil) (fun _ _ _ _ _ => (pe_ifExp (pt_cmpR op_ge (pv 2) (pe_op op_pow pe_int pe_int) (nomark _)) (pv 2) pe_int))) rfl) (pss_one (ps_ret (pv 1))))), ?_⟩
    intro m nm
    have s0 : Same H (upd H m (.dK [])) := same_new nm
    refine ⟨_, rfl, a, ns, rfl, s0.seq hS, hlen, fun H1 c cs s1 nc hc lc => ⟨(by show 0 ≤ sizeLine; decide), fun g0 ng0 => ?_⟩⟩
    have s2 : Same H1 (upd H1 g0 (.lst [])) := same_new ng0
    have hm1 : H1 m = some (.dK []) := s1 _ _ upd_same
    have nmc : c ≠ m := ne_of hc hm1 (by intro z; cases z)
    refine ⟨s2 _ _ hm1, mkM c g0 0, rfl, (by show 3 ≤ 15; decide), ?_⟩
    have hm3 : (upd (upd H1 g0 (.lst [])) m (.dK (mergeK [] (mkM c g0 0)))) m = some (.dK (mkM c g0 0)) := by rw [upd_same, merge_m]
    have hc3 : (upd (upd H1 g0 (.lst [])) m (.dK (mergeK [] (mkM c g0 0)))) c = some (.lst (iL cs)) := by rw [upd_ne nmc]; exact s2 _ _ hc
    have s3 : Same H (upd (upd H1 g0 (.lst [])) m (.dK (mergeK [] (mkM c g0 0)))) := fun b o e => by
      rw [upd_ne (ne_of_none e nm)]
      exact s2 _ _ (s1 _ _ (s0 _ _ e))
    revert hm3 hc3 s3
    generalize upd (upd H1 g0 (.lst [])) m (.dK (mergeK [] (mkM c g0 0))) = H3
    intro hm3 hc3 s3
    refine ⟨_, rfl, a, rfl, ⟨_, s3.seq hS⟩, fun D nD => lc_list (K := K) (a := a) (xs := iL ns) (fun i H4 => ∃ gs : List Int, gs.length = i ∧ H4 D = some (.lst (iL gs)) ∧ Same H3 H4) ⟨[], rfl, upd_same, same_new nD⟩ (fun i H4 _ ⟨_, _, _, sm⟩ => sm.seq (s3.seq hS)) ?_ ?_⟩
    · rintro i x H4 hi ⟨gs, hl, hD, sm⟩
      have hin : i < ns.length := by
        have h := (List.getElem?_eq_some_iff.mp hi).1
        rw [List.length_map] at h
        exact h
      obtain rfl : x = .int ns[i] := Option.some.inj (hi.symm.trans (iL_get hin))
      have step : ∀ z : Int, ∃ acc : List V, H4 D = some (.lst acc) ∧ acc.length < sizeLine ∧ ∃ gs : List Int, gs.length = i + 1 ∧ (upd H4 D (.lst (acc ++ [V.int z]))) D = some (.lst (iL gs)) ∧ Same H3 (upd H4 D (.lst (acc ++ [V.int z]))) := fun z =>
        ⟨_, hD, by rw [List.length_map]; exact small1000 (by omega), gs ++ [z], by rw [List.length_append, hl]; rfl, by rw [upd_same, iL_app], fun b o e => by rw [upd_ne (ne_of_none e nD)]; exact sm b o e⟩
      refine ⟨rfl, ?_⟩
      refine ⟨_, rfl, _, _, rfl, rfl, ⟨by decide, by decide, by decide⟩, _, _, rfl, rfl, _, rfl, ite2 (fun _ => ?_) (fun _ => ?_)⟩
      · exact ⟨_, rfl, step _⟩
      · exact step 0
    · rintro H4 ⟨gs, hl, hD, sm⟩
      rw [List.length_map] at hl
      have hm4 := sm _ _ hm3
      have nDm : D ≠ m := ne_of hD hm4 (by intro z; cases z)
      refine ⟨_, rfl, m, _, rfl, DPut.k (k := kGr) hm4 (by show 3 < sizeLine; decide), _, rfl, ?_⟩
      rw [put_gr]
      refine q _ m D (fun b o e => ?_) ⟨c, cs, gs, 0, upd_same, by rw [upd_ne nmc]; exact sm _ _ hc3, lc, by rw [upd_ne nDm]; exact hD, by omega, Nat.le_refl _⟩
      rw [upd_ne (ne_of_none e nm)]
      exact sm _ _ (s3 _ _ e)
end
end Up

/-! the checks of values, over data of any kind -/
namespace Up
open PySem PySem.Spec PyProof.Rows L2
abbrev s_is_whole : Stmt := (topS 2)
abbrev s_is_index : Stmt := (topS 3)
abbrev s_is_listing : Stmt := (topS 4)
abbrev s_is_couple : Stmt := (topS 5)
abbrev s_is_doing : Stmt := (topS 6)
theorem sc_is_whole : FnScope ["value"] ["value"] (defScope s_is_whole) := ⟨rfl, rfl, rfl, by decide +kernel, rfl, by decide +kernel, by decide +kernel⟩
theorem sc_is_index : FnScope ["value", "many"] ["value", "many"] (defScope s_is_index) := ⟨rfl, rfl, rfl, by decide +kernel, rfl, by decide +kernel, by decide +kernel⟩
theorem sc_is_listing : FnScope ["value", "most"] ["value", "most"] (defScope s_is_listing) := ⟨rfl, rfl, rfl, by decide +kernel, rfl, by decide +kernel, by decide +kernel⟩
theorem sc_is_couple : FnScope ["value"] ["value"] (defScope s_is_couple) := ⟨rfl, rfl, rfl, by decide +kernel, rfl, by decide +kernel, by decide +kernel⟩
theorem sc_is_doing : FnScope ["value", "many", "word", "letter"] ["value", "many"] (defScope s_is_doing) := ⟨rfl, rfl, rfl, by decide +kernel, rfl, by decide +kernel, by decide +kernel⟩
/-- what a passed value may be: None, a bool, an int, a text, a list, a tuple, a dict -/
inductive Kd (H : Hp) : V → Type where
  | non : Kd H .non
  | bl (b : Bool) : Kd H (.bl b)
  | int (i : Int) : Kd H (.int i)
  | str (x : Str) : Kd H (.str x)
  | lst (a : Addr) (xs : List V) (h : H a = some (.lst xs)) : Kd H (.ref a)
  | tup (a : Addr) (xs : List V) (h : H a = some (.tup xs)) : Kd H (.ref a)
  | dct (a : Addr) (kvs : List (Key × V)) (h : H a = some (.dK kvs)) : Kd H (.ref a)
def Kd.ty {H : Hp} {v : V} : Kd H v → String
  | .non => "NoneType"
  | .bl _ => "bool"
  | .int _ => "int"
  | .str _ => "str"
  | .lst .. => "list"
  | .tup .. => "tuple"
  | .dct .. => "dict"
theorem Kd.tyx {K : PySem.W.Frag} {H : Hp} {v : V} (k : Kd H v) : TyX K H v (.type k.ty) := by
  cases k with
  | non => exact .base .non
  | bl b => exact .base (.bl b)
  | int i => exact .base (.int i)
  | str x => exact .base (.str x)
  | lst a xs h => exact .base (.lst h)
  | tup a xs h => exact .base (.tup h)
  | dct a kvs h => exact .base (.dK h)
def Kd.is {H : Hp} {v : V} (k : Kd H v) (t : String) : Bool := (kitB k.ty t).getD false
theorem Kd.kit {K : PySem.W.Frag} {H : Hp} {v : V} (k : Kd H v) {t : String} (ht : t ∈ ["int", "bool", "str", "list", "tuple"]) : PySem.W.kitOne K (.type k.ty) (.type t) = some (k.is t) := by
  simp only [List.mem_cons, List.not_mem_nil, or_false] at ht
  refine kit_ty ?_
  unfold Kd.is
  cases k <;> rcases ht with rfl | rfl | rfl | rfl | rfl <;> (dsimp only [Kd.ty]; decide +kernel)
theorem Kd.same {H H' : Hp} {v : V} (k : Kd H v) (s : Same H H') : Nonempty (Kd H' v) := by
  cases k with
  | non => exact ⟨.non⟩
  | bl b => exact ⟨.bl b⟩
  | int i => exact ⟨.int i⟩
  | str x => exact ⟨.str x⟩
  | lst a xs h => exact ⟨.lst a xs (s _ _ h)⟩
  | tup a xs h => exact ⟨.tup a xs (s _ _ h)⟩
  | dct a kvs h => exact ⟨.dct a kvs (s _ _ h)⟩
/-- the built-in names that the program's checks use -/
structure TxtC (mg : Str → Option Value) : Prop extends TxtB mg where
  isinstance : mg "isinstance" = none
  bool : mg "bool" = none
  str : mg "str" = none
  list : mg "list" = none
  tuple : mg "tuple" = none
/-- an integer as the program counts -/
def wholeV : V → Bool
  | .int _ => true
  | _ => false
def spWhole : Sp := fun vs H Q _ => ∃ (v : V) (k : Kd H v), vs = [v] ∧ Q (.bl (wholeV v)) H
section
variable {P : Program} {w : World} {K : PySem.W.Frag} {mg : Str → Option Value} {base : Heap}
theorem ok_whole {f : Addr} {fd : FuncData} (F : Fun K "is_whole" "is_whole" s_is_whole f fd) (T : TxtC mg) : FnOk P w K mg base CX0 1 f fd ["value"] spWhole := by
  refine F.ok sc_is_whole (fun vs H Q E h => ?_) (fun cdv A outer s H vs Q E hr h => ?_)
  · obtain ⟨v, k, rfl, _⟩ := h
    rfl
  · obtain ⟨v, k, rfl, q⟩ := h
    refine ⟨_, (pss_one (ps_ret (pe_and (pe_callB call_isi (by rfl) T.isinstance bb_isinstance (pa_cons (pv 0) (pa_cons (pe_bltn (v := .ty "int") (by rfl) T.int bt_int rfl) pa_nil))) (pe_one (pe_not (pe_callB call_isi (by rfl) T.isinstance bb_isinstance (pa_cons (pv 0) (pa_cons (pe_bltn (v := .ty "bool") (by rfl) T.bool bt_bool rfl) pa_nil)))))))), ?_⟩
    refine ⟨_, rfl, v, .ty "int", _, _, _, rfl, .ty _, k.tyx, k.kit (by decide), _, rfl, ?_⟩
    have e1 : (if k.is "int" = true then Q (.bl (!k.is "bool")) H else Q (.bl false) H) := by
      cases k <;> exact q
    by_cases c : k.is "int" = true
    · rw [if_pos c] at e1 ⊢
      exact ⟨_, rfl, v, .ty "bool", _, _, _, rfl, .ty _, k.tyx, k.kit (by decide), _, rfl, e1⟩
    · rw [if_neg c] at e1 ⊢
      exact e1
/-- is_index(value, many): an integer from 0 to many - 1 -/
def indexV (v : V) (many : Int) : Bool := match v with
  | .int i => decide (0 ≤ i) && decide (i < many)
  | _ => false
def spIndex : Sp := fun vs H Q _ => ∃ (v : V) (k : Kd H v) (many : Int), vs = [v, .int many] ∧ Q (.bl (indexV v many)) H
structure TxtI (K : PySem.W.Frag) (mg : Str → Option Value) (fW : Addr) : Prop extends TxtC mg where
  g_is_whole : mg "is_whole" = some (.ref fW)
theorem ok_index {f fW : Addr} {fd fdW : FuncData} (F : Fun K "is_index" "is_index" s_is_index f fd) (T : TxtI K mg fW) (F_is_whole : Fun K "is_whole" "is_whole" s_is_whole fW fdW) (b_is_whole : Binds K fdW ["value"] []) : FnOk P w K mg base CX0 2 f fd ["value", "many"] spIndex := by
  have G_is_whole : FnOk P w K mg base CX0 1 fW fdW ["value"] spWhole := ok_whole F_is_whole T.toTxtC
  refine F.ok sc_is_index (fun vs H Q E h => ?_) (fun cdv A outer s H vs Q E hr h => ?_)
  · obtain ⟨v, k, many, rfl, _⟩ := h
    rfl
  · obtain ⟨v, k, many, rfl, q⟩ := h
    have hr_is_whole : Room 1 _ := hr.mono (by decide)
    refine ⟨_, (pss_one (ps_ret (pe_and (pe_call G_is_whole hr_is_whole (by rfl) T.g_is_whole F_is_whole.kp b_is_whole .nil pass0 (pa_cons (pv 0) pa_nil)) (pe_one (pe_chain op_le op_lt pe_int (pv 0) (pv 1)))))), ?_⟩
    refine ⟨_, rfl, v, k, rfl, _, rfl, ?_⟩
    cases k with
    | int i =>
      refine ⟨_, rfl, _, _, rfl, rfl, _, rfl, ?_⟩
      by_cases c : 0 ≤ i
      · rw [decide_eq_true c]
        refine ⟨_, rfl, _, _, rfl, rfl, ?_⟩
        have e : indexV (.int i) many = decide (i < many) := by
          show (decide (0 ≤ i) && decide (i < many)) = _
          rw [decide_eq_true c]
          rfl
        show Q (.bl (decide (i < many))) H
        rw [← e]
        exact q
      · rw [decide_eq_false c]
        have e : indexV (.int i) many = false := by
          show (decide (0 ≤ i) && decide (i < many)) = _
          rw [decide_eq_false c]
          rfl
        rw [e] at q
        exact q
    | _ => exact q
/-- a tuple of two, as it stands in the heap -/
def Kd.couple {H : Hp} {v : V} : Kd H v → Option (V × V)
  | .tup _ [x, y] _ => some (x, y)
  | _ => none
def spCouple : Sp := fun vs H Q _ => ∃ (v : V) (k : Kd H v), vs = [v] ∧ Q (.bl k.couple.isSome) H
theorem ok_couple {f : Addr} {fd : FuncData} (F : Fun K "is_couple" "is_couple" s_is_couple f fd) (T : TxtC mg) : FnOk P w K mg base CX0 1 f fd ["value"] spCouple := by
  refine F.ok sc_is_couple (fun vs H Q E h => ?_) (fun cdv A outer s H vs Q E hr h => ?_)
  · obtain ⟨v, k, rfl, _⟩ := h
    rfl
  · obtain ⟨v, k, rfl, q⟩ := h
    refine ⟨_, (pss_one (ps_ret (pe_and (pe_callB call_isi (by rfl) T.isinstance bb_isinstance (pa_cons (pv 0) (pa_cons (pe_bltn (v := .ty "tuple") (by rfl) T.tuple bt_tuple rfl) pa_nil))) (pe_one (pe_cmpR op_eq (pe_callB call_len_seq (by rfl) T.len PySem.boot_len (pa_cons (pv 0) pa_nil)) pe_int (nomark _)))))), ?_⟩
    refine ⟨_, rfl, v, .ty "tuple", _, _, _, rfl, .ty _, k.tyx, k.kit (by decide), _, rfl, ?_⟩
    cases k with
    | tup a xs h =>
      refine ⟨_, rfl, a, xs, rfl, .inr (.inl (.inl h)), rfl, ?_⟩
      match xs, h, q with
      | [], h, q => exact q
      | [_], h, q => exact q
      | [_, _], h, q => exact q
      | x :: y :: z :: r, h, q =>
        have e : decide (V.int ((x :: y :: z :: r).length : Int) = V.int 2) = false := by
          refine decide_eq_false fun c => ?_
          have c2 := V.int.inj c
          simp only [List.length_cons] at c2
          omega
        show Q (.bl (decide (V.int ((x :: y :: z :: r).length : Int) = V.int 2))) H
        rw [e]
        exact q
    | _ => exact q
/-- ("send", L) or ("get", L), L from 0 to many - 1 -/
def wordV (x : V) : Bool := match x with
  | .str z => inV (.str z) [.str "send", .str "get"]
  | _ => false
def Kd.doing {H : Hp} {v : V} (k : Kd H v) (many : Int) : Bool := match k.couple with
  | some (x, y) => wordV x && indexV y many
  | none => false
def spDoing : Sp := fun vs H Q _ => ∃ (v : V) (k : Kd H v) (many : Int), vs = [v, .int many] ∧ (∀ x y, k.couple = some (x, y) → Nonempty (Kd H x) ∧ Nonempty (Kd H y)) ∧ ∀ H', Same H H' → Q (.bl (k.doing many)) H'
structure TxtDo (K : PySem.W.Frag) (mg : Str → Option Value) (fC fI : Addr) : Prop extends TxtC mg where
  g_is_couple : mg "is_couple" = some (.ref fC)
  g_is_index : mg "is_index" = some (.ref fI)
theorem ok_doing {f fC fI : Addr} {fd fdC fdI : FuncData} (F : Fun K "is_doing" "is_doing" s_is_doing f fd) (T : TxtDo K mg fC fI) (F_is_couple : Fun K "is_couple" "is_couple" s_is_couple fC fdC) (b_is_couple : Binds K fdC ["value"] [])
    (F_is_index : Fun K "is_index" "is_index" s_is_index fI fdI) (b_is_index : Binds K fdI ["value", "many"] []) (G_is_index : FnOk P w K mg base CX0 2 fI fdI ["value", "many"] spIndex) : FnOk P w K mg base CX0 3 f fd ["value", "many"] spDoing := by
  have G_is_couple : FnOk P w K mg base CX0 1 fC fdC ["value"] spCouple := ok_couple F_is_couple T.toTxtC
  refine F.ok sc_is_doing (fun vs H Q E h => ?_) (fun cdv A outer s H vs Q E hr h => ?_)
  · obtain ⟨v, k, many, rfl, _⟩ := h
    rfl
  · obtain ⟨v, k, many, rfl, hk, q⟩ := h
    have hr_is_couple : Room 1 _ := hr.mono (by decide)
    have hr_is_index : Room 2 _ := hr.mono (by decide)
    refine ⟨_, (pss_cons (ps_if (pt_not (pt_val (pe_call G_is_couple hr_is_couple (by rfl) T.g_is_couple F_is_couple.kp b_is_couple .nil pass0 (pa_cons (pv 0) pa_nil)))) (pss_one (ps_ret pe_bl)) pss_nil) (pss_cons (ps_asg (pv 0) (pg_tup (by rfl) (pgs_cons (pg_name (i := 2) sc_is_doing.nd rfl (Or.inl rfl)) (pgs_cons (pg_name (i := 3) sc_is_doing.nd rfl (Or.inl rfl)) pgs_nil)))) (pss_one (ps_ret (pe_and (pe_callB call_isi (by rfl) T.isinstance bb_isinstance (pa_cons (pv 2) (pa_cons (pe_bltn (v := .ty "str") (by rfl) T.str bt_str rfl) pa_nil))) (pe_and (pe_cmpR op_in_seq (pv 2) (pe_tup (pa_cons pe_str (pa_cons pe_str pa_nil))) (by rfl)) (pe_one (pe_call G_is_index hr_is_index (by rfl) T.g_is_index F_is_index.kp b_is_index .nil pass0 (pa_cons (pv 3) (pa_cons (pv 1) pa_nil)))))))))), ?_⟩
    refine ⟨_, rfl, v, k, rfl, _, rfl, ?_⟩
    have q0 := q
    unfold Kd.doing at q
    cases e : k.couple with
    | none =>
      rw [e] at q
      exact q H (Same.refl H)
    | some p =>
      obtain ⟨x, y⟩ := p
      rw [e] at q
      obtain ⟨⟨kx⟩, ⟨ky⟩⟩ := hk x y e
      obtain ⟨a, rfl, ha⟩ : ∃ a, v = .ref a ∧ H a = some (.tup [x, y]) := by
        cases k with
        | tup a xs h =>
          match xs, h, e with
          | [x', y'], h, e =>
            have e2 := Option.some.inj e
            cases e2
            exact ⟨a, rfl, h⟩
        | _ => cases e
      refine ⟨_, rfl, a, [x, y], rfl, .inl (.inl ha), rfl, x, [y], rfl, y, [], rfl, rfl, ?_⟩
      refine ⟨_, rfl, x, .ty "str", _, _, _, rfl, .ty _, kx.tyx, kx.kit (by decide), _, rfl, ?_⟩
      cases kx with
      | str z =>
        refine ⟨_, rfl, (by show 2 ≤ sizeLine; decide), fun p np => ?_⟩
        have s1 : Same H (upd H p (.tup [.str "send", .str "get"])) := same_new np
        refine ⟨p, [.str "send", .str "get"], rfl, .inr (.inl (.inl upd_same)), rfl, rfl, _, rfl, ?_⟩
        obtain ⟨ky2⟩ := ky.same s1
        have q2 : Q (.bl (wordV (.str z) && indexV y many)) _ := q _ s1
        by_cases c : inV (.str z) [.str "send", .str "get"] = true
        · have e2 : wordV (.str z) = true := c
          rw [e2] at q2
          refine Eq.mpr (if_pos c) ?_
          exact ⟨_, rfl, _, rfl, y, ky2, many, rfl, q2⟩
        · have e3 : inV (.str z) [.str "send", .str "get"] = false := by simpa using c
          have e2 : wordV (.str z) = false := e3
          rw [e2] at q2
          exact Eq.mpr (if_neg c) q2
      | _ => exact q H (Same.refl H)
end
end Up

set_option Elab.async false
set_option linter.all false
set_option maxRecDepth 100000
set_option maxHeartbeats 4000000
/-! defs that are run where nothing is being shown (so that what they make may be shown), and what repr and max tell -/
namespace Up
open PySem PySem.Spec PyProof.Rows L2
/-- no repr is under way -/
def Quiet (A : Around) : Prop := A.guards = some []
/-- as FnOk, where no repr is under way -/
structure FnG (P : Program) (w : World) (K : PySem.W.Frag) (mg : Str → Option Value) (base : Heap) (CX : CXT) (k : Nat) (f : Addr) (fd : FuncData) (ps : List Str) (sp : Sp) : Prop where
  cnt : ∀ vs H Q E, sp vs H Q E → vs.length = ps.length
  go : ∀ (A : Around) (out : List Env) (st : Shared) (H : Hp) (ar : Args) (us : List Value) (vs : List V) (Q : VK) (E : XK), Quiet A → Room k A → Env0 P w K mg base A out st H → BindsTo st fd ar (ps.zip us) → Vals vs us → sp vs H Q E →
    codeAny (model P w) A (.call (.ref f) ar) (CR CX out P w H st Q E) st
theorem FnG.of {P : Program} {w : World} {K : PySem.W.Frag} {mg : Str → Option Value} {base : Heap} {CX : CXT} {k : Nat} {f : Addr} {fd : FuncData} {ps : List Str} {sp : Sp} (F : FnOk P w K mg base CX k f fd ps sp) : FnG P w K mg base CX k f fd ps sp :=
  ⟨F.len, fun A out st H ar us vs Q E _ => F.run A out st H ar us vs Q E⟩
section
variable {X : Cx} {CX : CXT} {k : Nat} {f : Addr} {fd : FuncData} {ps : List Str} {sp : Sp} {dvs : List V} {ds : List Value} {E : XK} {x : Str} {p pos : Pos} {e : Expr} {es : List Expr} {t : TA}
theorem runG {pins : List (Addr × Obj)} {σ : L2.St} {H : Hp} {st : Shared} {Q : VK} {us : List Value} {vs : List V} (hQ : Quiet X.A) (F : FnG X.prog X.w X.K X.mg X.base CX k f fd ps sp) (hr : Room k X.A) (hb : Binds X.K fd ps ds) (hd : Vals dvs ds) (hx : Passes CX X E)
    (I : Inv X pins σ H st) (rv : Vals vs us) (h : sp (vs ++ dvs) H Q E) : wpAny (model X.prog X.w) X.A (call (.ref f) us) (EP X pins σ Q) X.xe st := by
  have rw2 : Vals (vs ++ dvs) (us ++ ds) := rv.append hd
  have ln : (us ++ ds).length = ps.length := rw2.length.symm.trans (F.cnt _ _ _ _ h)
  refine wpAny_call (codeAny_mono (F.go X.A X.stack st H ⟨us, []⟩ (us ++ ds) (vs ++ dvs) Q E hQ hr I.env0 (hb st us I.kIn ln) rw2 h) fun res st2 hq => ?_)
  match res, hq with
  | .error er, hq => exact hx pins σ H st er st2 I hq
  | .ok (.ret u), hq => exact I.after hq
/-- f(..), f a def that is to run where no repr is under way -/
theorem pe_callG (hQ : Quiet X.A) (F : FnG X.prog X.w X.K X.mg X.base CX k f fd ps sp) (hr : Room k X.A) (hg : Gl X x) (hm : X.mg x = some (.ref f)) (hk : PySem.W.keepIn X.K (.ref f) = true) (hb : Binds X.K fd ps ds) (hd : Vals dvs ds) (hx : Passes CX X E)
    (ha : PA X (e :: es) t) (hdb : (x == ("__debug__" : Str)) = false := by decide) (he : starEach (e :: es) X.env = (false, eval e X.env) :: starEach es X.env := by rfl) (hpl : (backTo pos (starEach es X.env)).any (·.1) = false := by rfl) :
    PE X (.Call (.Name x p) (e :: es) [] pos) (tCall sp dvs E t) := by
  refine ⟨fun pins st σ H Q I hh => ?_⟩
  refine wpAny_Call_Name_kw (ld_glob I hg hm ?_ hdb)
  exact PySem.W.callWith_K (h₀ := X.base) I.ok.mod.kin hk (thn (ha.run pos pins st σ H _ I hh) fun us st1 ⟨vs, H1, I1, rv, q⟩ => ⟨I1.kIn, runG hQ F hr hb hd hx I1 rv q⟩) he hpl
end
/-- a def's body, where no repr is under way -/
theorem fn_ofG {CX : CXT} {P : Program} {w : World} {K : PySem.W.Frag} {mg : Str → Option Value} {base : Heap} {k : Nat} {f : Addr} {nm qual : Str} {params : Arguments} {body : List Stmt} {sc : Scope} {dV kV doc pm cdv ct oc : Value} {an od : Option Addr}
    {osl : Array (Option Value)} {N ps : List Str} {sp : Sp} (lk : K.lookup f = some ⟨oc, od, .func (PySem.W.fnOf nm qual params body sc dV kV doc pm an cdv ct), osl⟩) (hcd : PySem.W.codeIn K cdv qual = true) (S : FnScope N ps sc)
    (cnt : ∀ vs H Q E, sp vs H Q E → vs.length = ps.length)
    (hbody : ∀ (A : Around) (out : List Env) (st : Shared) (H : Hp) (vs : List V) (Q : VK) (E : XK), Quiet (A.deeper (envOfC qual sc st.heap.objs.size f cdv)) → Room k (A.deeper (envOfC qual sc st.heap.objs.size f cdv)) → sp vs H Q E →
      ∃ t, PSs (cxOf CX P w K mg base N qual sc f cdv A out st H E) body t ∧ t { nx := fun _ H' => Q .non H', rt := Q } (start N vs) H) :
    FnG P w K mg base CX (k + 1) f (PySem.W.fnOf nm qual params body sc dV kV doc pm an cdv ct) ps sp := by
  refine ⟨cnt, fun A out st H ar us vs Q E hQ hr e0 hb rv hsp => ?_⟩
  have ln := cnt _ _ _ _ hsp
  have KX : K.In st.heap := e0.mod.kin.keeps fun b o e => (e0.bs b o e).1
  have nl : st.heap.NoLimit := e0.mod.nolimit.keeps fun b o e => (e0.bs b o e).1
  have kinds : ∀ y ∈ ps.zip us, sc.names.lookup y.1 = some .local ∨ (sc.names.lookup y.1 = some .cell ∧ ((cellsFrom (st.heap.objs.size + 1) sc.names []).lookup y.1).isSome = true) := fun ⟨n, v⟩ hy =>
    (S.par n (List.of_mem_zip hy).1).imp id fun q => ⟨q, PySem.W.cellsFrom_some _ _ _ (.inl q)⟩
  refine codeAny_call_function hr.depth (KX _ _ lk) rfl S.co S.gen rfl (PySem.W.codeRec_of KX hcd) (hb _ _ _ _ (wpAny_newFunctionEnv_cells S.kind kinds fun env he s1 xc => ?_))
  subst he
  obtain ⟨t, ht, hq⟩ := hbody A out st H vs Q E hQ (hr.deeper _) hsp
  have I : Inv (cxOf CX P w K mg base N qual sc f cdv A out st H E) [] (start N vs) H s1 := inv_start S hr.hd e0 ln rv xc
  refine ⟨nl.keeps xc.toInCall.keep, codeAny_func (wpAny_mono (ht.run [] s1 (start N vs) H _ I hq) (fun fl s' hs => ?_) fun _ _ z => z)⟩
  match fl, hs with
  | .ret u, ⟨v, σ', H', J, rv', q⟩ => exact ⟨v, H', J.os, J.bare, J.base, J.hok, rv', q⟩
  | .next, ⟨σ', H', J, q⟩ => exact ⟨V.non, H', J.os, J.bare, J.base, J.hok, rfl, q⟩
  | .brk, ⟨_, _, _, q⟩ => exact q.elim
  | .cont, ⟨_, _, _, q⟩ => exact q.elim
section
variable {P : Program} {w : World} {K : PySem.W.Frag} {mg : Str → Option Value} {base : Heap}
theorem okG {x qual : Str} {st : Stmt} {f : Addr} {fd : FuncData} {N ps : List Str} {k : Nat} {sp : Sp} (F : Fun K x qual st f fd) (S : FnScope N ps (defScope st)) (cnt : ∀ vs H Q E, sp vs H Q E → vs.length = ps.length)
    (hbody : ∀ (cdv : Value) (A : Around) (out : List Env) (s : Shared) (H : Hp) (vs : List V) (Q : VK) (E : XK), Quiet (A.deeper (envOfC qual (defScope st) s.heap.objs.size f cdv)) → Room k (A.deeper (envOfC qual (defScope st) s.heap.objs.size f cdv)) → sp vs H Q E →
      ∃ t, PSs (cxOf CX0 P w K mg base N qual (defScope st) f cdv A out s H E).nox (defBody st) t ∧ t { nx := fun _ H' => Q .non H', rt := Q } (start N vs) H) : FnG P w K mg base CX0 (k + 1) f fd ps sp := by
  obtain ⟨oc, od, kV, doc, pm, an, cdv, ct, osl, rfl, lk, hcd⟩ := F.ex
  refine fn_ofG lk hcd S cnt fun A out s H vs Q E hQ hr hsp => ?_
  obtain ⟨t, h, q⟩ := hbody cdv A out s H vs Q E hQ hr hsp
  exact ⟨t, h.nox, q⟩
end
/-! ### the law's end, where no repr is under way -/
theorem quiet_top : Quiet callerA := rfl
theorem law_callG {P : Program} {w : World} {K : PySem.W.Frag} {mg mb : Str → Option Value} {k : Nat} {fa a : Addr} {fd : FuncData} {x : Str} {sp : Sp} {s0 : Shared} {vs : List Value} {ns : List Int}
    (KX : K.In s0.heap) (hns : s0.heap.Ns mainGlobals mg) (hb : s0.heap.Ns builtinsNs mb) (hbb : ∀ y : Str, y ≠ "__name__" → mb y = bootBuiltins y) (hlim : s0.heap.NoLimit) (hg : s0.gens = #[])
    (ha : s0.heap.get? a = some { cls := .type "list", data := .seq vs.toArray }) (hi : IntsAre vs ns) (hl : ns.length ≤ sizeLine) (hr : Room k callerA)
    (F : ∀ base : Heap, K.In base → base.Ns mainGlobals mg → FnG P w K mg base CX0 k fa fd [x] sp) (hbind : ∀ (st : Shared) (u : Value), BindsTo st fd ⟨[u], []⟩ [(x, u)])
    (hsp : ∀ H : Hp, SqL K H a (ns.map V.int) → sp [.ref a] H (fun v _ => v = .bl true) fun _ _ _ => False) :
    codeAny (model P w) callerA (.call (.ref fa) ⟨[.ref a], []⟩) (fun res s' => res = .ok (.ret (.bool true)) ∧ OldK s0.heap s'.heap ∧ s'.os = s0.os ∧ AllBare s'.gens) s0 := by
  have rv := vals_ints hi
  have lnV := hi.length
  have mid : ∀ H : Hp, Only H → SqL K H a (ns.map V.int) → HOk P w H s0.heap → (∀ b, H b ≠ none → b = a) → (H a ≠ none → K.lookup a = none) →
      codeAny (model P w) callerA (.call (.ref fa) ⟨[.ref a], []⟩) (fun res s' => res = .ok (.ret (.bool true)) ∧ OldK s0.heap s'.heap ∧ s'.os = s0.os ∧ AllBare s'.gens) s0 := by
    intro H hO hS hok hA hK
    have toBase : ∀ {b : Addr} {o : Obj}, s0.heap.get? b = some o → H b = none → (hidT s0.heap H).get? b = some o := fun e n => hidT_get e n
    have noDict : ∀ {b : Addr} {o : Obj} {es : Array DictEntry} {ep : Nat}, s0.heap.get? b = some o → o.data = .dict es ep → H b = none := fun {b o es ep} e d => by
      cases t : H b with
      | none => rfl
      | some u =>
        obtain rfl : b = a := hA b (by rw [t]; simp)
        cases e.symm.trans ha
        exact nomatch (show Data.seq vs.toArray _ = Data.dict es ep from d)
    have nsB : ∀ {b : Addr} {m : Str → Option Value}, s0.heap.Ns b m → (hidT s0.heap H).Ns b m := fun {b m} ⟨o, es, ep, e, d, r⟩ => ⟨o, es, ep, toBase e (noDict e d), d, r⟩
    have kinB : K.In (hidT s0.heap H) := fun b o e => toBase (KX b o e) (by
      cases t : H b with
      | none => rfl
      | some u =>
        obtain rfl : b = a := hA b (by rw [t]; simp)
        cases e.symm.trans (hK (by rw [t]; simp)))
    have modB : Mod K mg (hidT s0.heap H) := ⟨kinB, nsB hns, ⟨mb, nsB hb, hbb⟩, let ⟨mc, h1, h2⟩ := hlim; ⟨mc, nsB h1, h2⟩⟩
    have e0 : Env0 P w K mg (hidT s0.heap H) callerA [] s0 H := ⟨rfl, modB, fun b o e => of_hidT e, Nat.le_of_eq (hidT_size _ _), trivial, fun b hm => (List.not_mem_nil hm).elim, hok, .of_eq hg⟩
    refine codeAny_mono ((F _ kinB (nsB hns)).go callerA [] s0 H ⟨[.ref a], []⟩ [.ref a] [.ref a] _ _ quiet_top hr e0 (hbind s0 (.ref a)) (.cons rfl .nil) (hsp H hS)) fun res s' h => ?_
    match res, h with
    | .ok (.ret u), ⟨v, H', os, bare, un, hok', rr, q⟩ =>
      obtain rfl : v = .bl true := q
      obtain rfl : u = Value.bool true := rr
      refine ⟨rfl, OldK.of_keep fun b o e => ?_, os, bare⟩
      cases t : H b with
      | none => exact un.keep b o e t List.not_mem_nil List.not_mem_nil
      | some u =>
        rcases hO b with z | ⟨ob, xs, z⟩
        · exact nomatch z.symm.trans t
        · have e1 := (hok b _ z).1
          have e2 := (hok' b _ (un.frzs b ob _ z)).1
          rw [e] at e1
          cases e1
          exact e2
  cases hk : K.lookup a with
  | some o =>
    have e := KX a o hk
    rw [ha] at e
    cases e
    exact mid (fun _ => none) (fun _ => .inl rfl) (.inr ⟨_, vs.toArray, _, hk, rfl, rfl, rfl, by rw [List.size_toArray, lnV]; exact hl, by simpa using rv⟩) (fun b u z => nomatch (show (none : Option HO) = some u from z)) (fun b z => absurd rfl z) fun z => absurd rfl z
  | none =>
    have isA : ∀ {b : Addr} {u : HO}, (if b = a then some (HO.frz { cls := .type "list", data := .seq vs.toArray } (.lst (ns.map V.int))) else none) = some u → b = a := fun {b u} z => by
      by_cases t : b = a
      · exact t
      · rw [if_neg t] at z
        cases z
    refine mid (fun b => if b = a then some (.frz { cls := .type "list", data := .seq vs.toArray } (.lst (ns.map V.int))) else none) (fun b => ?_) (.inl (.inr ⟨{ cls := .type "list", data := .seq vs.toArray }, if_pos rfl⟩)) (fun b u z => ?_) (fun b z => ?_) fun _ => hk
    · by_cases t : b = a
      · exact .inr ⟨_, _, if_pos t⟩
      · exact .inl (if_neg t)
    · have t := isA z
      subst t
      cases (if_pos rfl).symm.trans z
      exact ⟨ha, by rw [List.length_map]; exact hl, vs, _, rv, ha⟩
    · by_cases t : b = a
      · exact t
      · exact absurd (if_neg t) z
theorem walk_ofG {l : PySem.W.OpenLaw} {n k : Nat} {q : Program} {loose : List Str} {XP : (Str → Option Value) → Heap → Prop} {YP : World → Heap → Prop} {d : DefRec} {K : Params → PySem.W.Frag} {sp : PySem.W.Frag → Sp} {x : Str}
    (hn : l.most = some n) (hn2 : n ≤ sizeLine) (hdf : d.params.defaults = []) (hr : Room k callerA)
    (hY : ∀ (w : World) (h : Heap), YP w h → (K w.params).In h)
    (F : ∀ (w : World) (mg : Str → Option Value) (fa : Addr) (h : Heap), (K w.params).In h → h.Ns mainGlobals mg → mg d.name = some (.ref fa) →
      ∃ fd : FuncData, (∀ (st : Shared) (u : Value), BindsTo st fd ⟨[u], []⟩ [(x, u)]) ∧
        ∀ base : Heap, (K w.params).In base → base.Ns mainGlobals mg → FnG l.prog w (K w.params) mg base CX0 k fa fd [x] (sp (K w.params)))
    (hsp : ∀ (K : PySem.W.Frag) (H : Hp) (a : Addr) (ns : List Int), ns.length ≤ n → SqL K H a (ns.map V.int) → sp K [.ref a] H (fun v _ => v = .bl true) fun _ _ _ => False) :
    PySem.W.WalkO q loose XP YP l.row.toRowW d [] (fun f vs => PySem.call f vs) := by
  refine Att.attach_call hn hdf fun w st st1 mg mb fa o pm cd doc a vs ns G Y ho hd hcd hmg hobj hints hlen hg => ?_
  have KX := hY w _ Y
  obtain ⟨fd, hb, hF⟩ := F w mg fa _ KX G.T.g hmg
  exact law_callG KX G.T.g G.T.b G.T.builtins G.T.nolimit hg hobj hints (Nat.le_trans hlen hn2) hr hF hb fun H hS => hsp (K w.params) H a ns hlen hS
/-! ### repr of data: the text hangs on the data alone -/
mutual
/-- data of any depth; as: where its lists and dicts stand -/
inductive Dq (K : PySem.W.Frag) (H : Hp) : V → PyData → List Addr → Prop
  | non : Dq K H .non .none []
  | bl (b : Bool) : Dq K H (.bl b) (.bool b) []
  | int (i : Int) : Dq K H (.int i) (.int i) []
  | str (x : Str) : Dq K H (.str x) (.str x) []
  | lst {a : Addr} {xs : List V} {ds : List PyData} {as : List Addr} : SqL K H a xs → DqAll K H xs ds as → Dq K H (.ref a) (.list ds) (a :: as)
  | tup {a : Addr} {xs : List V} {ds : List PyData} {as : List Addr} : SqT K H a xs → DqAll K H xs ds as → Dq K H (.ref a) (.tuple ds) as
  | dct {a : Addr} : H a = some (.dK []) → Dq K H (.ref a) (.dict []) [a]
inductive DqAll (K : PySem.W.Frag) (H : Hp) : List V → List PyData → List Addr → Prop
  | nil : DqAll K H [] [] []
  | cons {v : V} {vs : List V} {d : PyData} {ds : List PyData} {as bs : List Addr} : Dq K H v d as → DqAll K H vs ds bs → DqAll K H (v :: vs) (d :: ds) (as ++ bs)
end
section
variable {X : Cx} {pins : List (Addr × Obj)} {σ : L2.St} {H : Hp} {s : Shared}
mutual
theorem Dq.reads (I : Inv X pins σ H s) : ∀ (d : PyData) (v : V) (as : List Addr) (u : Value), Dq X.K H v d as → RelV v u → Reads s.heap u d as
  | .none, _, _, _, h, r => by
    cases h
    cases r
    exact Reads.none
  | .bool b, _, _, _, h, r => by
    cases h
    cases r
    exact Reads.bool b
  | .int i, _, _, _, h, r => by
    cases h
    obtain ⟨t, rfl⟩ := r
    exact Reads.int i t
  | .str x, _, _, _, h, r => by
    cases h
    obtain ⟨t, rfl⟩ := r
    exact Reads.str x t
  | .list ds, _, _, _, h, r => by
    cases h with
    | lst hs ha =>
      cases r
      obtain ⟨its, rv, ⟨o, n, ho, hc, _, hd⟩, _⟩ := I.list hs
      exact Reads.list ho hc hd (Dq.readsAll I ds _ _ its ha rv)
  | .tuple ds, _, _, _, h, r => by
    cases h with
    | tup hs ha =>
      cases r
      obtain ⟨its, rv, ⟨o, ho, hc, n, hd⟩, _⟩ := I.tuple hs
      exact Reads.tuple ho hc hd (Dq.readsAll I ds _ _ its ha rv)
  | .dict _, _, _, _, h, r => by
    cases h with
    | dct ha =>
      cases r
      obtain ⟨_, _, vs, kv, o, es, ep, ho, hx, hd, _, he, _⟩ := (show ObjOk X.prog X.w H s.heap _ (.dK []) from I.hok _ _ ha)
      cases kv
      have e0 : es.toList = [] := by
        cases t : es.toList with
        | nil => rfl
        | cons x r =>
          rw [t] at he
          cases he
      refine Reads.dict (as := []) (bs := []) ho hx.1 hd ?_ ?_ <;> rw [e0] <;> exact ReadsAll.nil
theorem Dq.readsAll (I : Inv X pins σ H s) : ∀ (ds : List PyData) (vs : List V) (as : List Addr) (us : List Value), DqAll X.K H vs ds as → Vals vs us → ReadsAll s.heap us ds as
  | [], _, _, _, h, r => by
    cases h
    cases r
    exact ReadsAll.nil
  | d :: ds, _, _, _, h, r => by
    cases h with
    | cons h1 h2 =>
      cases r with
      | cons r1 r2 => exact ReadsAll.cons (Dq.reads I d _ _ _ h1 r1) (Dq.readsAll I ds _ _ _ h2 r2)
end
end
section
variable {X : Cx}
/-- what repr asks: data that may be shown, of no great depth and length; its dicts, if any, are no module table -/
def rRepr (K : PySem.W.Frag) : List V → Hp → VK → Prop := fun xs H Q => ∃ (v : V) (d : PyData) (as : List Addr), xs = [v] ∧ Dq K H v d as ∧ d.showable = true ∧ (d.hasDict = true → ∀ b ∈ as, b ≠ sysModules ∨ ∃ kvs, H b = some (.dK kvs)) ∧
  d.depth ≤ 60 ∧ d.shown.length ≤ sizeLine ∧ Q (.str d.shown) H
theorem call_reprD (hQ : Quiet X.A) (hu : X.A.units + 64 < cLine) : CallR X (.builtin "repr") (rRepr X.K) := by
  intro pins s σ H xs us Q I r h
  obtain ⟨v, d, as, rfl, hd, hs, hm, hp, hz, q⟩ := h
  obtain ⟨u, rfl, ru⟩ := vals1 r
  have fin : ∀ h' u2 tk, (∀ b o, s.heap.get? b = some o → h'.get? b = some o) → EP X pins σ Q (.str d.shown u2) { s with heap := h', toks := tk } := fun h' u2 tk hk => ⟨.str _, H, I.kept hk, ⟨_, rfl⟩, q⟩
  have rd := Dq.reads I d v as u hd ru
  have nos : d.hasDict = true → sysModules ∉ as := fun c hmem => by
    rcases hm c _ hmem with z | ⟨kvs, z⟩
    · exact z rfl
    · obtain ⟨_, nz, _⟩ := (show ObjOk X.prog X.w H s.heap sysModules (.dK kvs) from I.hok _ _ z)
      exact absurd nz (by decide)
  cases hd with
  | non =>
    cases ru
    exact PySem.P.repr_of_none (fin s.heap _ _ fun _ _ e => e)
  | bl b =>
    cases ru
    exact PySem.P.repr_of_bool (by cases b <;> exact (fin s.heap _ _ fun _ _ e => e))
  | int i =>
    obtain ⟨t, rfl⟩ := ru
    exact PySem.P.repr_of_int (by simpa [PyData.showable] using hs) (fin s.heap _ _ fun _ _ e => e)
  | str x =>
    obtain ⟨t, rfl⟩ := ru
    exact PySem.P.repr_of_str (fin s.heap _ _ fun _ _ e => e) (by simpa [PyData.shown] using hz)
  | lst _ _ =>
    cases ru
    exact repr_of_reads' rd hs nos hQ (by omega) (fun _ _ e => e) fin hz
  | tup _ _ =>
    cases ru
    exact repr_of_reads' rd hs nos hQ (by omega) (fun _ _ e => e) fin hz
  | dct _ =>
    cases ru
    exact repr_of_reads' rd hs nos hQ (by omega) (fun _ _ e => e) fin hz
/-- max(xs, default=d) of a list of ints -/
def rMaxD (K : PySem.W.Frag) : List V → List V → Hp → VK → Prop := fun xs zs H Q => ∃ (p : Addr) (ns : List Int) (d : Int), xs = [.ref p] ∧ zs = [.int d] ∧ SqL K H p (ns.map V.int) ∧
  (ns = [] → Q (.int d) H) ∧ ∀ m, m ∈ ns → (∀ a ∈ ns, a ≤ m) → Q (.int m) H
theorem maxOf_ints : ∀ (ys : List Int) (y : Int), PySem.W.maxOf y ys ∈ y :: ys ∧ ∀ a ∈ y :: ys, a ≤ PySem.W.maxOf y ys
  | [], y => ⟨List.mem_cons_self .., fun a h => by
    rcases List.mem_cons.mp h with z | z
    · exact Int.le_of_eq z
    · cases z⟩
  | z :: ys, y => by
    have e : PySem.W.maxOf y (z :: ys) = PySem.W.maxOf (if y < z then z else y) ys := by
      unfold PySem.W.maxOf
      rw [List.foldl_cons]
      congr 1
      show (if decide (y < z) = true then z else y) = _
      by_cases c : y < z <;> simp [c]
    have k : y ≤ (if y < z then z else y) ∧ z ≤ (if y < z then z else y) ∧ ((if y < z then z else y) = y ∨ (if y < z then z else y) = z) := by
      by_cases c : y < z
      · rw [if_pos c]
        exact ⟨by omega, Int.le_refl _, .inr rfl⟩
      · rw [if_neg c]
        exact ⟨Int.le_refl _, by omega, .inl rfl⟩
    rw [e]
    revert k
    generalize (if y < z then z else y) = t
    intro ⟨k1, k2, k3⟩
    obtain ⟨h1, h2⟩ := maxOf_ints ys t
    have hw := h2 _ (List.mem_cons_self ..)
    refine ⟨?_, fun a ha => ?_⟩
    · rcases List.mem_cons.mp h1 with c | c
      · rw [c]
        rcases k3 with c | c <;> rw [c] <;> simp
      · exact List.mem_cons_of_mem _ (List.mem_cons_of_mem _ c)
    · rcases List.mem_cons.mp ha with c | c
      · rw [c]
        exact Int.le_trans k1 hw
      · rcases List.mem_cons.mp c with c | c
        · rw [c]
          exact Int.le_trans k2 hw
        · exact h2 _ (List.mem_cons_of_mem _ c)
theorem call_maxD (hc : X.calm = true) (hu : X.A.units + 64 < cLine) : CallRK X (.builtin "max") ["default"] (rMaxD X.K) := by
  intro pins s σ H xs zs us ws Q I r rz h
  obtain ⟨p, ns, d, rfl, rfl, hq, h0, h1⟩ := h
  obtain ⟨u, rfl, ru⟩ := vals1 r
  obtain ⟨u2, rfl, ru2⟩ := vals1 rz
  cases ru
  obtain ⟨its, rv, pl, _⟩ := I.list hq
  have hold : PySem.W.HoldAll s.heap its.toArray.toList ns := PySem.W.HoldAll.of_ints (by simpa using rv.ints)
  refine PySem.W.max_list_datum_default (α := Int) (I.ok.hd hc) pl.isList hold (by show X.A.units + 1 + 0 < cLine; omega) (fun e h' tk hk => ⟨.int d, H, I.kept hk, ru2, h0 e⟩) fun y ys i v h' tk e hi hv hk => ?_
  have hm := maxOf_ints ys y
  rw [← e] at hm
  refine ⟨.int (PySem.W.maxOf y ys), H, I.kept hk, ?_, h1 _ hm.1 hm.2⟩
  obtain ⟨as, rd⟩ := hv
  cases rd with
  | int i t => exact ⟨t, rfl⟩
end
end Up

/-! rows are copied -/
namespace Up
open PySem PySem.Spec PyProof.Rows L2
abbrev s_copied_rows : Stmt := (topS 16)
theorem sc_copied_rows : FnScope ["rows", "row"] ["rows"] (defScope s_copied_rows) := ⟨rfl, rfl, rfl, by decide +kernel, rfl, by decide +kernel, by decide +kernel⟩
def Kd.up {H H' : Hp} {v : V} (s : Same H H') : Kd H v → Kd H' v
  | .non => .non
  | .bl b => .bl b
  | .int i => .int i
  | .str x => .str x
  | .lst a xs h => .lst a xs (s _ _ h)
  | .tup a xs h => .tup a xs (s _ _ h)
  | .dct a kvs h => .dct a kvs (s _ _ h)
theorem Kd.up_ty {H H' : Hp} {v : V} (s : Same H H') (k : Kd H v) : (k.up s).ty = k.ty := by cases k <;> rfl
def Kd.list? {H : Hp} {v : V} : Kd H v → Option (List V)
  | .lst _ xs _ => some xs
  | .tup _ xs _ => some xs
  | _ => none
theorem Kd.kitLT {K : PySem.W.Frag} {H : Hp} {v : V} (k : Kd H v) : PySem.W.kitAny K (.type k.ty) [.type "list", .type "tuple"] = some k.list?.isSome := by
  have h1 := k.kit (K := K) (t := "list") (by decide)
  have h2 := k.kit (K := K) (t := "tuple") (by decide)
  unfold PySem.W.kitAny
  rw [h1]
  cases k <;> first
    | rfl
    | (unfold PySem.W.kitAny; exact (by rw [h2] <;> rfl))
/-- a list or a tuple, made by the program -/
def LT (H : Hp) (a : Addr) (xs : List V) : Prop := H a = some (.lst xs) ∨ H a = some (.tup xs)
theorem LT.ta {K : PySem.W.Frag} {H : Hp} {a : Addr} {xs : List V} (h : LT H a xs) : LTa K H a xs := h.imp (fun h => .inl (.inl h)) fun h => .inl (.inl h)
theorem LT.same {H H' : Hp} {a : Addr} {xs : List V} (s : Same H H') (h : LT H a xs) : LT H' a xs := h.imp (s _ _) (s _ _)
theorem LT.kd {H : Hp} {a : Addr} {xs : List V} (h : LT H a xs) : ∃ k : Kd H (.ref a), k.list? = some xs := by
  rcases h with h | h
  · exact ⟨.lst a xs h, rfl⟩
  · exact ⟨.tup a xs h, rfl⟩
section
variable {P : Program} {w : World} {K : PySem.W.Frag} {mg : Str → Option Value} {base : Heap}
def listingV {H : Hp} {v : V} (k : Kd H v) (most : Int) : Bool := match k.list? with
  | some xs => decide ((xs.length : Int) ≤ most)
  | none => false
def spListing : Sp := fun vs H Q _ => ∃ (v : V) (k : Kd H v) (most : Int), vs = [v, .int most] ∧ ∀ H', Same H H' → Q (.bl (listingV k most)) H'
theorem ok_listing {f : Addr} {fd : FuncData} (F : Fun K "is_listing" "is_listing" s_is_listing f fd) (T : TxtC mg) : FnOk P w K mg base CX0 1 f fd ["value", "most"] spListing := by
  refine F.ok sc_is_listing (fun vs H Q E h => ?_) (fun cdv A outer s H vs Q E hr h => ?_)
  · obtain ⟨v, k, most, rfl, _⟩ := h
    rfl
  · obtain ⟨v, k, most, rfl, q⟩ := h
    refine ⟨_, (pss_one (ps_ret (pe_and (pe_callB call_isiT (by rfl) T.isinstance bb_isinstance (pa_cons (pv 0) (pa_cons (pe_tup (pa_cons (pe_bltn (v := .ty "list") (by rfl) T.list bt_list rfl) (pa_cons (pe_bltn (v := .ty "tuple") (by rfl) T.tuple bt_tuple rfl) pa_nil))) pa_nil))) (pe_one (pe_cmpR op_le (pe_callB call_len_seq (by rfl) T.len PySem.boot_len (pa_cons (pv 0) pa_nil)) (pv 1) (nomark _)))))), ?_⟩
    refine ⟨_, rfl, (by show 2 ≤ sizeLine; decide), fun p np => ?_⟩
    have s1 : Same H (upd H p (.tup [.ty "list", .ty "tuple"])) := same_new np
    refine ⟨v, p, [.ty "list", .ty "tuple"], _, [.type "list", .type "tuple"], _, rfl, upd_same, .cons (.ty _) (.cons (.ty _) .nil), (k.up s1).tyx, (k.up s1).kitLT, _, rfl, ?_⟩
    have q1 := q _ s1
    unfold listingV at q1
    cases k with
    | lst a xs h => exact ⟨_, rfl, a, xs, rfl, .inl (.inl (.inl (s1 _ _ h))), _, rfl, _, _, rfl, rfl, q1⟩
    | tup a xs h => exact ⟨_, rfl, a, xs, rfl, .inr (.inl (.inl (s1 _ _ h))), _, rfl, _, _, rfl, rfl, q1⟩
    | _ => exact q1
/-- rows, as lists or tuples: the items of each -/
structure RowsIn (H : Hp) (a : Addr) (xss : List (List V)) : Prop where
  ex : ∃ rs : List Addr, LT H a (rs.map V.ref) ∧ rs.length = xss.length ∧ ∀ (i : Nat) (r : Addr) (xs : List V), rs[i]? = some r → xss[i]? = some xs → LT H r xs
/-- rows, as a tuple of tuples -/
structure RowsT (H : Hp) (p : Addr) (xss : List (List V)) : Prop where
  ex : ∃ ts : List Addr, H p = some (.tup (ts.map V.ref)) ∧ ts.length = xss.length ∧ ∀ (i : Nat) (t : Addr) (xs : List V), ts[i]? = some t → xss[i]? = some xs → H t = some (.tup xs)
theorem RowsT.same {H H' : Hp} {p : Addr} {xss : List (List V)} (s : Same H H') (h : RowsT H p xss) : RowsT H' p xss := by
  obtain ⟨ts, h1, h2, h3⟩ := h.ex
  exact ⟨ts, s _ _ h1, h2, fun i t xs e1 e2 => s _ _ (h3 i t xs e1 e2)⟩
theorem RowsIn.same {H H' : Hp} {p : Addr} {xss : List (List V)} (s : Same H H') (h : RowsIn H p xss) : RowsIn H' p xss := by
  obtain ⟨ts, h1, h2, h3⟩ := h.ex
  exact ⟨ts, h1.same s, h2, fun i t xs e1 e2 => (h3 i t xs e1 e2).same s⟩
def spCopy : Sp := fun vs H Q _ => ∃ (a : Addr) (xss : List (List V)), vs = [.ref a] ∧ RowsIn H a xss ∧ 1 ≤ xss.length ∧ xss.length ≤ 6 ∧ ∀ H' p, Same H H' → RowsT H' p xss → Q (.ref p) H'
structure TxtR (K : PySem.W.Frag) (mg : Str → Option Value) (fL : Addr) : Prop extends TxtC mg where
  g_is_listing : mg "is_listing" = some (.ref fL)
  g_MOST_HANDS : ∃ t, mg "MOST_HANDS" = some (.int 6 t)
theorem map_get {l : List Addr} {i : Nat} {x : V} (h : (l.map V.ref)[i]? = some x) : ∃ r, l[i]? = some r ∧ x = .ref r := by
  rw [List.getElem?_map] at h
  cases e : l[i]? with
  | none =>
    rw [e] at h
    cases h
  | some r =>
    rw [e] at h
    exact ⟨r, rfl, (Option.some.inj h).symm⟩
theorem get_of {α β : Type} {l : List α} {m : List β} (h : l.length = m.length) {i : Nat} {x : α} (e : l[i]? = some x) : ∃ y, m[i]? = some y := by
  have h1 := (List.getElem?_eq_some_iff.mp e).1
  exact ⟨m[i]'(by omega), List.getElem?_eq_getElem (by omega)⟩
theorem snoc_get {α : Type} {l : List α} {x y : α} {i : Nat} (h : (l ++ [x])[i]? = some y) : l[i]? = some y ∨ (i = l.length ∧ y = x) := by
  by_cases c : i < l.length
  · rw [List.getElem?_append_left c] at h
    exact .inl h
  · rw [List.getElem?_append_right (by omega)] at h
    have h1 := (List.getElem?_eq_some_iff.mp h).1
    have e : i - l.length = 0 := by
      simp at h1
      omega
    rw [e] at h
    exact .inr ⟨by omega, (Option.some.inj h).symm⟩
theorem ok_copy {f fL : Addr} {fd fdL : FuncData} (F : Fun K "copied_rows" "copied_rows" s_copied_rows f fd) (T : TxtR K mg fL) (F_is_listing : Fun K "is_listing" "is_listing" s_is_listing fL fdL) (b_is_listing : Binds K fdL ["value", "most"] []) : FnOk P w K mg base CX0 2 f fd ["rows"] spCopy := by
  have G_is_listing : FnOk P w K mg base CX0 1 fL fdL ["value", "most"] spListing := ok_listing F_is_listing T.toTxtC
  refine F.ok sc_copied_rows (fun vs H Q E h => ?_) (fun cdv A outer s H vs Q E hr h => ?_)
  · obtain ⟨a, xss, rfl, _⟩ := h
    rfl
  · obtain ⟨a, xss, rfl, hR, l1, l6, q⟩ := h
    obtain ⟨tk, gMH⟩ := T.g_MOST_HANDS
    have hr_is_listing : Room 1 _ := hr.mono (by decide)
    obtain ⟨rs, ha, hl, hrs⟩ := hR.ex
    obtain ⟨k, ek⟩ := ha.kd
    refine ⟨_, (pss_cons (ps_if (PW.pt (pw_or (pt_not (pt_val (pe_call G_is_listing hr_is_listing (by rfl) T.g_is_listing F_is_listing.kp b_is_listing .nil pass0 (pa_cons (pv 0) (pa_cons (pe_glob (v := .int 6) rfl gMH ⟨_, rfl⟩) pa_nil))))) (pw_or1 (pt_cmpR op_eq (pe_callB call_len_seq (by rfl) T.len PySem.boot_len (pa_cons (pv 0) pa_nil)) pe_int (nomark _))))) (pss_one ps_never) pss_nil) (pss_cons (ps_for PassesOwn.never rfl (pi_seq (pv 0)) (pg_name (i := 1) sc_copied_rows.nd rfl (Or.inl rfl)) (pss_one (ps_if (pt_not (pt_val (pe_callB call_isiT (by rfl) T.isinstance bb_isinstance (pa_cons (pv 1) (pa_cons (pe_tup (pa_cons (pe_bltn (v := .ty "list") (by rfl) T.list bt_list rfl) (pa_cons (pe_bltn (v := .ty "tuple") (by rfl) T.tuple bt_tuple rfl) pa_nil))) pa_nil))))) (pss_one ps_never) pss_nil))) (pss_one (ps_ret (pe_callTy call_tuple_of (by rfl) T.tuple bt_tuple (pa_cons (pe_lc (own := [("row", 1)]) (tt := tYes) rfl sc_copied_rows.nd (pi_seq (pv 0)) (blkOk_by (own := [("row", 1)]) (N := ["rows", "row"]) (sc := defScope s_copied_rows) (by decide +kernel)) (fun _ _ _ _ _ => (pg_name (i := 1) sc_copied_rows.nd rfl (Or.inl rfl))) (fun _ _ _ _ _ => pts_nil) (fun _ _ _ _ _ => (pe_callTy (call_tupK (K := K) rfl) (by rfl) T.tuple bt_tuple (pa_cons (pv 1) pa_nil)))) pa_nil)))))), ?_⟩
    -- if not is_listing(rows, MOST_HANDS) or len(rows) == 0: raise
    have e1 : listingV k 6 = true := by
      unfold listingV
      rw [ek]
      refine decide_eq_true ?_
      rw [List.length_map]
      omega
    refine ⟨_, rfl, .ref a, k, 6, rfl, fun H1 s1 => ?_⟩
    rw [e1]
    have ha1 := ha.same s1
    refine ⟨true, rfl, ?_⟩
    have hnz : decide (V.int ((rs.map V.ref).length : Int) = V.int 0) = false := by
      refine decide_eq_false fun c => ?_
      have c2 := V.int.inj c
      rw [List.length_map] at c2
      omega
    refine ⟨_, rfl, a, rs.map V.ref, rfl, ha1.imp (fun h => .inl (.inl h)) (fun h => .inl (.inl h)), rfl, _, rfl, ?_⟩
    rw [hnz]
    -- for row in rows
    refine ⟨_, rfl, a, rfl, seq_of (K := K) ha1.ta fun J G wk hG => for_it wk (fun i σ H2 => ∃ v : Option V, σ = [some (.ref a), v] ∧ Same H1 H2) ⟨_, rfl, Same.refl _⟩ (fun i σ H2 _ ⟨_, _, sm⟩ => hG _ sm) ?_ ?_⟩
    · rintro i x σ H2 H3 hi ⟨v, rfl, sm⟩ ⟨rfl, ex⟩
      obtain ⟨r, er, rfl⟩ := map_get ex
      obtain ⟨xs, exs⟩ := get_of hl er
      obtain ⟨kr, ekr⟩ := ((hrs i r xs er exs).same (s1.trans sm)).kd
      refine ⟨_, rfl, (by show 2 ≤ sizeLine; decide), fun p np => ?_⟩
      have s2 : Same H3 (upd H3 p (.tup [.ty "list", .ty "tuple"])) := same_new np
      have e2 : (kr.up s2).list?.isSome = true := by
        cases kr <;> first | rfl | cases ekr
      refine ⟨.ref r, p, [.ty "list", .ty "tuple"], _, [.type "list", .type "tuple"], _, rfl, upd_same, .cons (.ty _) (.cons (.ty _) .nil), (kr.up s2).tyx, (kr.up s2).kitLT, _, rfl, ?_⟩
      rw [e2]
      exact ⟨_, rfl, sm.trans s2⟩
    · rintro σ H2 ⟨v, rfl, sm⟩
      -- return tuple([tuple(row) for row in rows])
      have ha2 := ha1.same sm
      refine ⟨_, rfl, a, rfl, seq_of (K := K) ha2.ta fun J G wk hG => fun D nD => lc_it wk (fun i H3 => ∃ ts : List Addr, H3 D = some (.lst (ts.map V.ref)) ∧ ts.length = i ∧ Same H2 H3 ∧ ∀ (j : Nat) (t : Addr) (xs : List V), ts[j]? = some t → xss[j]? = some xs → H3 t = some (.tup xs)) ⟨[], upd_same, rfl, same_new nD, fun j t xs e => by cases e⟩ (fun i H3 _ ⟨_, _, _, sm2, _⟩ => hG _ sm2) ?_ ?_⟩
      · rintro i x H3 H4 hi ⟨ts, hD, hlen, sm2, hts⟩ ⟨rfl, ex⟩
        rw [List.length_map] at hi
        obtain ⟨r, er, rfl⟩ := map_get ex
        obtain ⟨xs, exs⟩ := get_of hl er
        have hr2 := (hrs i r xs er exs).same ((s1.trans sm).trans sm2)
        have step : ∀ (t : Addr) (H5 : Hp), Same H4 H5 → H5 t = some (.tup xs) → ∃ acc : List V, H5 D = some (.lst acc) ∧ acc.length < sizeLine ∧ ∃ ts2 : List Addr, (upd H5 D (.lst (acc ++ [.ref t]))) D = some (.lst (ts2.map V.ref)) ∧ ts2.length = i + 1 ∧ Same H2 (upd H5 D (.lst (acc ++ [.ref t]))) ∧ ∀ (j : Nat) (t2 : Addr) (ys : List V), ts2[j]? = some t2 → xss[j]? = some ys → (upd H5 D (.lst (acc ++ [.ref t]))) t2 = some (.tup ys) := by
          intro t H5 s5 ht
          have hD5 := s5 _ _ hD
          refine ⟨_, hD5, by rw [List.length_map]; exact small1000 (by omega), ts ++ [t], by rw [upd_same, List.map_append]; rfl, by rw [List.length_append, hlen]; rfl, fun b o e => ?_, fun j t2 ys e1 e2 => ?_⟩
          · rw [upd_ne (ne_of_none e nD)]
            exact s5 _ _ (sm2 _ _ e)
          · have k2 : H5 t2 = some (.tup ys) := by
              rcases snoc_get e1 with e1 | ⟨rfl, rfl⟩
              · exact s5 _ _ (hts j t2 ys e1 e2)
              · rw [hlen] at e2
                rw [Option.some.inj (e2.symm.trans exs)]
                exact ht
            have nt : t2 ≠ D := fun z => by
              rw [z, hD5] at k2
              cases k2
            rw [upd_ne nt]
            exact k2
        refine ⟨rfl, ?_⟩
        refine ⟨_, rfl, r, xs, rfl, ?_⟩
        rcases hr2 with h | h
        · exact .inl ⟨.inl (.inl h), fun t nt => step t _ (same_new nt) upd_same⟩
        · exact .inr ⟨.inl (.inl h), step r _ (Same.refl _) h⟩
      · rintro H3 ⟨ts, hD, hlen, sm2, hts⟩
        refine ⟨D, ts.map V.ref, rfl, .inl ⟨.inl (.inl hD), fun p np => ?_⟩⟩
        have s4 : Same H3 (upd H3 p (.tup (ts.map V.ref))) := same_new np
        refine q _ p (((s1.trans sm).trans sm2).trans s4) ⟨ts, upd_same, by rw [hlen, List.length_map]; exact hl, fun i t xs e1 e2 => s4 _ _ (hts i t xs e1 e2)⟩
end
end Up

/-! doings, rows of doings, and where each stands (no Python here) -/
namespace Up
open PySem PySem.Spec PyProof.Rows L2
structure Dg where
  s : Bool
  l : Nat
  deriving DecidableEq
def Dg.word (g : Dg) : Str := if g.s then "send" else "get"
def Dg.key (g : Dg) : List Key := [.inr g.word, .inl (g.l : Int)]
def Dg.vs (g : Dg) : List V := [.str g.word, .int (g.l : Int)]
theorem Dg.key_vs (g : Dg) : g.key.map kV = g.vs := rfl
theorem word_ne : ("send" : Str) ≠ "get" := by decide +kernel
theorem Dg.key_inj {g g' : Dg} (h : g.key = g'.key) : g = g' := by
  obtain ⟨s, l⟩ := g
  obtain ⟨s', l'⟩ := g'
  have h1 := List.cons.inj h
  have h2 := List.cons.inj h1.2
  have e1 : (if s then ("send" : Str) else "get") = (if s' then ("send" : Str) else "get") := Sum.inr.inj h1.1
  have e2 : (l : Int) = (l' : Int) := Sum.inl.inj h2.1
  have e3 : l = l' := by omega
  subst e3
  cases s <;> cases s' <;> first | rfl | exact absurd e1 word_ne | exact absurd e1.symm word_ne
abbrev Pl := Dg × Nat × Nat
/-- a row of the hand h, from the number n on -/
def plRow (h n : Nat) : List Dg → List Pl
  | [] => []
  | g :: r => (g, h, n) :: plRow h (n + 1) r
/-- the rows from the hand h on -/
def plAll (h : Nat) : List (List Dg) → List Pl
  | [] => []
  | r :: rs => plRow h 0 r ++ plAll (h + 1) rs
theorem plRow_app (h : Nat) : ∀ (a b : List Dg) (n : Nat), plRow h n (a ++ b) = plRow h n a ++ plRow h (n + a.length) b
  | [], b, n => rfl
  | g :: a, b, n => by
    show (g, h, n) :: plRow h (n + 1) (a ++ b) = _
    rw [plRow_app h a b (n + 1), List.length_cons, show n + (a.length + 1) = n + 1 + a.length by omega]
    rfl
theorem plAll_app : ∀ (a b : List (List Dg)) (h : Nat), plAll h (a ++ b) = plAll h a ++ plAll (h + a.length) b
  | [], b, h => rfl
  | r :: a, b, h => by
    show plRow h 0 r ++ plAll (h + 1) (a ++ b) = _
    rw [plAll_app a b (h + 1), List.length_cons, show h + (a.length + 1) = h + 1 + a.length by omega, ← List.append_assoc]
    rfl
theorem take_snoc {α : Type} {l : List α} {i : Nat} {x : α} (h : l[i]? = some x) : l.take (i + 1) = l.take i ++ [x] := by
  rw [List.take_add_one, h]
  rfl
theorem plRow_snoc {h : Nat} {gs : List Dg} {j : Nat} {g : Dg} (e : gs[j]? = some g) : plRow h 0 (gs.take (j + 1)) = plRow h 0 (gs.take j) ++ [(g, h, j)] := by
  have h1 := (List.getElem?_eq_some_iff.mp e).1
  rw [take_snoc e, plRow_app, List.length_take, Nat.min_eq_left (by omega), Nat.zero_add]
  rfl
theorem plAll_snoc {gss : List (List Dg)} {i : Nat} {gs : List Dg} (e : gss[i]? = some gs) : plAll 0 (gss.take (i + 1)) = plAll 0 (gss.take i) ++ plRow i 0 gs := by
  have h1 := (List.getElem?_eq_some_iff.mp e).1
  rw [take_snoc e, plAll_app, List.length_take, Nat.min_eq_left (by omega), Nat.zero_add]
  show _ ++ (plRow i 0 gs ++ []) = _
  rw [List.append_nil]
/-- what is gone through, behind i rows and j doings more -/
def plTo (gss : List (List Dg)) (i : Nat) (gs : List Dg) (j : Nat) : List Pl := plAll 0 (gss.take i) ++ plRow i 0 (gs.take j)
theorem plTo_pre {gss : List (List Dg)} {i j : Nat} {gs : List Dg} (e : gss[i]? = some gs) : ∃ r, plAll 0 gss = plTo gss i gs j ++ r := by
  have h1 : plAll 0 gss = plAll 0 (gss.take (i + 1)) ++ plAll (0 + (gss.take (i + 1)).length) (gss.drop (i + 1)) := by
    rw [← plAll_app, List.take_append_drop]
  have h2 : plRow i 0 gs = plRow i 0 (gs.take j) ++ plRow i (0 + (gs.take j).length) (gs.drop j) := by
    rw [← plRow_app, List.take_append_drop]
  rw [plAll_snoc e, h2] at h1
  refine ⟨plRow i (0 + (gs.take j).length) (gs.drop j) ++ plAll (0 + (gss.take (i + 1)).length) (gss.drop (i + 1)), ?_⟩
  rw [h1]
  simp only [plTo, List.append_assoc]
theorem plTo_snoc {gss : List (List Dg)} {i j : Nat} {gs : List Dg} {g : Dg} (e : gs[j]? = some g) : plTo gss i gs (j + 1) = plTo gss i gs j ++ [(g, i, j)] := by
  unfold plTo
  rw [plRow_snoc e, List.append_assoc]
theorem plTo_end {gss : List (List Dg)} {i : Nat} {gs : List Dg} (e : gss[i]? = some gs) : plTo gss i gs gs.length = plAll 0 (gss.take (i + 1)) := by
  unfold plTo
  rw [List.take_length, plAll_snoc e]
theorem plTo_zero {gss : List (List Dg)} {i : Nat} {gs : List Dg} : plTo gss i gs 0 = plAll 0 (gss.take i) := by
  unfold plTo
  rw [List.take_zero]
  show _ ++ [] = _
  rw [List.append_nil]
/-- each doing stands once -/
def Once (gss : List (List Dg)) : Prop := ((plAll 0 gss).map (·.1)).Nodup
theorem Once.fresh {gss : List (List Dg)} (o : Once gss) {i j : Nat} {gs : List Dg} {g : Dg} (e : gss[i]? = some gs) (eg : gs[j]? = some g) : g ∉ (plTo gss i gs j).map (·.1) := by
  obtain ⟨r, h⟩ := plTo_pre (j := j + 1) e
  unfold Once at o
  rw [h, plTo_snoc eg, List.map_append, List.map_append] at o
  have o2 := (List.nodup_append.mp o).1
  have o3 := (List.nodup_append.mp o2).2.2
  intro hm
  exact o3 g hm g (List.mem_cons_self ..) rfl
theorem nd_len {α : Type} [DecidableEq α] : ∀ {a b : List α}, a.Nodup → (∀ x ∈ a, x ∈ b) → a.length ≤ b.length
  | [], _, _, _ => Nat.zero_le _
  | x :: a, b, nd, h => by
    have hx : x ∈ b := h x (List.mem_cons_self ..)
    have ih := nd_len (a := a) (b := b.erase x) (List.nodup_cons.mp nd).2 fun y hy => (List.mem_erase_of_ne (fun (c : y = x) => (List.nodup_cons.mp nd).1 (by rw [← c]; exact hy))).mpr (h y (List.mem_cons_of_mem _ hy))
    have hl := List.length_erase_of_mem hx
    have hp : 0 < b.length := List.length_pos_of_mem hx
    rw [List.length_cons]
    omega
end Up

namespace Up
open PySem PySem.Spec PyProof.Rows L2
abbrev s_found_places : Stmt := (topS 17)
theorem sc_found_places : FnScope ["rows", "places", "hand", "row", "number", "item"] ["rows"] (defScope s_found_places) := ⟨rfl, rfl, rfl, by decide +kernel, rfl, by decide +kernel, by decide +kernel⟩
/-- rows of doings, as a tuple of tuples of tuples -/
structure RowsD (H : Hp) (p : Addr) (gss : List (List Dg)) : Prop where
  ex : ∃ ts : List Addr, H p = some (.tup (ts.map V.ref)) ∧ ts.length = gss.length ∧ ∀ (i : Nat) (t : Addr) (gs : List Dg), ts[i]? = some t → gss[i]? = some gs →
    ∃ qs : List Addr, H t = some (.tup (qs.map V.ref)) ∧ qs.length = gs.length ∧ ∀ (j : Nat) (q : Addr) (g : Dg), qs[j]? = some q → gs[j]? = some g → H q = some (.tup g.vs)
theorem RowsD.same {H H' : Hp} {p : Addr} {gss : List (List Dg)} (s : Same H H') (h : RowsD H p gss) : RowsD H' p gss := by
  obtain ⟨ts, h1, h2, h3⟩ := h.ex
  refine ⟨ts, s _ _ h1, h2, fun i t gs e1 e2 => ?_⟩
  obtain ⟨qs, k1, k2, k3⟩ := h3 i t gs e1 e2
  exact ⟨qs, s _ _ k1, k2, fun j q g e3 e4 => s _ _ (k3 j q g e3 e4)⟩
/-- a dict: where each doing stands -/
structure DictP (H : Hp) (kvs : List (List Key × V)) (pl : List Pl) : Prop where
  ks : kvs.map (·.1) = pl.map fun t => t.1.key
  vs : ∀ (i : Nat) (g : Dg) (h n : Nat), pl[i]? = some (g, h, n) → ∃ q, kvs[i]? = some (g.key, .ref q) ∧ H q = some (.tup [.int (h : Int), .int (n : Int)])
theorem DictP.same {H H' : Hp} {kvs : List (List Key × V)} {pl : List Pl} (s : Same H H') (d : DictP H kvs pl) : DictP H' kvs pl :=
  ⟨d.ks, fun i g h n e => let ⟨q, h1, h2⟩ := d.vs i g h n e; ⟨q, h1, s _ _ h2⟩⟩
theorem DictP.len {H : Hp} {kvs : List (List Key × V)} {pl : List Pl} (d : DictP H kvs pl) : kvs.length = pl.length := by
  have e := congrArg List.length d.ks
  simpa using e
theorem val_none {κ : Type} [DecidableEq κ] {kvs : List (κ × V)} {k : κ} (h : k ∉ kvs.map (·.1)) : valV kvs k = none := by
  unfold valV
  rw [List.find?_eq_none.mpr]
  · rfl
  · intro p hp c
    exact h (of_decide_eq_true c ▸ List.mem_map_of_mem hp)
theorem DictP.none {H : Hp} {kvs : List (List Key × V)} {pl : List Pl} (d : DictP H kvs pl) {g : Dg} (h : g ∉ pl.map (·.1)) : valV kvs g.key = Option.none := by
  refine val_none fun c => ?_
  rw [d.ks] at c
  obtain ⟨t, ht, e⟩ := List.mem_map.mp c
  exact h (Dg.key_inj e ▸ List.mem_map_of_mem ht)
theorem DictP.snoc {H H' : Hp} {kvs : List (List Key × V)} {pl : List Pl} (d : DictP H kvs pl) (s : ∀ b o, H b = some o → (∃ xs, o = .tup xs) → H' b = some o) {g : Dg} {h n : Nat} {q : Addr} (hq : H' q = some (.tup [.int (h : Int), .int (n : Int)])) : DictP H' (kvs ++ [(g.key, .ref q)]) (pl ++ [(g, h, n)]) := by
  refine ⟨by rw [List.map_append, List.map_append, d.ks]; rfl, fun i g' h' n' e => ?_⟩
  rcases snoc_get e with e | ⟨e1, e2⟩
  · obtain ⟨q', k1, k2⟩ := d.vs i g' h' n' e
    have lt := (List.getElem?_eq_some_iff.mp k1).1
    exact ⟨q', by rw [List.getElem?_append_left lt]; exact k1, s _ _ k2 ⟨_, rfl⟩⟩
  · cases e2
    refine ⟨q, ?_, hq⟩
    rw [e1, ← d.len, List.getElem?_append_right (Nat.le_refl _), Nat.sub_self]
    rfl
section
variable {P : Program} {w : World} {K : PySem.W.Frag} {mg : Str → Option Value} {base : Heap}
def spPlaces : Sp := fun vs H Q _ => ∃ (p : Addr) (gss : List (List Dg)), vs = [.ref p] ∧ RowsD H p gss ∧ (∀ t ∈ plAll 0 gss, t.1.l < 12) ∧ Once gss ∧ (plAll 0 gss).length ≤ 1000 ∧
  ∀ H' d kvs, Same H H' → H d = none → H' d = some (.dT kvs) → DictP H' kvs (plAll 0 gss) → Q (.ref d) H'
structure TxtP (K : PySem.W.Frag) (mg : Str → Option Value) (fD : Addr) : Prop extends TxtC mg where
  g_is_doing : mg "is_doing" = some (.ref fD)
  g_MOST_LETTERS : ∃ t, mg "MOST_LETTERS" = some (.int 12 t)
theorem doing_kd {H : Hp} {q : Addr} {g : Dg} (h : H q = some (.tup g.vs)) (hl : g.l < 12) : ∃ k : Kd H (.ref q), k.doing 12 = true ∧ ∀ x y, k.couple = some (x, y) → Nonempty (Kd H x) ∧ Nonempty (Kd H y) := by
  refine ⟨.tup q g.vs h, ?_, fun x y e => ?_⟩
  · show (wordV (.str g.word) && indexV (.int (g.l : Int)) 12) = true
    have e1 : wordV (.str g.word) = true := by
      unfold Dg.word
      cases g.s <;> decide +kernel
    rw [e1]
    show (true && (decide (0 ≤ (g.l : Int)) && decide ((g.l : Int) < 12))) = true
    rw [decide_eq_true (by omega), decide_eq_true (by omega)]
    rfl
  · cases e
    exact ⟨⟨.str _⟩, ⟨.int _⟩⟩
theorem ok_places {f fD : Addr} {fd fdD : FuncData} (F : Fun K "found_places" "found_places" s_found_places f fd) (T : TxtP K mg fD) (F_is_doing : Fun K "is_doing" "is_doing" s_is_doing fD fdD) (b_is_doing : Binds K fdD ["value", "many"] []) (G_is_doing : FnOk P w K mg base CX0 3 fD fdD ["value", "many"] spDoing) :
    FnOk P w K mg base CX0 4 f fd ["rows"] spPlaces := by
  refine F.ok sc_found_places (fun vs H Q E h => ?_) (fun cdv A outer s H vs Q E hr h => ?_)
  · obtain ⟨p, gss, rfl, _⟩ := h
    rfl
  · obtain ⟨p, gss, rfl, hR, hl12, ho, hsz, q⟩ := h
    obtain ⟨tk, gML⟩ := T.g_MOST_LETTERS
    have hu := hu_of hr
    have hr_is_doing : Room 3 _ := hr.mono (by decide)
    obtain ⟨ts, hp, hts, hrow⟩ := hR.ex
    refine ⟨_, (pss_cons (ps_set (i := 1) sc_found_places.nd rfl (Or.inl rfl) pe_dnewT) (pss_cons (ps_for PassesOwn.never rfl (pi_enT (by rfl) T.enumerate (pa_cons (pv 0) pa_nil)) (pg_tup (by rfl) (pgs_cons (pg_name (i := 2) sc_found_places.nd rfl (Or.inl rfl)) (pgs_cons (pg_name (i := 3) sc_found_places.nd rfl (Or.inl rfl)) pgs_nil))) (pss_one (ps_for PassesOwn.never rfl (pi_enT (by rfl) T.enumerate (pa_cons (pv 3) pa_nil)) (pg_tup (by rfl) (pgs_cons (pg_name (i := 4) sc_found_places.nd rfl (Or.inl rfl)) (pgs_cons (pg_name (i := 5) sc_found_places.nd rfl (Or.inl rfl)) pgs_nil))) (pss_cons (ps_if (PW.pt (pw_or (pt_not (pt_val (pe_call G_is_doing hr_is_doing (by rfl) T.g_is_doing F_is_doing.kp b_is_doing .nil pass0 (pa_cons (pv 5) (pa_cons (pe_glob (v := .int 12) rfl gML ⟨_, rfl⟩) pa_nil))))) (pw_or1 (pt_cmp (pc_din hu (pv 5) (pv 1)))))) (pss_one ps_never) pss_nil) (pss_one (ps_dput hu (pv 1) (pv 5) (pe_tup (pa_cons (pv 2) (pa_cons (pv 4) pa_nil))) rfl)))))) (pss_one (ps_ret (pv 1))))), ?_⟩
    intro d nd
    have s0 : Same H (upd H d (.dT [])) := same_new nd
    refine ⟨_, rfl, p, _, rfl, .inl (.inl (s0 _ _ hp)), for_it walk_enT (fun i σ H2 => ∃ (v2 v3 v4 v5 : Option V) (kvs : List (List Key × V)), σ = [some (.ref p), some (.ref d), v2, v3, v4, v5] ∧ Same H H2 ∧ H2 d = some (.dT kvs) ∧ DictP H2 kvs (plAll 0 (gss.take i))) ⟨_, _, _, _, [], rfl, s0, upd_same, rfl, fun i g h n e => by cases e⟩ (fun i σ H2 _ ⟨_, _, _, _, _, _, sm, _⟩ => .inl (.inl (sm _ _ hp))) ?_ ?_⟩
    · rintro i x σ H2 H3 hi ⟨v2, v3, v4, v5, kvs, rfl, sm, hd, dp⟩ ⟨U, x1, x2, rfl, nU, rfl, e1, e2⟩
      obtain rfl : x1 = .int (i : Int) := (Option.some.inj e1).symm
      obtain ⟨t, et, rfl⟩ := map_get e2
      obtain ⟨gs, egs⟩ := get_of hts et
      obtain ⟨qs, ht, hql, hqs⟩ := hrow i t gs et egs
      have sU : Same H2 (upd H2 U (.tup [.int (i : Int), .ref t])) := same_new nU
      refine ⟨U, _, rfl, .inl (.inl upd_same), rfl, _, _, rfl, _, _, rfl, rfl, ?_⟩
      refine ⟨_, rfl, t, _, rfl, .inl (.inl (sU _ _ (sm _ _ ht))), for_it walk_enT (fun j σ H4 => ∃ (v4 v5 : Option V) (kvs : List (List Key × V)), σ = [some (.ref p), some (.ref d), some (.int (i : Int)), some (.ref t), v4, v5] ∧ Same H H4 ∧ H4 d = some (.dT kvs) ∧ DictP H4 kvs (plTo gss i gs j)) ⟨_, _, kvs, rfl, sm.trans sU, sU _ _ hd, by rw [plTo_zero]; exact dp.same sU⟩ (fun j σ H4 _ ⟨_, _, _, _, sm4, _⟩ => .inl (.inl (sm4 _ _ ht))) ?_ ?_⟩
      · rintro j x σ H4 H5 hj ⟨v4, v5, kvs, rfl, sm4, hd4, dp4⟩ ⟨W, x1, x2, rfl, nW, rfl, e3, e4⟩
        obtain rfl : x1 = .int (j : Int) := (Option.some.inj e3).symm
        obtain ⟨qd, eq, rfl⟩ := map_get e4
        obtain ⟨g, eg⟩ := get_of hql eq
        have hg := hqs j qd g eq eg
        have sW : Same H4 (upd H4 W (.tup [.int (j : Int), .ref qd])) := same_new nW
        refine ⟨W, _, rfl, .inl (.inl upd_same), rfl, _, _, rfl, _, _, rfl, rfl, ?_⟩
        -- if not is_doing(item, MOST_LETTERS) or item in places: raise
        have hgl : g.l < 12 := by
          obtain ⟨r, er⟩ := plTo_pre (j := j + 1) egs
          refine hl12 (g, i, j) ?_
          rw [er, plTo_snoc eg]
          simp
        obtain ⟨k, ek, kp⟩ := doing_kd (sW _ _ (sm4 _ _ hg)) hgl
        refine ⟨_, rfl, .ref qd, k, 12, rfl, kp, fun H6 s6 => ?_⟩
        rw [ek]
        have hd6 := s6 _ _ (sW _ _ hd4)
        have hg6 := s6 _ _ (sW _ _ (sm4 _ _ hg))
        have dp6 := (dp4.same sW).same s6
        have fr : valV kvs g.key = none := dp6.none (ho.fresh egs eg)
        refine ⟨true, rfl, ?_⟩
        refine ⟨_, rfl, _, rfl, d, _, rfl, DGet.t (k := g.key) hd6 hg6, ?_⟩
        rw [fr]
        refine ⟨_, rfl, ?_⟩
        -- places[item] = (hand, number)
        refine ⟨_, rfl, _, rfl, (by show 2 ≤ sizeLine; decide), fun z nz => ?_⟩
        have sz : Same H6 (upd H6 z (.tup [.int (i : Int), .int (j : Int)])) := same_new nz
        have lk : kvs.length < sizeLine := by
          refine small1000 ?_
          obtain ⟨r, er⟩ := plTo_pre (j := j) egs
          have e := congrArg List.length er
          rw [List.length_append, ← dp6.len] at e
          omega
        refine ⟨_, rfl, _, rfl, d, _, rfl, DPut.t (k := g.key) (sz _ _ hd6) (sz _ _ hg6) lk, ?_⟩
        rw [putK_new _ fr]
        have nzd : z ≠ d := fun c => by
          rw [c, hd6] at nz
          cases nz
        refine ⟨_, _, _, rfl, fun b o e => ?_, upd_same, ?_⟩
        · rw [upd_ne (ne_of_none e nd)]
          exact sz _ _ (s6 _ _ (sW _ _ (sm4 _ _ e)))
        · rw [plTo_snoc eg]
          refine dp6.snoc (fun b o e ⟨xs, ex⟩ => ?_) ?_
          · have nb : b ≠ d := fun c => by
              rw [c, hd6] at e
              rw [ex] at e
              cases e
            rw [upd_ne nb]
            exact sz _ _ e
          · rw [upd_ne nzd]
            exact upd_same
      · rintro σ H4 ⟨v4, v5, kvs, rfl, sm4, hd4, dp4⟩
        rw [List.length_map, hql, plTo_end egs] at dp4
        exact ⟨_, _, _, _, kvs, rfl, sm4, hd4, dp4⟩
    · rintro σ H2 ⟨v2, v3, v4, v5, kvs, rfl, sm, hd, dp⟩
      rw [List.length_map, hts, List.take_length] at dp
      exact ⟨_, rfl, q H2 d kvs sm nd hd dp⟩
end
end Up

namespace Up
open PySem PySem.Spec PyProof.Rows L2
abbrev s_count_letters : Stmt := (topS 18)
abbrev s_check_letters : Stmt := (topS 19)
abbrev s_found_hands : Stmt := (topS 20)
theorem sc_count_letters : FnScope ["places", "word", "letter"] ["places"] (defScope s_count_letters) := ⟨rfl, rfl, rfl, by decide +kernel, rfl, by decide +kernel, by decide +kernel⟩
theorem sc_check_letters : FnScope ["places", "many", "letter", "sending", "getting"] ["places", "many"] (defScope s_check_letters) := ⟨rfl, rfl, rfl, by decide +kernel, rfl, by decide +kernel, by decide +kernel⟩
theorem sc_found_hands : FnScope ["places", "word", "many", "letter"] ["places", "word", "many"] (defScope s_found_hands) := ⟨rfl, rfl, rfl, by decide +kernel, rfl, by decide +kernel, by decide +kernel⟩
structure TxtM (mg : Str → Option Value) : Prop extends TxtC mg where
  max : mg "max" = none
theorem val_some {κ : Type} [DecidableEq κ] : ∀ {kvs : List (κ × V)} {i : Nat} {k : κ} {v : V}, (kvs.map (·.1)).Nodup → kvs[i]? = some (k, v) → valV kvs k = some v
  | [], i, k, v, _, h => by simp at h
  | p :: r, 0, k, v, nd, h => by
    have e : p = (k, v) := Option.some.inj h
    subst e
    exact valV_pos rfl
  | p :: r, i + 1, k, v, nd, h => by
    rw [List.map_cons] at nd
    have hm : k ∈ r.map (·.1) := List.mem_map_of_mem (f := (·.1)) (List.mem_of_getElem? (show r[i]? = some (k, v) from h))
    have ne : ¬ p.1 = k := fun c => (List.nodup_cons.mp nd).1 (c ▸ hm)
    rw [valV_neg ne]
    exact val_some (List.nodup_cons.mp nd).2 (show r[i]? = some (k, v) from h)
theorem DictP.get {H : Hp} {kvs : List (List Key × V)} {pl : List Pl} (d : DictP H kvs pl) (nd : (pl.map (·.1)).Nodup) {g : Dg} {h n : Nat} (hm : (g, h, n) ∈ pl) : ∃ q, valV kvs g.key = some (.ref q) ∧ H q = some (.tup [.int (h : Int), .int (n : Int)]) := by
  obtain ⟨i, lt, e⟩ := List.getElem_of_mem hm
  obtain ⟨q, h1, h2⟩ := d.vs i g h n (List.getElem?_eq_some_iff.mpr ⟨lt, e⟩)
  refine ⟨q, val_some ?_ h1, h2⟩
  rw [d.ks]
  have e2 : (pl.map fun t => t.1.key) = (pl.map (·.1)).map Dg.key := by
    rw [List.map_map]
    rfl
  rw [e2]
  exact List.Pairwise.map _ (fun a b c e => c (Dg.key_inj e)) nd
section
variable {P : Program} {w : World} {K : PySem.W.Frag} {mg : Str → Option Value} {base : Heap}
def spCount : Sp := fun vs H Q _ => ∃ (d : Addr) (kvs : List (List Key × V)) (pl : List Pl) (many : Nat), vs = [.ref d] ∧ H d = some (.dT kvs) ∧ DictP H kvs pl ∧ pl.length ≤ 1000 ∧ (∀ t ∈ pl, t.1.l < many) ∧ (0 < many → ∃ t ∈ pl, t.1.l + 1 = many) ∧
  ∀ H', Same H H' → Q (.int (many : Int)) H'
theorem ok_count {f : Addr} {fd : FuncData} (F : Fun K "count_letters" "count_letters" s_count_letters f fd) (T : TxtM mg) : FnOk P w K mg base CX0 1 f fd ["places"] spCount := by
  refine F.ok sc_count_letters (fun vs H Q E h => ?_) (fun cdv A outer s H vs Q E hr h => ?_)
  · obtain ⟨d, kvs, pl, many, rfl, _⟩ := h
    rfl
  · obtain ⟨d, kvs, pl, many, rfl, hd, dp, hsz, hlt, hex, q⟩ := h
    refine ⟨_, (pss_one (ps_ret (pe_callBK (call_maxD rfl hr.units) (by rfl) T.max bb_max (pa_cons (pe_lock (pe_lc (own := [("word", 1), ("letter", 2)]) (tt := tYes) rfl sc_count_letters.nd (pi_keys (pv 0)) (blkOk_by (own := [("word", 1), ("letter", 2)]) (N := ["places", "word", "letter"]) (sc := defScope s_count_letters) (by decide +kernel)) (fun _ _ _ _ _ => (pg_tupK (K := K) (n := 2) rfl (by rfl) (pgs_cons (pg_name (i := 1) sc_count_letters.nd rfl (Or.inl rfl)) (pgs_cons (pg_name (i := 2) sc_count_letters.nd rfl (Or.inl rfl)) pgs_nil)))) (fun _ _ _ _ _ => pts_nil) (fun _ _ _ _ _ => (pe_op op_add (pv 2) pe_int)))) pa_nil) (pk_cons pe_int pk_nil)))), ?_⟩
    refine ⟨d, .dT kvs, hd, True.intro, fun od => ?_⟩
    have k0 : ∀ b o, H b = some o → b ≠ d → (upd H d (.frz od (.dT kvs))) b = some o := fun b o e n => by
      rw [upd_ne n]
      exact e
    refine ⟨_, rfl, d, od, rfl, .inr ⟨kvs, upd_same, fun D nD => lc_it walk_keysT (fun i H2 => H2 D = some (.lst (iL ((pl.take i).map fun t => ((t.1.l : Int) + 1)))) ∧ H2 d = some (.frz od (.dT kvs)) ∧ ∀ b o, H b = some o → b ≠ d → H2 b = some o) ⟨upd_same, ?_, fun b o e n => ?_⟩ (fun i H2 _ ⟨_, h2, _⟩ => h2) ?_ ?_⟩⟩
    · rw [upd_ne (fun c => by rw [← c, upd_same] at nD; cases nD)]
      exact upd_same
    · have z := k0 b o e n
      rw [upd_ne (ne_of_none z nD)]
      exact z
    · rintro i x H2 H3 hi ⟨hD, hd2, kf⟩ ⟨rfl, k, v, qd, ek, rfl, hq⟩
      have hil : i < pl.length := by
        rw [← dp.len]
        exact hi
      obtain ⟨⟨g, h, n⟩, eg⟩ : ∃ t, pl[i]? = some t := ⟨_, List.getElem?_eq_getElem hil⟩
      obtain ⟨q1, e1, _⟩ := dp.vs i g h n eg
      cases (Option.some.inj (e1.symm.trans ek))
      refine ⟨qd, g.vs, rfl, .inl (.inl hq), rfl, _, _, rfl, _, _, rfl, rfl, rfl, ?_⟩
      refine ⟨_, rfl, _, _, rfl, rfl, _, hD, ?_, ?_, ?_, fun b o e nb => ?_⟩
      · rw [List.length_map, List.length_map, List.length_take]
        exact Nat.lt_of_le_of_lt (Nat.min_le_right _ _) (small1000 hsz)
      · rw [upd_same, iL_app, take_snoc eg, List.map_append]
        rfl
      · rw [upd_ne (fun c => by rw [← c, hd2] at hD; cases hD)]
        exact hd2
      · have z := kf b o e nb
        have z2 : b ≠ D := fun c => by
          have z3 := k0 b o e nb
          rw [c, nD] at z3
          cases z3
        rw [upd_ne z2]
        exact z
    · rintro H2 ⟨hD, hd2, kf⟩
      have eD : pl.take kvs.length = pl := List.take_of_length_le (Nat.le_of_eq dp.len.symm)
      rw [eD] at hD
      have nDd : D ≠ d := fun c => by
        rw [c, hd2] at hD
        cases hD
      have hD' : (upd H2 d (.dT kvs)) D = some (.lst (iL (pl.map fun t => ((t.1.l : Int) + 1)))) := by
        rw [upd_ne nDd]
        exact hD
      have sm : Same H (upd H2 d (.dT kvs)) := fun b o e => by
        by_cases c : b = d
        · subst c
          rw [upd_same, ← e, hd]
        · rw [upd_ne c]
          exact kf b o e c
      refine ⟨hd2, D, _, 0, rfl, rfl, .inl (.inl hD'), fun e0 => ?_, fun m hm hmax => ?_⟩
      · have e1 : pl = [] := List.map_eq_nil_iff.mp e0
        have e2 : many = 0 := by
          rcases Nat.eq_zero_or_pos many with c | c
          · exact c
          · obtain ⟨t, ht, _⟩ := hex c
            rw [e1] at ht
            cases ht
        subst e2
        exact q _ sm
      · obtain ⟨t, ht, rfl⟩ := List.mem_map.mp hm
        have h1 := hlt t ht
        obtain ⟨t2, ht2, e2⟩ := hex (by omega)
        have h2 := hmax _ (List.mem_map_of_mem (f := fun t : Pl => ((t.1.l : Int) + 1)) ht2)
        have e3 : ((t.1.l : Int) + 1) = (many : Int) := by
          have h3 : ((t2.1.l : Int) + 1) ≤ ((t.1.l : Int) + 1) := h2
          omega
        show Q (.int ((t.1.l : Int) + 1)) _
        rw [e3]
        exact q _ sm
/-- each letter below many is sent by the hand S, got by the hand G -/
structure Hands (pl : List Pl) (many : Nat) (S G : Nat → Nat) : Prop where
  snd : ∀ l, l < many → ∃ n, (⟨true, l⟩, S l, n) ∈ pl
  got : ∀ l, l < many → ∃ n, (⟨false, l⟩, G l, n) ∈ pl
  ne : ∀ l, l < many → S l ≠ G l
def spCheck : Sp := fun vs H Q _ => ∃ (d : Addr) (kvs : List (List Key × V)) (pl : List Pl) (many : Nat) (S G : Nat → Nat), vs = [.ref d, .int (many : Int)] ∧ H d = some (.dT kvs) ∧ DictP H kvs pl ∧ (pl.map (·.1)).Nodup ∧ many ≤ 12 ∧ Hands pl many S G ∧
  ∀ H', Same H H' → Q .non H'
theorem ok_check {f : Addr} {fd : FuncData} (F : Fun K "check_letters" "check_letters" s_check_letters f fd) (T : TxtM mg) : FnOk P w K mg base CX0 1 f fd ["places", "many"] spCheck := by
  refine F.ok sc_check_letters (fun vs H Q E h => ?_) (fun cdv A outer s H vs Q E hr h => ?_)
  · obtain ⟨d, kvs, pl, many, S, G, rfl, _⟩ := h
    rfl
  · obtain ⟨d, kvs, pl, many, S, G, rfl, hd, dp, nd, h12, hH, q⟩ := h
    have hu := hu_of hr
    refine ⟨_, (pss_one (ps_for PassesOwn.never rfl (pi_range1 (by rfl) T.range (pa_cons (pv 1) pa_nil)) (pg_name (i := 2) sc_check_letters.nd rfl (Or.inl rfl)) (pss_cons (ps_set (i := 3) sc_check_letters.nd rfl (Or.inl rfl) (pe_dget1 hu (pv 0) (pe_tup (pa_cons pe_str (pa_cons (pv 2) pa_nil))) ⟨by rfl, by rfl, by rfl, by rfl⟩)) (pss_cons (ps_set (i := 4) sc_check_letters.nd rfl (Or.inl rfl) (pe_dget1 hu (pv 0) (pe_tup (pa_cons pe_str (pa_cons (pv 2) pa_nil))) ⟨by rfl, by rfl, by rfl, by rfl⟩)) (pss_one (ps_if (PW.pt (pw_or (pt_cmpR op_isN (pv 3) pe_non (nomark _)) (pw_or (pt_cmpR op_isN (pv 4) pe_non (nomark _)) (pw_or1 (pt_cmpR op_eq (pe_ix ix_tup (pv 3) pe_int (fun _ _ => rfl)) (pe_ix ix_tup (pv 4) pe_int (fun _ _ => rfl)) (nomark _)))))) (pss_one ps_never) pss_nil)))))), ?_⟩
    refine ⟨_, rfl, (many : Int), rfl, by omega, by omega, for_range (lo := 0) (n := many) (fun i σ H2 => ∃ (v2 v3 v4 : Option V), σ = [some (.ref d), some (.int (many : Int)), v2, v3, v4] ∧ Same H H2) ⟨_, _, _, rfl, Same.refl H⟩ ?_ ?_⟩
    · rintro i σ H2 hi ⟨v2, v3, v4, rfl, sm⟩
      obtain ⟨n1, m1⟩ := hH.snd i hi
      obtain ⟨n2, m2⟩ := hH.got i hi
      have ei : (0 + (i : Int)) = (i : Int) := by omega
      -- sending = places.get(("send", letter))
      refine ⟨_, rfl, d, rfl, .inr ⟨kvs, .inl (sm _ _ hd)⟩, _, rfl, (by show 2 ≤ sizeLine; decide), fun a na => ?_⟩
      have sa : Same H2 (upd H2 a (.tup [.str "send", .int (0 + (i : Int))])) := same_new na
      obtain ⟨q1, k1, t1⟩ := ((dp.same sm).same sa).get nd m1
      have ha : (upd H2 a (.tup [.str "send", .int (0 + (i : Int))])) a = some (.tup ((Dg.key ⟨true, i⟩).map kV)) := by
        rw [upd_same, ei]
        rfl
      refine ⟨_, DGet.t (k := Dg.key ⟨true, i⟩) (sa _ _ (sm _ _ hd)) ha, ?_⟩
      rw [k1]
      -- getting = places.get(("get", letter))
      revert sa t1 ha
      generalize upd H2 a (.tup [.str "send", .int (0 + (i : Int))]) = H3
      intro sa t1 ha
      refine ⟨_, rfl, d, rfl, .inr ⟨kvs, .inl (sa _ _ (sm _ _ hd))⟩, _, rfl, (by show 2 ≤ sizeLine; decide), fun b nb => ?_⟩
      have sb : Same H3 (upd H3 b (.tup [.str "get", .int (0 + (i : Int))])) := same_new nb
      obtain ⟨q2, k2, t2⟩ := (((dp.same sm).same sa).same sb).get nd m2
      have hb : (upd H3 b (.tup [.str "get", .int (0 + (i : Int))])) b = some (.tup ((Dg.key ⟨false, i⟩).map kV)) := by
        rw [upd_same, ei]
        rfl
      refine ⟨_, DGet.t (k := Dg.key ⟨false, i⟩) (sb _ _ (sa _ _ (sm _ _ hd))) hb, ?_⟩
      rw [k2]
      have t1b := sb _ _ t1
      have sm4 : Same H (upd H3 b (.tup [.str "get", .int (0 + (i : Int))])) := (sm.trans sa).trans sb
      revert t2 t1b sm4
      generalize upd H3 b (.tup [.str "get", .int (0 + (i : Int))]) = H4
      intro t2 t1b sm4
      refine ⟨_, rfl, rfl, _, rfl, ?_⟩
      refine ⟨_, rfl, rfl, _, rfl, ?_⟩
      refine ⟨_, rfl, q1, _, _, _, rfl, rfl, .inl (.inl t1b), atI_nat (j := 0) rfl, ?_⟩
      refine ⟨_, rfl, q2, _, _, _, rfl, rfl, .inl (.inl t2), atI_nat (j := 0) rfl, rfl, _, rfl, ?_⟩
      have e0 : decide (V.int ((S i : Nat) : Int) = V.int ((G i : Nat) : Int)) = false := decide_eq_false fun c => hH.ne i hi (by have := V.int.inj c; omega)
      rw [e0]
      exact ⟨_, _, _, rfl, sm4⟩
    · rintro σ H2 ⟨v2, v3, v4, rfl, sm⟩
      exact q H2 sm
/-- the hands that send the letters, or that get them -/
def spHands (b : Bool) : Sp := fun vs H Q _ => ∃ (d : Addr) (kvs : List (List Key × V)) (pl : List Pl) (many : Nat) (S : Nat → Nat), vs = [.ref d, .str (Dg.word ⟨b, 0⟩), .int (many : Int)] ∧ H d = some (.dT kvs) ∧ DictP H kvs pl ∧ (pl.map (·.1)).Nodup ∧ many ≤ 12 ∧
  (∀ l, l < many → ∃ n, (⟨b, l⟩, S l, n) ∈ pl) ∧ ∀ H' p, Same H H' → H' p = some (.tup (iL ((List.range many).map fun l => ((S l : Nat) : Int)))) → Q (.ref p) H'
theorem ok_hands {f : Addr} {fd : FuncData} {b : Bool} (F : Fun K "found_hands" "found_hands" s_found_hands f fd) (T : TxtM mg) : FnOk P w K mg base CX0 1 f fd ["places", "word", "many"] (spHands b) := by
  refine F.ok sc_found_hands (fun vs H Q E h => ?_) (fun cdv A outer s H vs Q E hr h => ?_)
  · obtain ⟨d, kvs, pl, many, S, rfl, _⟩ := h
    rfl
  · obtain ⟨d, kvs, pl, many, S, rfl, hd, dp, nd, h12, hS, q⟩ := h
    have hu := hu_of hr
    refine ⟨_, (pss_one (ps_ret (pe_callTy call_tuple_of (by rfl) T.tuple bt_tuple (pa_cons (pe_lc (own := [("letter", 3)]) (tt := tYes) rfl sc_found_hands.nd (pi_range1 (by rfl) T.range (pa_cons (pv 2) pa_nil)) (blkOk_by (own := [("letter", 3)]) (N := ["places", "word", "many", "letter"]) (sc := defScope s_found_hands) (by decide +kernel)) (fun _ _ _ _ _ => (pg_name (i := 3) sc_found_hands.nd rfl (Or.inl rfl))) (fun _ _ _ _ _ => pts_nil) (fun _ _ _ _ _ => (pe_ix (ix_tupK (K := K) rfl) (pe_dget hu (pv 0) (pe_tup (pa_cons (pv 1) (pa_cons (pv 3) pa_nil))) (fun _ _ => rfl)) pe_int (fun _ _ => rfl)))) pa_nil)))), ?_⟩
    refine ⟨_, rfl, (many : Int), rfl, by omega, by omega, fun D nD => lc_range (lo := 0) (n := many) (fun i H2 => H2 D = some (.lst (iL ((List.range i).map fun l => ((S l : Nat) : Int)))) ∧ Same H H2) ⟨upd_same, same_new nD⟩ ?_ ?_⟩
    · rintro i H2 hi ⟨hD, sm⟩
      have ei : (0 + (i : Int)) = (i : Int) := by omega
      obtain ⟨n, m⟩ := hS i hi
      refine ⟨rfl, ?_⟩
      refine ⟨_, rfl, _, rfl, _, rfl, (by show 2 ≤ sizeLine; decide), fun a na => ?_⟩
      have sa : Same H2 (upd H2 a (.tup [.str (Dg.word ⟨b, 0⟩), .int (0 + (i : Int))])) := same_new na
      obtain ⟨q1, k1, t1⟩ := ((dp.same sm).same sa).get nd m
      have ha : (upd H2 a (.tup [.str (Dg.word ⟨b, 0⟩), .int (0 + (i : Int))])) a = some (.tup ((Dg.key ⟨b, i⟩).map kV)) := by
        rw [upd_same, ei]
        rfl
      have g1 := DGet.t (k := Dg.key ⟨b, i⟩) (sa _ _ (sm _ _ hd)) ha
      rw [k1] at g1
      refine ⟨d, .ref q1, rfl, g1, q1, _, _, _, rfl, rfl, .inl (.inl t1), atI_nat (j := 0) rfl, ?_⟩
      have nDa : D ≠ a := ne_of_none hD na
      refine ⟨_, sa _ _ hD, ?_, ?_, fun z o e => ?_⟩
      · rw [List.length_map, List.length_map, List.length_range]
        exact small1000 (by omega)
      · rw [upd_same, iL_app, List.range_succ, List.map_append]
        rfl
      · rw [upd_ne (ne_of_none e nD)]
        exact sa _ _ (sm _ _ e)
    · rintro H2 ⟨hD, sm⟩
      refine ⟨D, _, rfl, .inl ⟨.inl (.inl hD), fun p np => ?_⟩⟩
      exact q _ p (sm.trans (same_new np)) upd_same
end
end Up

namespace Up
open PySem PySem.Spec PyProof.Rows L2
abbrev s_row_clocks : Stmt := (topS 22)
theorem sc_row_clocks : FnScope ["hand", "row", "hands", "clocks", "found", "counts", "number", "word", "letter", "sent", "one", "other"] ["hand", "row", "hands", "clocks"] (defScope s_row_clocks) := ⟨rfl, rfl, rfl, by decide +kernel, rfl, by decide +kernel, by decide +kernel⟩
structure TxtZ (mg : Str → Option Value) : Prop extends TxtM mg where
  zip : mg "zip" = none
/-- what is a tuple stays -/
def Tups (H H' : Hp) : Prop := ∀ b xs, H b = some (.tup xs) → H' b = some (.tup xs)
theorem Same.tups {H H' : Hp} (s : Same H H') : Tups H H' := fun b xs e => s _ _ e
theorem Tups.trans {H H1 H2 : Hp} (a : Tups H H1) (b : Tups H1 H2) : Tups H H2 := fun c xs e => b c xs (a c xs e)
theorem Tups.upd {H : Hp} {a : Addr} {o o' : HO} (h : H a = some o) (n : ∀ xs, o ≠ .tup xs) : Tups H (upd H a o') := fun b xs e => by
  rw [upd_ne]
  · exact e
  · intro c
    rw [c, h] at e
    exact n xs (Option.some.inj e)
def mx (i j : Int) : Int := if j > i then j else i
/-- the counts ahead of the n-th doing of a row -/
def prevC (hands : Nat) (Ck : Dg → List Int) (gs : List Dg) : Nat → List Int
  | 0 => List.replicate hands 0
  | n + 1 => match gs[n]? with
    | some g => Ck g
    | none => []
/-- the clocks of a row's doings, each by the one ahead of it, and by its sending -/
def RowCk (hands : Nat) (Ck : Dg → List Int) (h : Nat) (gs : List Dg) : Prop :=
  ∀ n g, gs[n]? = some g → Ck g = (if g.s then prevC hands Ck gs n else List.zipWith mx (prevC hands Ck gs n) (Ck ⟨true, g.l⟩)).set h ((n : Int) + 1)
/-- a dict of clocks -/
structure DictC (Ck : Dg → List Int) (H : Hp) (kvs : List (List Key × V)) (dn : List Dg) : Prop where
  ks : kvs.map (·.1) = dn.map Dg.key
  vs : ∀ (i : Nat) (g : Dg), dn[i]? = some g → ∃ q, kvs[i]? = some (g.key, .ref q) ∧ H q = some (.tup (iL (Ck g)))
theorem DictC.tups {Ck : Dg → List Int} {H H' : Hp} {kvs : List (List Key × V)} {dn : List Dg} (s : Tups H H') (d : DictC Ck H kvs dn) : DictC Ck H' kvs dn :=
  ⟨d.ks, fun i g e => let ⟨q, h1, h2⟩ := d.vs i g e; ⟨q, h1, s _ _ h2⟩⟩
theorem DictC.len {Ck : Dg → List Int} {H : Hp} {kvs : List (List Key × V)} {dn : List Dg} (d : DictC Ck H kvs dn) : kvs.length = dn.length := by
  have e := congrArg List.length d.ks
  simpa using e
theorem DictC.none {Ck : Dg → List Int} {H : Hp} {kvs : List (List Key × V)} {dn : List Dg} (d : DictC Ck H kvs dn) {g : Dg} (h : g ∉ dn) : valV kvs g.key = Option.none := by
  refine val_none fun c => ?_
  rw [d.ks] at c
  obtain ⟨t, ht, e⟩ := List.mem_map.mp c
  exact h (Dg.key_inj e ▸ ht)
theorem DictC.get {Ck : Dg → List Int} {H : Hp} {kvs : List (List Key × V)} {dn : List Dg} (d : DictC Ck H kvs dn) (nd : dn.Nodup) {g : Dg} (hm : g ∈ dn) : ∃ q, valV kvs g.key = some (.ref q) ∧ H q = some (.tup (iL (Ck g))) := by
  obtain ⟨i, lt, e⟩ := List.getElem_of_mem hm
  obtain ⟨q, h1, h2⟩ := d.vs i g (List.getElem?_eq_some_iff.mpr ⟨lt, e⟩)
  refine ⟨q, val_some ?_ h1, h2⟩
  rw [d.ks]
  exact List.Pairwise.map _ (fun a b c e => c (Dg.key_inj e)) nd
theorem DictC.snoc {Ck : Dg → List Int} {H H' : Hp} {kvs : List (List Key × V)} {dn : List Dg} (d : DictC Ck H kvs dn) (s : Tups H H') {g : Dg} {q : Addr} (hq : H' q = some (.tup (iL (Ck g)))) : DictC Ck H' (kvs ++ [(g.key, .ref q)]) (dn ++ [g]) := by
  refine ⟨by rw [List.map_append, List.map_append, d.ks]; rfl, fun i g' e => ?_⟩
  rcases snoc_get e with e | ⟨e1, rfl⟩
  · obtain ⟨q', k1, k2⟩ := d.vs i g' e
    have lt := (List.getElem?_eq_some_iff.mp k1).1
    exact ⟨q', by rw [List.getElem?_append_left lt]; exact k1, s _ _ k2⟩
  · refine ⟨q, ?_, hq⟩
    rw [e1, ← d.len, List.getElem?_append_right (Nat.le_refl _), Nat.sub_self]
    rfl
def readyG (dn : List Dg) (g : Dg) : Bool := g.s || decide ((⟨true, g.l⟩ : Dg) ∈ dn)
/-- a row as far as its gettings find their sendings -/
def reach (dn : List Dg) (gs : List Dg) : List Dg := gs.takeWhile (readyG dn)
theorem reach_all {dn : List Dg} : ∀ {gs : List Dg} {j : Nat}, (∀ i g, i < j → gs[i]? = some g → readyG dn g = true) → j ≤ gs.length → (∀ g, gs[j]? = some g → readyG dn g = false) → reach dn gs = gs.take j
  | [], j, _, _, _ => by simp [reach]
  | g :: r, 0, _, _, h => by
    have e := h g rfl
    simp [reach, List.takeWhile_cons, e]
  | g :: r, j + 1, h, hl, hn => by
    have e := h 0 g (by omega) rfl
    have ih := reach_all (dn := dn) (gs := r) (j := j) (fun i g' hi eg => h (i + 1) g' (by omega) eg) (by simpa using hl) (fun g' eg => hn g' eg)
    unfold reach at ih ⊢
    rw [List.takeWhile_cons, e, ih]
    rfl
theorem rep_ints : ∀ n : Nat, (List.replicate n [V.int 0]).flatten = iL (List.replicate n 0)
  | 0 => rfl
  | n + 1 => by
    rw [List.replicate_succ, List.flatten_cons, rep_ints n, List.replicate_succ]
    rfl
section
variable {P : Program} {w : World} {K : PySem.W.Frag} {mg : Str → Option Value} {base : Heap}
/-- a row of doings at t -/
def RowD (H : Hp) (t : Addr) (gs : List Dg) : Prop := ∃ qs : List Addr, H t = some (.tup (qs.map V.ref)) ∧ qs.length = gs.length ∧ ∀ (j : Nat) (q : Addr) (g : Dg), qs[j]? = some q → gs[j]? = some g → H q = some (.tup g.vs)
def spRowC (Ck : Dg → List Int) : Sp := fun vs H Q _ => ∃ (h : Nat) (t : Addr) (gs : List Dg) (hands : Nat) (c : Addr) (ckv : List (List Key × V)) (dn : List Dg), vs = [.int (h : Int), .ref t, .int (hands : Int), .ref c] ∧ RowD H t gs ∧ H c = some (.dT ckv) ∧ DictC Ck H ckv dn ∧ dn.Nodup ∧ h < hands ∧ hands ≤ 6 ∧
  gs.Nodup ∧ gs.length ≤ 100 ∧ RowCk hands Ck h gs ∧ (∀ g, (Ck g).length = hands) ∧ ∀ H' d kvs, Same H H' → H d = none → H' d = some (.dT kvs) → DictC Ck H' kvs (reach dn gs) → Q (.ref d) H'
theorem ok_rowc {f : Addr} {fd : FuncData} {Ck : Dg → List Int} (F : Fun K "row_clocks" "row_clocks" s_row_clocks f fd) (T : TxtZ mg) : FnOk P w K mg base CX0 1 f fd ["hand", "row", "hands", "clocks"] (spRowC Ck) := by
  refine F.ok sc_row_clocks (fun vs H Q E h => ?_) (fun cdv A outer s H vs Q E hr h => ?_)
  · obtain ⟨h, t, gs, hands, c, ckv, dn, rfl, _⟩ := h
    rfl
  · obtain ⟨h, t, gs, hands, c, ckv, dn, rfl, ⟨qs, ht, hql, hqs⟩, hc, dc, nd, hh, h6, gnd, g100, rck, ckl, q⟩ := h
    have hu := hu_of hr
    refine ⟨_, (pss_cons (ps_set (i := 4) sc_row_clocks.nd rfl (Or.inl rfl) pe_dnewT) (pss_cons (ps_set (i := 5) sc_row_clocks.nd rfl (Or.inl rfl) (pe_op op_rep (pe_lst (pa_cons pe_int pa_nil)) (pv 2))) (pss_cons (ps_for PassesOwn.never rfl (pi_enT (by rfl) T.enumerate (pa_cons (pv 1) pa_nil)) (pg_tup (by rfl) (pgs_cons (pg_name (i := 6) sc_row_clocks.nd rfl (Or.inl rfl)) (pgs_cons (pg_tup (by rfl) (pgs_cons (pg_name (i := 7) sc_row_clocks.nd rfl (Or.inl rfl)) (pgs_cons (pg_name (i := 8) sc_row_clocks.nd rfl (Or.inl rfl)) pgs_nil))) pgs_nil))) (C8.pss_cut (ps_if (pt_cmpR op_eq (pv 7) pe_str (nomark _)) (pss_cons (ps_set (i := 9) sc_row_clocks.nd rfl (Or.inl rfl) (pe_dget1 hu (pv 3) (pe_tup (pa_cons pe_str (pa_cons (pv 8) pa_nil))) ⟨by rfl, by rfl, by rfl, by rfl⟩)) (pss_cons (ps_if (pt_cmpR op_isN (pv 9) pe_non (nomark _)) (pss_one (ps_ret (pv 4))) pss_nil) (pss_one (ps_setLc (i := 5) (own := [("one", 10), ("other", 11)]) (tt := tYes) rfl sc_row_clocks.nd rfl rfl (sw_true rfl rfl rfl (by decide +kernel)) (pi_zpM (by rfl) T.zip (pa_cons (pv 5) (pa_cons (pv 9) pa_nil))) (blkOk_by (own := [("one", 10), ("other", 11)]) (N := ["hand", "row", "hands", "clocks", "found", "counts", "number", "word", "letter", "sent", "one", "other"]) (sc := defScope s_row_clocks) (by decide +kernel)) (fun _ _ _ _ _ => (pg_tupK (K := K) (n := 2) rfl (by rfl) (pgs_cons (pg_name (i := 10) sc_row_clocks.nd rfl (Or.inl rfl)) (pgs_cons (pg_name (i := 11) sc_row_clocks.nd rfl (Or.inl rfl)) pgs_nil)))) (fun _ _ _ _ _ => pts_nil) (fun _ _ _ _ _ => (pe_callB (call_max2 rfl) (by rfl) T.max bb_max (pa_cons (pv 10) (pa_cons (pv 11) pa_nil)))))))) pss_nil) (pss_cons (ps_asg (pe_op op_add (pv 6) pe_int) (pg_sub (pv 5) (pv 0) set_list)) (pss_one (ps_dput hu (pv 4) (pe_tup (pa_cons (pv 7) (pa_cons (pv 8) pa_nil))) (pe_callTy call_tuple_of (by rfl) T.tuple bt_tuple (pa_cons (pv 5) pa_nil)) rfl))))) (pss_one (ps_ret (pv 4)))))), ?_⟩
    intro d nD
    have s0 : Same H (upd H d (.dT [])) := same_new nD
    -- counts = [0] * hands
    refine ⟨(by show 1 ≤ sizeLine; decide), fun l0 nl0 => ?_⟩
    have sl0 : Same (upd H d (.dT [])) (upd (upd H d (.dT [])) l0 (.lst [.int 0])) := same_new nl0
    refine ⟨_, rfl, l0, (hands : Int), _, rfl, rfl, upd_same, by omega, by omega, ?_, fun ca nca => ?_⟩
    · have e : (hands : Int).toNat = hands := by omega
      rw [e]
      show 1 * hands ≤ sizeLine
      rw [Nat.one_mul]
      exact Nat.le_of_lt (small1000 (by omega))
    · rw [show ((hands : Int)).toNat = hands by omega, rep_ints]
      have sca := same_new (o := .lst (iL (List.replicate hands 0))) nca
      have s1 : Same H (upd (upd (upd H d (.dT [])) l0 (.lst [.int 0])) ca (.lst (iL (List.replicate hands 0)))) := (s0.trans sl0).trans sca
      have d1 : (upd (upd (upd H d (.dT [])) l0 (.lst [.int 0])) ca (.lst (iL (List.replicate hands 0)))) d = some (.dT []) := sca _ _ (sl0 _ _ upd_same)
      have c1 : (upd (upd (upd H d (.dT [])) l0 (.lst [.int 0])) ca (.lst (iL (List.replicate hands 0)))) ca = some (.lst (iL (List.replicate hands 0))) := upd_same
      have nHca : H ca = none := (s0.trans sl0).free nca
      revert s1 d1 c1
      generalize upd (upd (upd H d (.dT [])) l0 (.lst [.int 0])) ca (.lst (iL (List.replicate hands 0))) = H1
      intro s1 d1 c1
      have prl : ∀ j, j ≤ gs.length → (prevC hands Ck gs j).length = hands := by
        intro j hj
        cases j with
        | zero => exact List.length_replicate ..
        | succ j =>
          show (match gs[j]? with | some g => Ck g | none => []).length = hands
          rw [List.getElem?_eq_getElem (by omega)]
          exact ckl _
      refine ⟨_, rfl, t, _, rfl, .inl (.inl (s1 _ _ ht)), for_it walk_enT (fun j σ H3 => ∃ (v6 v7 v8 v9 v10 v11 : Option V) (ca : Addr) (kvs : List (List Key × V)), σ = [some (.int (h : Int)), some (.ref t), some (.int (hands : Int)), some (.ref c), some (.ref d), some (.ref ca), v6, v7, v8, v9, v10, v11] ∧ Same H H3 ∧ H ca = none ∧ H3 d = some (.dT kvs) ∧ DictC Ck H3 kvs (gs.take j) ∧
          H3 ca = some (.lst (iL (prevC hands Ck gs j))) ∧ ∀ i g, i < j → gs[i]? = some g → readyG dn g = true) ⟨_, _, _, _, _, _, ca, [], rfl, s1, nHca, d1, ⟨rfl, fun i g e => by cases e⟩, c1, fun i g e => by omega⟩ (fun j σ H3 _ ⟨_, _, _, _, _, _, _, _, _, sm, _⟩ => .inl (.inl (sm _ _ ht))) ?_ ?_⟩
      · rintro j x σ H3 H4 hj ⟨v6, v7, v8, v9, v10, v11, ca, kvs, rfl, sm, nca, hd, dc3, hca, rdy⟩ ⟨U, x1, x2, rfl, nU, rfl, e1, e2⟩
        obtain rfl : x1 = .int (j : Int) := (Option.some.inj e1).symm
        obtain ⟨qd, eq, rfl⟩ := map_get e2
        obtain ⟨g, eg⟩ := get_of hql eq
        have hjl : j < gs.length := (List.getElem?_eq_some_iff.mp eg).1
        have hg := hqs j qd g eq eg
        have sU : Same H3 (upd H3 U (.tup [.int (j : Int), .ref qd])) := same_new nU
        have sm4 := sm.trans sU
        have hd4 := sU _ _ hd
        have hca4 := sU _ _ hca
        have dc4 := dc3.tups (Same.tups sU)
        have hU4 : (upd H3 U (.tup [.int (j : Int), .ref qd])) U = some (.tup [.int (j : Int), .ref qd]) := upd_same
        revert sm4 hd4 hca4 dc4 hU4
        generalize upd H3 U (.tup [.int (j : Int), .ref qd]) = H4
        intro sm4 hd4 hca4 dc4 hU4
        refine ⟨U, _, rfl, .inl (.inl hU4), rfl, _, _, rfl, _, _, rfl, qd, g.vs, rfl, .inl (.inl (sm4 _ _ hg)), rfl, _, _, rfl, _, _, rfl, rfl, rfl, ?_⟩
        -- behind the if: the counts ahead, the sending's taken in
        refine ⟨fun σ' H5 => readyG dn g = true ∧ ∃ (v9 v10 v11 : Option V) (ca : Addr), σ' = [some (.int (h : Int)), some (.ref t), some (.int (hands : Int)), some (.ref c), some (.ref d), some (.ref ca), some (.int (j : Int)), some (.str g.word), some (.int (g.l : Int)), v9, v10, v11] ∧ Same H H5 ∧ H ca = none ∧ H5 d = some (.dT kvs) ∧ DictC Ck H5 kvs (gs.take j) ∧
          H5 ca = some (.lst (iL (if g.s then prevC hands Ck gs j else List.zipWith mx (prevC hands Ck gs j) (Ck ⟨true, g.l⟩)))), ?_, ?_⟩
        · refine ⟨_, rfl, rfl, _, rfl, ?_⟩
          obtain ⟨b, l⟩ := g
          cases b with
          | true =>
            have e0 : decide (V.str (Dg.word ⟨true, l⟩) = V.str "get") = false := decide_eq_false fun z => word_ne (V.str.inj z)
            refine Eq.mpr (if_neg (by rw [e0]; exact Bool.false_ne_true)) ?_
            exact ⟨rfl, _, _, _, ca, rfl, sm4, nca, hd4, dc4, hca4⟩
          | false =>
            have e0 : decide (V.str (Dg.word ⟨false, l⟩) = V.str "get") = true := decide_eq_true rfl
            refine Eq.mpr (if_pos e0) ?_
            -- sent = clocks.get(("send", letter))
            refine ⟨_, rfl, c, rfl, .inr ⟨ckv, .inl (sm4 _ _ hc)⟩, _, rfl, (by show 2 ≤ sizeLine; decide), fun a na => ?_⟩
            have sa : Same H4 (upd H4 a (.tup [.str "send", .int (l : Int)])) := same_new na
            have ha : (upd H4 a (.tup [.str "send", .int (l : Int)])) a = some (.tup ((Dg.key ⟨true, l⟩).map kV)) := upd_same
            have g1 := DGet.t (k := Dg.key ⟨true, l⟩) (sa _ _ (sm4 _ _ hc)) ha
            have sm5 := sm4.trans sa
            have hd5 := sa _ _ hd4
            have hca5 := sa _ _ hca4
            have dc5 := dc4.tups (Same.tups sa)
            revert g1 sm5 hd5 hca5 dc5
            generalize upd H4 a (.tup [.str "send", .int (l : Int)]) = H5
            intro g1 sm5 hd5 hca5 dc5
            refine ⟨_, g1, ?_⟩
            by_cases hm : (⟨true, l⟩ : Dg) ∈ dn
            · obtain ⟨q1, k1, t1⟩ := (dc.tups (Same.tups sm5)).get nd hm
              rw [k1]
              refine ⟨_, rfl, rfl, _, rfl, ?_⟩
              -- counts = [max(one, other) for one, other in zip(counts, sent)]
              have lp := prl j (by omega)
              have lc := ckl ⟨true, l⟩
              refine ⟨_, rfl, _, rfl, ca, q1, _, _, rfl, .inl (.inl hca5), .inl (.inl t1), fun D nDD => lc_it (walk_zM rfl) (fun i H6 => H6 D = some (.lst (iL ((List.zipWith mx (prevC hands Ck gs j) (Ck ⟨true, l⟩)).take i))) ∧ Same H5 H6) ⟨upd_same, same_new nDD⟩ (fun i H6 _ ⟨_, s6⟩ => ⟨.inl (.inl (s6 _ _ hca5)), .inl (.inl (s6 _ _ t1))⟩) ?_ ?_⟩
              · rintro i x H6 H7 hi ⟨hD, s6⟩ ⟨W, x1, x2, rfl, nW, rfl, f1, f2⟩
                rw [List.length_map, List.length_map, lp, lc, Nat.min_self] at hi
                have i1 : i < (prevC hands Ck gs j).length := by omega
                have i2 : i < (Ck ⟨true, l⟩).length := by omega
                obtain rfl : x1 = .int (prevC hands Ck gs j)[i] := Option.some.inj (f1.symm.trans (iL_get i1))
                obtain rfl : x2 = .int (Ck ⟨true, l⟩)[i] := Option.some.inj (f2.symm.trans (iL_get i2))
                have sW : Same H6 (upd H6 W (.tup [.int (prevC hands Ck gs j)[i], .int (Ck ⟨true, l⟩)[i]])) := same_new nW
                refine ⟨W, _, rfl, .inl (.inl upd_same), rfl, _, _, rfl, _, _, rfl, rfl, rfl, ?_⟩
                refine ⟨_, rfl, _, rfl, _, _, rfl, _, sW _ _ hD, ?_, ?_, fun b o e => ?_⟩
                · rw [List.length_map, List.length_take]
                  exact Nat.lt_of_le_of_lt (Nat.min_le_left _ _) (small1000 (by omega))
                · have ez : (List.zipWith mx (prevC hands Ck gs j) (Ck ⟨true, l⟩))[i]? = some (mx (prevC hands Ck gs j)[i] (Ck ⟨true, l⟩)[i]) := by
                    rw [List.getElem?_zipWith, List.getElem?_eq_getElem i1, List.getElem?_eq_getElem i2]
                  rw [upd_same, take_snoc ez]
                  exact congrArg (fun z => some (HO.lst z)) (iL_app _ _)
                · rw [upd_ne (ne_of_none e nDD)]
                  exact sW _ _ (s6 _ _ e)
              · rintro H6 ⟨hD, s6⟩
                rw [List.length_map, List.length_map, lp, lc, Nat.min_self, List.take_of_length_le (by rw [List.length_zipWith, lp, lc, Nat.min_self]; exact Nat.le_refl _)] at hD
                refine ⟨?_, _, _, _, D, rfl, sm5.trans s6, sm5.free nDD, s6 _ _ hd5, dc5.tups (Same.tups s6), hD⟩
                exact decide_eq_true hm
            · rw [(dc.tups (Same.tups sm5)).none hm]
              refine ⟨_, rfl, rfl, _, rfl, ?_⟩
              refine ⟨_, rfl, q H5 d kvs sm5 nD hd5 ?_⟩
              rw [reach_all (j := j) rdy (by omega) (fun g' e => by
                rw [eg] at e
                cases e
                exact decide_eq_false hm)]
              exact dc5
        · rintro σ' H5 ⟨rg, v9, v10, v11, ca, rfl, sm5, nca, hd5, dc5, hca5⟩
          have lp := prl j (by omega)
          have lc := ckl ⟨true, g.l⟩
          have eck := rck j g eg
          revert hca5 eck
          generalize ez : (if g.s then prevC hands Ck gs j else List.zipWith mx (prevC hands Ck gs j) (Ck ⟨true, g.l⟩)) = L
          intro hca5 eck
          have lL : L.length = hands := by
            rw [← ez]
            split
            · exact lp
            · rw [List.length_zipWith, lp, lc, Nat.min_self]
          have ncd : ca ≠ d := ne_of hca5 hd5 (by intro z; cases z)
          -- counts[hand] = number + 1
          refine ⟨_, rfl, _, _, rfl, rfl, _, rfl, _, rfl, ca, _, _, h, rfl, rfl, hca5, ix_at rfl (by rw [List.length_map]; omega), ?_⟩
          have hca6 : (upd H5 ca (.lst ((iL L).set h (.int ((j : Int) + 1))))) ca = some (.lst (iL (Ck g))) := by
            rw [iL_put, eck]
          have tp6 : Tups H5 (upd H5 ca (.lst ((iL L).set h (.int ((j : Int) + 1))))) := Tups.upd hca5 fun xs z => by cases z
          have k6 : ∀ b o, H b = some o → (upd H5 ca (.lst ((iL L).set h (.int ((j : Int) + 1))))) b = some o := fun b o e => by
            rw [upd_ne (ne_of_none e nca)]
            exact sm5 _ _ e
          have hd6 : (upd H5 ca (.lst ((iL L).set h (.int ((j : Int) + 1))))) d = some (.dT kvs) := by
            rw [upd_ne ncd.symm]
            exact hd5
          revert hca6 tp6 k6 hd6
          generalize upd H5 ca (.lst ((iL L).set h (.int ((j : Int) + 1)))) = H6
          intro hca6 tp6 k6 hd6
          have dc6 := dc5.tups tp6
          -- found[(word, letter)] = tuple(counts)
          refine ⟨_, rfl, ca, _, rfl, .inl ⟨.inl (.inl hca6), fun p np => ?_⟩⟩
          have sp : Same H6 (upd H6 p (.tup (iL (Ck g)))) := same_new np
          refine ⟨_, rfl, _, rfl, _, rfl, (by show 2 ≤ sizeLine; decide), fun z nz => ?_⟩
          have sz : Same (upd H6 p (.tup (iL (Ck g)))) (upd (upd H6 p (.tup (iL (Ck g)))) z (.tup [.str g.word, .int (g.l : Int)])) := same_new nz
          have hp7 : (upd (upd H6 p (.tup (iL (Ck g)))) z (.tup [.str g.word, .int (g.l : Int)])) p = some (.tup (iL (Ck g))) := sz _ _ upd_same
          have hz7 : (upd (upd H6 p (.tup (iL (Ck g)))) z (.tup [.str g.word, .int (g.l : Int)])) z = some (.tup (g.key.map kV)) := upd_same
          have s7 := Same.trans sp sz
          have hd7 := s7 _ _ hd6
          have hca7 := s7 _ _ hca6
          have dc7 := dc6.tups (Same.tups s7)
          have k7 : ∀ b o, H b = some o → (upd (upd H6 p (.tup (iL (Ck g)))) z (.tup [.str g.word, .int (g.l : Int)])) b = some o := fun b o e => s7 _ _ (k6 b o e)
          revert hp7 hz7 hd7 hca7 dc7 k7
          clear sp nz sz s7
          generalize upd (upd H6 p (.tup (iL (Ck g)))) z (.tup [.str g.word, .int (g.l : Int)]) = H7
          intro hp7 hz7 hd7 hca7 dc7 k7
          have gnew : g ∉ gs.take j := fun hm => by
            obtain ⟨i, hi, ei⟩ := List.getElem_of_mem hm
            rw [List.length_take] at hi
            have e1 : gs[i]? = some g := by
              rw [List.getElem_take] at ei
              exact List.getElem?_eq_some_iff.mpr ⟨by omega, ei⟩
            have e2 := nd_ix gnd e1 eg
            omega
          have fr := dc7.none gnew
          have lk : kvs.length < sizeLine := by
            rw [dc7.len, List.length_take]
            exact Nat.lt_of_le_of_lt (Nat.min_le_left _ _) (small1000 (by omega))
          refine ⟨d, _, rfl, DPut.t (k := g.key) hd7 hz7 lk, ?_⟩
          rw [putK_new _ fr]
          have ncd7 : ca ≠ d := ne_of hca7 hd7 (by intro z; cases z)
          refine ⟨_, _, _, _, _, _, ca, _, rfl, fun b o e => ?_, nca, upd_same, ?_, ?_, fun i g' hi e => ?_⟩
          · rw [upd_ne (ne_of_none e nD)]
            exact k7 b o e
          · rw [take_snoc eg]
            exact dc7.snoc (Tups.upd hd7 fun xs z => by cases z) (by rw [upd_ne (ne_of hp7 hd7 (by intro z; cases z))]; exact hp7)
          · rw [upd_ne ncd7]
            show H7 ca = some (.lst (iL (match gs[j]? with | some g => Ck g | none => [])))
            rw [eg]
            exact hca7
          · by_cases c : i < j
            · exact rdy i g' c e
            · have e3 : i = j := by omega
              rw [e3, eg] at e
              cases e
              exact rg
      · rintro σ H3 ⟨v6, v7, v8, v9, v10, v11, ca, kvs, rfl, sm, nca, hd, dc3, hca, rdy⟩
        rw [List.length_map, hql] at dc3 rdy
        refine ⟨_, rfl, q H3 d kvs sm nD hd ?_⟩
        rw [reach_all (j := gs.length) (fun i g hi eg => rdy i g hi eg) (Nat.le_refl _) (fun g eg => by rw [List.getElem?_eq_none (Nat.le_refl _)] at eg; cases eg)]
        exact dc3
end
end Up

namespace Up
open PySem PySem.Spec PyProof.Rows L2
abbrev s_tinit : Stmt := (inClass (topS 15) 0)
abbrev s_teq : Stmt := (inClass (topS 15) 2)
abbrev s_tlen : Stmt := (inClass (topS 15) 1)
theorem sc_tinit : FnScope ["self", "rows"] ["self", "rows"] (defScope s_tinit) := ⟨rfl, rfl, rfl, by decide +kernel, rfl, by decide +kernel, by decide +kernel⟩
theorem sc_teq : FnScope ["self", "other"] ["self", "other"] (defScope s_teq) := ⟨rfl, rfl, rfl, by decide +kernel, rfl, by decide +kernel, by decide +kernel⟩
theorem sc_tlen : FnScope ["self"] ["self"] (defScope s_tlen) := ⟨rfl, rfl, rfl, by decide +kernel, rfl, by decide +kernel, by decide +kernel⟩
/-- rows that make a talk: many letters, each sent by S, got by G; Ck the clocks -/
structure Valid (gss : List (List Dg)) (many : Nat) (S G : Nat → Nat) (Ck : Dg → List Int) : Prop where
  h1 : 1 ≤ gss.length
  h6 : gss.length ≤ 6
  lt : ∀ t ∈ plAll 0 gss, t.1.l < many
  m12 : many ≤ 12
  len : (plAll 0 gss).length ≤ 24
  once : Once gss
  hd : Hands (plAll 0 gss) many S G
  ck : ∀ (h : Nat) (gs : List Dg), gss[h]? = some gs → RowCk gss.length Ck h gs
  ckl : ∀ g, (Ck g).length = gss.length
  rk : ∃ rk : Dg → Nat, (∀ (h : Nat) (gs : List Dg), gss[h]? = some gs → ∀ (n : Nat) (g g' : Dg), gs[n]? = some g → gs[n + 1]? = some g' → rk g < rk g') ∧ ∀ l, l < many → rk ⟨true, l⟩ < rk ⟨false, l⟩
/-- rows of doings, as lists or tuples of tuples -/
structure RowsG (H : Hp) (a : Addr) (gss : List (List Dg)) : Prop where
  ex : ∃ rs : List Addr, LT H a (rs.map V.ref) ∧ rs.length = gss.length ∧ ∀ (i : Nat) (t : Addr) (gs : List Dg), rs[i]? = some t → gss[i]? = some gs →
    ∃ qs : List Addr, LT H t (qs.map V.ref) ∧ qs.length = gs.length ∧ ∀ (j : Nat) (q : Addr) (g : Dg), qs[j]? = some q → gs[j]? = some g → H q = some (.tup g.vs)
theorem RowsG.same {H H' : Hp} {p : Addr} {gss : List (List Dg)} (s : Same H H') (h : RowsG H p gss) : RowsG H' p gss := by
  obtain ⟨ts, h1, h2, h3⟩ := h.ex
  refine ⟨ts, h1.same s, h2, fun i t gs e1 e2 => ?_⟩
  obtain ⟨qs, k1, k2, k3⟩ := h3 i t gs e1 e2
  exact ⟨qs, k1.same s, k2, fun j q g e3 e4 => s _ _ (k3 j q g e3 e4)⟩
/-- the rows' items, as they are copied -/
theorem RowsG.items {H : Hp} {a : Addr} {gss : List (List Dg)} (h : RowsG H a gss) : ∃ xss : List (List V), xss.length = gss.length ∧ RowsIn H a xss ∧ ∀ H' p, Same H H' → RowsT H' p xss → RowsD H' p gss := by
  obtain ⟨rs, h1, h2, h3⟩ := h.ex
  have key : ∀ i : Nat, ∃ xs : List V, ∀ (t : Addr) (gs : List Dg), rs[i]? = some t → gss[i]? = some gs →
      LT H t xs ∧ ∃ qs : List Addr, xs = qs.map V.ref ∧ qs.length = gs.length ∧ ∀ (j : Nat) (q : Addr) (g : Dg), qs[j]? = some q → gs[j]? = some g → H q = some (.tup g.vs) := by
    intro i
    cases et : rs[i]? with
    | none => exact ⟨[], fun t gs e => by cases e⟩
    | some t =>
      obtain ⟨gs, eg⟩ := get_of h2 et
      obtain ⟨qs, k1, k2, k3⟩ := h3 i t gs et eg
      refine ⟨qs.map V.ref, fun t' gs' e1 e2 => ?_⟩
      cases e1
      rw [eg] at e2
      cases e2
      exact ⟨k1, qs, rfl, k2, k3⟩
  refine ⟨(List.range gss.length).map fun i => (key i).choose, by rw [List.length_map, List.length_range], ⟨rs, h1, by rw [List.length_map, List.length_range]; exact h2, fun i r xs e1 e2 => ?_⟩, fun H' p s hT => ?_⟩
  · have hi := (List.getElem?_eq_some_iff.mp e1).1
    rw [List.getElem?_map, List.getElem?_range (by omega)] at e2
    obtain rfl : (key i).choose = xs := Option.some.inj e2
    obtain ⟨gs, eg⟩ := get_of h2 e1
    exact ((key i).choose_spec r gs e1 eg).1
  · obtain ⟨ts, t1, t2, t3⟩ := hT.ex
    rw [List.length_map, List.length_range] at t2
    refine ⟨ts, t1, t2, fun i t gs e1 e2 => ?_⟩
    have hi := (List.getElem?_eq_some_iff.mp e2).1
    have hr : rs[i]? = some rs[i] := List.getElem?_eq_getElem (by omega)
    obtain ⟨_, qs, eq, ql, qk⟩ := (key i).choose_spec _ gs hr e2
    have ht := t3 i t _ e1 (by rw [List.getElem?_map, List.getElem?_range hi]; rfl)
    refine ⟨qs, ?_, ql, fun j q g e3 e4 => s _ _ (qk j q g e3 e4)⟩
    rw [ht]
    exact congrArg (fun z => some (HO.tup z)) eq
/-- a talk's fields -/
def tf (r p : Addr) (many : Nat) (s g c : Addr) : List (Str × V) := [("rows", .ref r), ("places", .ref p), ("many", .int (many : Int)), ("senders", .ref s), ("getters", .ref g), ("clocks", .ref c)]
def tf1 (r : Addr) : List (Str × V) := [("rows", .ref r)]
def tf2 (r p : Addr) : List (Str × V) := [("rows", .ref r), ("places", .ref p)]
def tf3 (r p : Addr) (many : Nat) : List (Str × V) := [("rows", .ref r), ("places", .ref p), ("many", .int (many : Int))]
def tf4 (r p : Addr) (many : Nat) (s : Addr) : List (Str × V) := [("rows", .ref r), ("places", .ref p), ("many", .int (many : Int)), ("senders", .ref s)]
def tf5 (r p : Addr) (many : Nat) (s g : Addr) : List (Str × V) := [("rows", .ref r), ("places", .ref p), ("many", .int (many : Int)), ("senders", .ref s), ("getters", .ref g)]
theorem put1 (r : Addr) : putF "rows" (.ref r) [] = tf1 r := rfl
theorem put2 (r p : Addr) : putF "places" (.ref p) (tf1 r) = tf2 r p := rfl
theorem put3 (r p : Addr) (many : Nat) : putF "many" (.int (many : Int)) (tf2 r p) = tf3 r p many := rfl
theorem put4 (r p : Addr) (many : Nat) (s : Addr) : putF "senders" (.ref s) (tf3 r p many) = tf4 r p many s := rfl
theorem put5 (r p : Addr) (many : Nat) (s g : Addr) : putF "getters" (.ref g) (tf4 r p many s) = tf5 r p many s g := rfl
theorem put6 (r p : Addr) (many : Nat) (s g c : Addr) : putF "clocks" (.ref c) (tf5 r p many s g) = tf r p many s g c := rfl
structure TalkAt (H : Hp) (x C : Addr) (gss : List (List Dg)) (many : Nat) (S G : Nat → Nat) (Ck : Dg → List Int) : Prop where
  ex : ∃ (dx r p s g c : Addr) (kvs ckv : List (List Key × V)) (dn : List Dg), H x = some (.ins C dx (tf r p many s g c)) ∧ RowsD H r gss ∧ H p = some (.dT kvs) ∧ DictP H kvs (plAll 0 gss) ∧
    H s = some (.tup (iL ((List.range many).map fun l => ((S l : Nat) : Int)))) ∧ H g = some (.tup (iL ((List.range many).map fun l => ((G l : Nat) : Int)))) ∧ H c = some (.dT ckv) ∧ DictC Ck H ckv dn ∧ dn.Nodup ∧ ∀ g, g ∈ dn ↔ g ∈ (plAll 0 gss).map (·.1)
/-- its dicts are new -/
def TalkNw (H H' : Hp) (x C : Addr) : Prop := ∃ (dx r p : Addr) (many : Nat) (s g c : Addr), H' x = some (.ins C dx (tf r p many s g c)) ∧ H p = none ∧ H c = none
theorem TalkAt.same {H H' : Hp} {x C : Addr} {gss : List (List Dg)} {many : Nat} {S G : Nat → Nat} {Ck : Dg → List Int} (e : Same H H') (t : TalkAt H x C gss many S G Ck) : TalkAt H' x C gss many S G Ck := by
  obtain ⟨dx, r, p, s, g, c, kvs, ckv, dn, h1, h2, h3, h4, h5, h6, h7, h8, h9, h10⟩ := t.ex
  exact ⟨dx, r, p, s, g, c, kvs, ckv, dn, e _ _ h1, h2.same e, e _ _ h3, h4.same e, e _ _ h5, e _ _ h6, e _ _ h7, h8.tups (Same.tups e), h9, h10⟩
section
variable {P : Program} {w : World} {K : PySem.W.Frag} {mg : Str → Option Value} {base : Heap}
def spClocks (Sl : List (List Dg) → Prop) (Ck : Dg → List Int) : Sp := fun vs H Q _ => ∃ (p : Addr) (gss : List (List Dg)) (many : Nat) (S G : Nat → Nat), vs = [.ref p] ∧ Sl gss ∧ RowsD H p gss ∧ Valid gss many S G Ck ∧
  ∀ H' d kvs dn, Same H H' → H d = none → H' d = some (.dT kvs) → DictC Ck H' kvs dn → dn.Nodup → (∀ g, g ∈ dn ↔ g ∈ (plAll 0 gss).map (·.1)) → Q (.ref d) H'
def spTInit (C : Addr) (Sl : List (List Dg) → Prop) (Ck : Dg → List Int) : Sp := fun vs H Q _ => ∃ (x dx a : Addr) (gss : List (List Dg)) (many : Nat) (S G : Nat → Nat), vs = [.ref x, .ref a] ∧ H x = some (.ins C dx []) ∧ Sl gss ∧ RowsG H a gss ∧ Valid gss many S G Ck ∧
  ∀ H', (∀ b o, H b = some o → b ≠ x → H' b = some o) → TalkAt H' x C gss many S G Ck → TalkNw H H' x C → Q .non H'
structure TxtT (K : PySem.W.Frag) (mg : Str → Option Value) (C fCo fPl fCn fCh fHa fCl : Addr) : Prop extends TxtZ mg where
  cl : Cls K C
  nRows : NoAttr K C "rows"
  nPlaces : NoAttr K C "places"
  nMany : NoAttr K C "many"
  nSenders : NoAttr K C "senders"
  nGetters : NoAttr K C "getters"
  nClocks : NoAttr K C "clocks"
  g_Talk : mg "Talk" = some (.ref C)
  g_copied_rows : mg "copied_rows" = some (.ref fCo)
  g_found_places : mg "found_places" = some (.ref fPl)
  g_count_letters : mg "count_letters" = some (.ref fCn)
  g_check_letters : mg "check_letters" = some (.ref fCh)
  g_found_hands : mg "found_hands" = some (.ref fHa)
  g_found_clocks : mg "found_clocks" = some (.ref fCl)
theorem ok_tinit {f C fCo fPl fCn fCh fHa fCl : Addr} {fd fdCo fdPl fdCn fdCh fdHa fdCl : FuncData} {Sl : List (List Dg) → Prop} {Ck : Dg → List Int} (F : Fun K "__init__" "Talk.__init__" s_tinit f fd) (T : TxtT K mg C fCo fPl fCn fCh fHa fCl)
    (F_copied_rows : Fun K "copied_rows" "copied_rows" s_copied_rows fCo fdCo) (b_copied_rows : Binds K fdCo ["rows"] []) (G_copied_rows : FnOk P w K mg base CX0 2 fCo fdCo ["rows"] spCopy)
    (F_found_places : Fun K "found_places" "found_places" s_found_places fPl fdPl) (b_found_places : Binds K fdPl ["rows"] []) (G_found_places : FnOk P w K mg base CX0 4 fPl fdPl ["rows"] spPlaces)
    (F_count_letters : Fun K "count_letters" "count_letters" s_count_letters fCn fdCn) (b_count_letters : Binds K fdCn ["places"] []) (F_check_letters : Fun K "check_letters" "check_letters" s_check_letters fCh fdCh) (b_check_letters : Binds K fdCh ["places", "many"] [])
    (F_found_hands : Fun K "found_hands" "found_hands" s_found_hands fHa fdHa) (b_found_hands : Binds K fdHa ["places", "word", "many"] [])
    (kp_clocks : PySem.W.keepIn K (.ref fCl) = true) (b_found_clocks : Binds K fdCl ["rows"] []) (G_found_clocks : FnOk P w K mg base CX0 4 fCl fdCl ["rows"] (spClocks Sl Ck)) :
    FnOk P w K mg base CX0 5 f fd ["self", "rows"] (spTInit C Sl Ck) := by
  have G_count_letters : FnOk P w K mg base CX0 1 fCn fdCn ["places"] spCount := ok_count F_count_letters T.toTxtM
  have G_check_letters : FnOk P w K mg base CX0 1 fCh fdCh ["places", "many"] spCheck := ok_check F_check_letters T.toTxtM
  have G_hS : FnOk P w K mg base CX0 1 fHa fdHa ["places", "word", "many"] (spHands true) := ok_hands F_found_hands T.toTxtM
  have G_hG : FnOk P w K mg base CX0 1 fHa fdHa ["places", "word", "many"] (spHands false) := ok_hands F_found_hands T.toTxtM
  refine F.ok sc_tinit (fun vs H Q E h => ?_) (fun cdv A outer s H vs Q E hr h => ?_)
  · obtain ⟨x, dx, a, gss, many, S, G, rfl, _⟩ := h
    rfl
  · obtain ⟨x, dx, a, gss, many, S, G, rfl, hx, hSl, hR, hV, q⟩ := h
    have hr_copied_rows : Room 2 _ := hr.mono (by decide)
    have hr_found_places : Room 4 _ := hr
    have hr1 : Room 1 _ := hr.mono (by decide)
    have hr_found_clocks : Room 4 _ := hr
    refine ⟨_, (pss_cons (ps_fld (pv 0) (pe_call G_copied_rows hr_copied_rows (by rfl) T.g_copied_rows F_copied_rows.kp b_copied_rows .nil pass0 (pa_cons (pv 1) pa_nil)) rfl) (pss_cons (ps_fld (pv 0) (pe_call G_found_places hr_found_places (by rfl) T.g_found_places F_found_places.kp b_found_places .nil pass0 (pa_cons (pe_fld (pv 0) rfl) pa_nil)) rfl) (pss_cons (ps_fld (pv 0) (pe_call G_count_letters hr1 (by rfl) T.g_count_letters F_count_letters.kp b_count_letters .nil pass0 (pa_cons (pe_fld (pv 0) rfl) pa_nil)) rfl) (pss_cons (ps_expr (pe_call G_check_letters hr1 (by rfl) T.g_check_letters F_check_letters.kp b_check_letters .nil pass0 (pa_cons (pe_fld (pv 0) rfl) (pa_cons (pe_fld (pv 0) rfl) pa_nil)))) (pss_cons (ps_fld (pv 0) (pe_call G_hS hr1 (by rfl) T.g_found_hands F_found_hands.kp b_found_hands .nil pass0 (pa_cons (pe_fld (pv 0) rfl) (pa_cons pe_str (pa_cons (pe_fld (pv 0) rfl) pa_nil)))) rfl) (pss_cons (ps_fld (pv 0) (pe_call G_hG hr1 (by rfl) T.g_found_hands F_found_hands.kp b_found_hands .nil pass0 (pa_cons (pe_fld (pv 0) rfl) (pa_cons pe_str (pa_cons (pe_fld (pv 0) rfl) pa_nil)))) rfl) (pss_cons (ps_fld (pv 0) (pe_call G_found_clocks hr_found_clocks (by rfl) T.g_found_clocks kp_clocks b_found_clocks .nil pass0 (pa_cons (pe_fld (pv 0) rfl) pa_nil)) rfl) (pss_one (ps_if (pt_cmpR op_lt (pe_callB call_len_dT (by rfl) T.len PySem.boot_len (pa_cons (pe_fld (pv 0) rfl) pa_nil)) (pe_callB call_len_dT (by rfl) T.len PySem.boot_len (pa_cons (pe_fld (pv 0) rfl) pa_nil)) (nomark _)) (pss_one ps_never) pss_nil))))))))), ?_⟩
    obtain ⟨xss, xl, hIn, hOut⟩ := hR.items
    have v1 := hV.h1
    have v6 := hV.h6
    have v24 := hV.len
    have v12 := hV.m12
    -- self.rows = copied_rows(rows)
    refine ⟨_, rfl, a, xss, rfl, hIn, by omega, by omega, fun H1 r s1 hT => ?_⟩
    have hD1 : RowsD H1 r gss := hOut H1 r s1 hT
    refine ⟨_, rfl, x, C, dx, [], rfl, s1 _ _ hx, T.cl, T.nRows, (by show 0 < 1000; decide), ?_⟩
    have up : ∀ (H' : Hp) (o : HO), (∀ b o, H b = some o → b ≠ x → H' b = some o) → ∀ b o', H b = some o' → b ≠ x → (upd H' x o) b = some o' := fun H' o k b o' e n => by
      rw [upd_ne n]
      exact k b o' e n
    have tupx : ∀ (H' : Hp) (fs : List (Str × V)) (o : HO), H' x = some (.ins C dx fs) → Tups H' (upd H' x o) := fun H' fs o e => Tups.upd e fun xs z => by cases z
    have rd : ∀ (H' H'' : Hp) (p : Addr), Tups H' H'' → RowsD H' p gss → RowsD H'' p gss := fun H' H'' p t h => by
      obtain ⟨ts, k1, k2, k3⟩ := h.ex
      refine ⟨ts, t _ _ k1, k2, fun i t' gs e1 e2 => ?_⟩
      obtain ⟨qs, j1, j2, j3⟩ := k3 i t' gs e1 e2
      exact ⟨qs, t _ _ j1, j2, fun j q g e3 e4 => t _ _ (j3 j q g e3 e4)⟩
    have dpt : ∀ (H' H'' : Hp) (kvs : List (List Key × V)), Tups H' H'' → DictP H' kvs (plAll 0 gss) → DictP H'' kvs (plAll 0 gss) := fun H' H'' kvs t d => ⟨d.ks, fun i g h n e => let ⟨q, h1, h2⟩ := d.vs i g h n e; ⟨q, h1, t _ _ h2⟩⟩
    rw [put1]
    have k1 := up H1 (.ins C dx (tf1 r)) fun b o e _ => s1 b o e
    have x1 : (upd H1 x (.ins C dx (tf1 r))) x = some (.ins C dx (tf1 r)) := upd_same
    have r1 : RowsD (upd H1 x (.ins C dx (tf1 r))) r gss := rd _ _ r (tupx H1 [] _ (s1 _ _ hx)) hD1
    revert k1 x1 r1
    generalize upd H1 x (.ins C dx (tf1 r)) = J1
    intro k1 x1 r1
    -- self.places = found_places(self.rows)
    refine ⟨_, rfl, x, C, dx, _, _, rfl, x1, T.cl, T.nRows, rfl, r, gss, rfl, r1, fun t ht => Nat.lt_of_lt_of_le (hV.lt t ht) v12, hV.once, by omega, fun H2 p kvs s2 np hp dp => ?_⟩
    refine ⟨_, rfl, x, C, dx, _, rfl, s2 _ _ x1, T.cl, T.nPlaces, (by show 1 < 1000; decide), ?_⟩
    rw [put2]
    have px : p ≠ x := fun c => by
      rw [c, x1] at np
      cases np
    have k2 := up H2 (.ins C dx (tf2 r p)) fun b o e n => s2 _ _ (k1 b o e n)
    have x2 : (upd H2 x (.ins C dx (tf2 r p))) x = some (.ins C dx (tf2 r p)) := upd_same
    have t2 := tupx H2 _ (.ins C dx (tf2 r p)) (s2 _ _ x1)
    have r2 := rd _ _ r t2 (r1.same s2)
    have p2 : (upd H2 x (.ins C dx (tf2 r p))) p = some (.dT kvs) := by
      rw [upd_ne px]
      exact hp
    have d2 := dpt _ _ kvs t2 dp
    revert k2 x2 r2 p2 d2
    clear t2
    generalize upd H2 x (.ins C dx (tf2 r p)) = J2
    intro k2 x2 r2 p2 d2
    -- self.many = count_letters(self.places)
    refine ⟨_, rfl, x, C, dx, _, _, rfl, x2, T.cl, T.nPlaces, rfl, p, kvs, plAll 0 gss, many, rfl, p2, d2, by omega, hV.lt, fun hm => ?_, fun H3 s3 => ?_⟩
    · obtain ⟨n, hn⟩ := hV.hd.snd (many - 1) (by omega)
      exact ⟨_, hn, by show many - 1 + 1 = many; omega⟩
    refine ⟨_, rfl, x, C, dx, _, rfl, s3 _ _ x2, T.cl, T.nMany, (by show 2 < 1000; decide), ?_⟩
    rw [put3]
    have k3 := up H3 (.ins C dx (tf3 r p many)) fun b o e n => s3 _ _ (k2 b o e n)
    have x3 : (upd H3 x (.ins C dx (tf3 r p many))) x = some (.ins C dx (tf3 r p many)) := upd_same
    have t3 := tupx H3 _ (.ins C dx (tf3 r p many)) (s3 _ _ x2)
    have r3 := rd _ _ r t3 (r2.same s3)
    have p3 : (upd H3 x (.ins C dx (tf3 r p many))) p = some (.dT kvs) := by
      rw [upd_ne px]
      exact s3 _ _ p2
    have d3 := dpt _ _ kvs t3 (d2.same s3)
    revert k3 x3 r3 p3 d3
    clear t3
    generalize upd H3 x (.ins C dx (tf3 r p many)) = J3
    intro k3 x3 r3 p3 d3
    -- check_letters(self.places, self.many)
    refine ⟨_, rfl, x, C, dx, _, _, rfl, x3, T.cl, T.nPlaces, rfl, _, rfl, x, C, dx, _, _, rfl, x3, T.cl, T.nMany, rfl, p, kvs, plAll 0 gss, many, S, G, rfl, p3, d3, hV.once, v12, hV.hd, fun H4 s4 => ?_⟩
    -- self.senders, self.getters
    refine ⟨_, rfl, x, C, dx, _, _, rfl, s4 _ _ x3, T.cl, T.nPlaces, rfl, _, rfl, x, C, dx, _, _, rfl, s4 _ _ x3, T.cl, T.nMany, rfl, p, kvs, plAll 0 gss, many, S, rfl, s4 _ _ p3, d3.same s4, hV.once, v12, hV.hd.snd, fun H5 sp s5 hs5 => ?_⟩
    have s45 := Same.trans s4 s5
    refine ⟨_, rfl, x, C, dx, _, rfl, s45 _ _ x3, T.cl, T.nSenders, (by show 3 < 1000; decide), ?_⟩
    rw [put4]
    have k5 := up H5 (.ins C dx (tf4 r p many sp)) fun b o e n => s45 _ _ (k3 b o e n)
    have x5 : (upd H5 x (.ins C dx (tf4 r p many sp))) x = some (.ins C dx (tf4 r p many sp)) := upd_same
    have t5 := tupx H5 _ (.ins C dx (tf4 r p many sp)) (s45 _ _ x3)
    have r5 := rd _ _ r t5 (r3.same s45)
    have p5 : (upd H5 x (.ins C dx (tf4 r p many sp))) p = some (.dT kvs) := by
      rw [upd_ne px]
      exact s45 _ _ p3
    have d5 := dpt _ _ kvs t5 (d3.same s45)
    have sp5 := t5 _ _ hs5
    revert k5 x5 r5 p5 d5 sp5
    clear t5
    generalize upd H5 x (.ins C dx (tf4 r p many sp)) = J5
    intro k5 x5 r5 p5 d5 sp5
    refine ⟨_, rfl, x, C, dx, _, _, rfl, x5, T.cl, T.nPlaces, rfl, _, rfl, x, C, dx, _, _, rfl, x5, T.cl, T.nMany, rfl, p, kvs, plAll 0 gss, many, G, rfl, p5, d5, hV.once, v12, hV.hd.got, fun H6 gp s6 hg6 => ?_⟩
    refine ⟨_, rfl, x, C, dx, _, rfl, s6 _ _ x5, T.cl, T.nGetters, (by show 4 < 1000; decide), ?_⟩
    rw [put5]
    have k6 := up H6 (.ins C dx (tf5 r p many sp gp)) fun b o e n => s6 _ _ (k5 b o e n)
    have x6 : (upd H6 x (.ins C dx (tf5 r p many sp gp))) x = some (.ins C dx (tf5 r p many sp gp)) := upd_same
    have t6 := tupx H6 _ (.ins C dx (tf5 r p many sp gp)) (s6 _ _ x5)
    have r6 := rd _ _ r t6 (r5.same s6)
    have p6 : (upd H6 x (.ins C dx (tf5 r p many sp gp))) p = some (.dT kvs) := by
      rw [upd_ne px]
      exact s6 _ _ p5
    have d6 := dpt _ _ kvs t6 (d5.same s6)
    have sp6 := t6 _ _ (s6 _ _ sp5)
    have gp6 := t6 _ _ hg6
    revert k6 x6 r6 p6 d6 sp6 gp6
    clear t6
    generalize upd H6 x (.ins C dx (tf5 r p many sp gp)) = J6
    intro k6 x6 r6 p6 d6 sp6 gp6
    -- self.clocks = found_clocks(self.rows)
    refine ⟨_, rfl, x, C, dx, _, _, rfl, x6, T.cl, T.nRows, rfl, r, gss, many, S, G, rfl, hSl, r6, hV, fun H7 c ckv dn s7 nc hc dc nd hdn => ?_⟩
    refine ⟨_, rfl, x, C, dx, _, rfl, s7 _ _ x6, T.cl, T.nClocks, (by show 5 < 1000; decide), ?_⟩
    rw [put6]
    have cx : c ≠ x := fun z => by
      rw [z, x6] at nc
      cases nc
    have k7 := up H7 (.ins C dx (tf r p many sp gp c)) fun b o e n => s7 _ _ (k6 b o e n)
    have x7 : (upd H7 x (.ins C dx (tf r p many sp gp c))) x = some (.ins C dx (tf r p many sp gp c)) := upd_same
    have t7 := tupx H7 _ (.ins C dx (tf r p many sp gp c)) (s7 _ _ x6)
    have r7 := rd _ _ r t7 (r6.same s7)
    have p7 : (upd H7 x (.ins C dx (tf r p many sp gp c))) p = some (.dT kvs) := by
      rw [upd_ne px]
      exact s7 _ _ p6
    have c7 : (upd H7 x (.ins C dx (tf r p many sp gp c))) c = some (.dT ckv) := by
      rw [upd_ne cx]
      exact hc
    have d7 := dpt _ _ kvs t7 (d6.same s7)
    have dc7 := dc.tups t7
    have sp7 := t7 _ _ (s7 _ _ sp6)
    have gp7 := t7 _ _ (s7 _ _ gp6)
    revert k7 x7 r7 p7 d7 sp7 gp7 c7 dc7
    clear t7
    generalize upd H7 x (.ins C dx (tf r p many sp gp c)) = J7
    intro k7 x7 r7 p7 c7 d7 dc7 sp7 gp7
    -- if len(self.clocks) < len(self.places): raise
    have el : ckv.length = kvs.length := by
      rw [dc7.len, d7.len]
      have e1 : ((plAll 0 gss).map (·.1)).length = (plAll 0 gss).length := List.length_map ..
      rw [← e1]
      exact Nat.le_antisymm (nd_len nd fun g hg => (hdn g).mp hg) (nd_len hV.once fun g hg => (hdn g).mpr hg)
    refine ⟨_, rfl, x, C, dx, _, _, rfl, x7, T.cl, T.nClocks, rfl, c, ckv, rfl, c7, _, rfl, x, C, dx, _, _, rfl, x7, T.cl, T.nPlaces, rfl, p, kvs, rfl, p7, _, _, rfl, rfl, _, rfl, ?_⟩
    rw [decide_eq_false (by rw [el]; omega)]
    have hp0 : H p = none := by
      cases e : H p with
      | none => rfl
      | some o =>
        rw [k1 p o e px] at np
        cases np
    have hc0 : H c = none := by
      cases e : H c with
      | none => rfl
      | some o =>
        rw [k6 c o e cx] at nc
        cases nc
    exact q J7 k7 ⟨dx, r, p, sp, gp, c, kvs, ckv, dn, x7, r7, p7, d7, sp7, gp7, c7, dc7, nd, hdn⟩ ⟨dx, r, p, many, sp, gp, c, x7, hp0, hc0⟩
end
end Up

namespace Up
open PySem PySem.Spec PyProof.Rows L2
theorem DictC.put {Ck : Dg → List Int} {H : Hp} {kvs : List (List Key × V)} {dn : List Dg} (d : DictC Ck H kvs dn) (nd : dn.Nodup) {g : Dg} {q : Addr} (hq : H q = some (.tup (iL (Ck g)))) :
    ∃ dn', DictC Ck H (putK kvs g.key (.ref q)) dn' ∧ dn'.Nodup ∧ ∀ x, x ∈ dn' ↔ x ∈ dn ∨ x = g := by
  by_cases hm : g ∈ dn
  · refine ⟨dn, ⟨?_, fun i x e => ?_⟩, nd, fun x => ⟨.inl, fun c => c.elim id fun c => c ▸ hm⟩⟩
    · obtain ⟨q', k1, _⟩ := d.get nd hm
      unfold putK
      rw [valV_any, k1]
      show (kvs.map fun kv => if kv.1 = g.key then (kv.1, V.ref q) else kv).map (·.1) = _
      rw [List.map_map, ← d.ks]
      refine List.map_congr_left fun p _ => ?_
      show (if p.1 = g.key then (p.1, V.ref q) else p).1 = p.1
      split <;> rfl
    · obtain ⟨q', k1, _⟩ := d.get nd hm
      obtain ⟨q2, e1, e2⟩ := d.vs i x e
      unfold putK
      rw [valV_any, k1]
      show ∃ q0, (kvs.map fun kv => if kv.1 = g.key then (kv.1, V.ref q) else kv)[i]? = _ ∧ _
      rw [List.getElem?_map, e1]
      by_cases c : x.key = g.key
      · refine ⟨q, ?_, ?_⟩
        · show some (if x.key = g.key then (x.key, V.ref q) else (x.key, V.ref q2)) = _
          rw [if_pos c]
        · rw [Dg.key_inj c]
          exact hq
      · refine ⟨q2, ?_, e2⟩
        show some (if x.key = g.key then (x.key, V.ref q) else (x.key, V.ref q2)) = _
        rw [if_neg c]
  · refine ⟨dn ++ [g], ?_, ?_, fun x => by simp⟩
    · rw [putK_new _ (d.none hm)]
      exact d.snoc (fun _ _ e => e) hq
    · refine List.nodup_append.mpr ⟨nd, List.nodup_cons.mpr ⟨List.not_mem_nil, List.nodup_nil⟩, fun a ha b hb => ?_⟩
      rcases List.mem_cons.mp hb with e | e
      · subst e
        exact fun c => hm (c ▸ ha)
      · cases e
/-! ### the passes come to rest only when all doings have their clocks -/
theorem plRow_mem {h : Nat} {g : Dg} {n : Nat} : ∀ {gs : List Dg} {k : Nat}, gs[n]? = some g → (g, h, k + n) ∈ plRow h k gs
  | [], k, e => by simp at e
  | x :: r, k, e => by
    cases n with
    | zero =>
      have e2 : x = g := Option.some.inj e
      subst e2
      exact List.mem_cons_self ..
    | succ n =>
      have h2 := plRow_mem (h := h) (k := k + 1) (gs := r) (n := n) e
      rw [show k + 1 + n = k + (n + 1) by omega] at h2
      exact List.mem_cons_of_mem _ h2
theorem plAll_mem {gs : List Dg} {i : Nat} : ∀ {gss : List (List Dg)} {h : Nat}, gss[i]? = some gs → ∀ t ∈ plRow (h + i) 0 gs, t ∈ plAll h gss
  | [], h, e, t, ht => by simp at e
  | r :: rs, h, e, t, ht => by
    cases i with
    | zero =>
      have e2 : r = gs := Option.some.inj e
      subst e2
      exact List.mem_append_left _ ht
    | succ i =>
      refine List.mem_append_right _ (plAll_mem (h := h + 1) (gss := rs) e t ?_)
      rw [show h + 1 + i = h + (i + 1) by omega]
      exact ht
theorem plRow_of {h : Nat} {t : Pl} : ∀ {gs : List Dg} {k : Nat}, t ∈ plRow h k gs → ∃ n : Nat, gs[n]? = some t.1
  | [], k, e => by cases e
  | x :: r, k, e => by
    rcases List.mem_cons.mp e with c | c
    · subst c
      exact ⟨0, rfl⟩
    · obtain ⟨n, hn⟩ := plRow_of c
      exact ⟨n + 1, hn⟩
theorem plAll_of {t : Pl} : ∀ {gss : List (List Dg)} {h : Nat}, t ∈ plAll h gss → ∃ (i n : Nat) (gs : List Dg), gss[i]? = some gs ∧ gs[n]? = some t.1
  | [], h, e => by cases e
  | r :: rs, h, e => by
    rcases List.mem_append.mp e with c | c
    · obtain ⟨n, hn⟩ := plRow_of c
      exact ⟨0, n, r, rfl, hn⟩
    · obtain ⟨i, n, gs, h1, h2⟩ := plAll_of c
      exact ⟨i + 1, n, gs, h1, h2⟩
theorem in_all {gss : List (List Dg)} {i n : Nat} {gs : List Dg} {g : Dg} (e : gss[i]? = some gs) (eg : gs[n]? = some g) : g ∈ (plAll 0 gss).map (·.1) := by
  have h1 := plRow_mem (h := 0 + i) (k := 0) eg
  exact List.mem_map_of_mem (f := (·.1)) (plAll_mem e _ h1)
theorem reach_mem {dn : List Dg} {g : Dg} : ∀ {gs : List Dg} {n : Nat}, gs[n]? = some g → (∀ i x, i ≤ n → gs[i]? = some x → readyG dn x = true) → g ∈ reach dn gs
  | [], n, e, _ => by simp at e
  | x :: r, 0, e, h => by
    have e2 : x = g := Option.some.inj e
    subst e2
    unfold reach
    rw [List.takeWhile_cons, h 0 x (Nat.le_refl _) rfl]
    exact List.mem_cons_self ..
  | x :: r, n + 1, e, h => by
    unfold reach
    rw [List.takeWhile_cons, h 0 x (Nat.zero_le _) rfl]
    exact List.mem_cons_of_mem _ (reach_mem (dn := dn) (gs := r) (n := n) e fun i y hi ey => h (i + 1) y (by omega) ey)
theorem reach_sub {dn dn' : List Dg} (h : ∀ x ∈ dn, x ∈ dn') : ∀ {gs : List Dg}, ∀ x ∈ reach dn gs, x ∈ reach dn' gs
  | [], x, hx => by cases hx
  | g :: r, x, hx => by
    unfold reach at hx ⊢
    rw [List.takeWhile_cons] at hx ⊢
    cases c : readyG dn g with
    | false =>
      rw [c] at hx
      cases hx
    | true =>
      rw [c] at hx
      have c2 : readyG dn' g = true := by
        unfold readyG at c ⊢
        rcases Bool.or_eq_true_iff.mp c with z | z
        · rw [z]
          rfl
        · rw [Bool.or_eq_true_iff]
          exact .inr (decide_eq_true (h _ (of_decide_eq_true z)))
      rw [c2]
      rcases List.mem_cons.mp hx with z | z
      · exact List.mem_cons.mpr (.inl z)
      · exact List.mem_cons_of_mem _ (reach_sub h (gs := r) x z)
theorem reach_in {dn : List Dg} {gs : List Dg} : ∀ x ∈ reach dn gs, x ∈ gs := fun x hx => (List.takeWhile_sublist (readyG dn)).subset hx
theorem Valid.rest {gss : List (List Dg)} {many : Nat} {S G : Nat → Nat} {Ck : Dg → List Int} (v : Valid gss many S G Ck) {dn : List Dg} (fx : ∀ (i : Nat) (gs : List Dg), gss[i]? = some gs → ∀ x ∈ reach dn gs, x ∈ dn) : ∀ g ∈ (plAll 0 gss).map (·.1), g ∈ dn := by
  obtain ⟨rk, r1, r2⟩ := v.rk
  have up : ∀ (h : Nat) (gs : List Dg), gss[h]? = some gs → ∀ (d n : Nat) (g g' : Dg), gs[n]? = some g → gs[n + d + 1]? = some g' → rk g < rk g' := by
    intro h gs eg d
    induction d with
    | zero => exact fun n g g' e1 e2 => r1 h gs eg n g g' e1 e2
    | succ d ih =>
      intro n g g' e1 e2
      have hl := (List.getElem?_eq_some_iff.mp e2).1
      have e3 : gs[n + d + 1]? = some gs[n + d + 1] := List.getElem?_eq_getElem (by omega)
      exact Nat.lt_trans (ih n g _ e1 e3) (r1 h gs eg (n + d + 1) _ g' e3 e2)
  have all : ∀ (k : Nat) (g : Dg), rk g ≤ k → g ∈ (plAll 0 gss).map (·.1) → g ∈ dn := by
    intro k
    induction k with
    | zero =>
      intro g hk hg
      obtain ⟨t, ht, rfl⟩ := List.mem_map.mp hg
      obtain ⟨i, n, gs, e1, e2⟩ := plAll_of ht
      refine fx i gs e1 _ (reach_mem e2 fun j x hj ex => ?_)
      have ej : j = n := by
        rcases Nat.lt_or_ge j n with c | c
        · have := up i gs e1 (n - j - 1) j x t.1 ex (by rw [show j + (n - j - 1) + 1 = n by omega]; exact e2)
          omega
        · omega
      subst ej
      rw [e2] at ex
      have ex2 : t.1 = x := Option.some.inj ex
      rw [← ex2]
      unfold readyG
      cases hs : t.1.s with
      | true => rfl
      | false =>
        have hl := v.lt t ht
        have := r2 t.1.l hl
        have e3 : t.1 = ⟨false, t.1.l⟩ := by rw [← hs]
        rw [← e3] at this
        omega
    | succ k ih =>
      intro g hk hg
      obtain ⟨t, ht, rfl⟩ := List.mem_map.mp hg
      obtain ⟨i, n, gs, e1, e2⟩ := plAll_of ht
      refine fx i gs e1 _ (reach_mem e2 fun j x hj ex => ?_)
      have hx : rk x ≤ k + 1 := by
        rcases Nat.lt_or_ge j n with c | c
        · have := up i gs e1 (n - j - 1) j x t.1 ex (by rw [show j + (n - j - 1) + 1 = n by omega]; exact e2)
          omega
        · have ej : j = n := by omega
          subst ej
          rw [e2] at ex
          rw [← (Option.some.inj ex : t.1 = x)]
          exact hk
      unfold readyG
      cases hs : x.s with
      | true => rfl
      | false =>
        have hx2 := in_all e1 ex
        obtain ⟨t2, ht2, et2⟩ := List.mem_map.mp hx2
        have hl := v.lt t2 ht2
        rw [et2] at hl
        have h3 := r2 x.l hl
        have e3 : x = ⟨false, x.l⟩ := by rw [← hs]
        rw [← e3] at h3
        obtain ⟨n2, m2⟩ := v.hd.snd x.l hl
        have h4 := ih ⟨true, x.l⟩ (by omega) (List.mem_map_of_mem (f := (·.1)) m2)
        rw [decide_eq_true h4]
        rfl
  exact fun g hg => all (rk g) g (Nat.le_refl _) hg
abbrev s_found_clocks : Stmt := (topS 21)
theorem sc_found_clocks : FnScope ["rows", "clocks", "before", "hand", "row", "found", "doing"] ["rows"] (defScope s_found_clocks) := ⟨rfl, rfl, rfl, by decide +kernel, rfl, by decide +kernel, by decide +kernel⟩
structure TxtF (K : PySem.W.Frag) (mg : Str → Option Value) (fR : Addr) : Prop extends TxtZ mg where
  g_row_clocks : mg "row_clocks" = some (.ref fR)
theorem nd_more {α : Type} [DecidableEq α] {a b : List α} (ha : a.Nodup) (hb : b.Nodup) (h : ∀ x ∈ a, x ∈ b) (l : b.length ≤ a.length) : ∀ x ∈ b, x ∈ a := fun x hx => by
  by_cases c : x ∈ a
  · exact c
  · have n := nd_len (a := x :: a) (b := b) (List.nodup_cons.mpr ⟨c, ha⟩) fun y hy => by
      rcases List.mem_cons.mp hy with e | e
      · exact e ▸ hx
      · exact h y e
    rw [List.length_cons] at n
    omega
theorem plRow_map (h : Nat) : ∀ (gs : List Dg) (n : Nat), (plRow h n gs).map (·.1) = gs
  | [], _ => rfl
  | g :: r, n => by
    show g :: (plRow h (n + 1) r).map (·.1) = _
    rw [plRow_map h r (n + 1)]
theorem Once.row {gss : List (List Dg)} (o : Once gss) {i : Nat} {gs : List Dg} (e : gss[i]? = some gs) : gs.Nodup := by
  obtain ⟨r, h⟩ := plTo_pre (j := gs.length) e
  unfold Once at o
  rw [h, List.map_append] at o
  have o2 := (List.nodup_append.mp o).1
  unfold plTo at o2
  rw [List.map_append, List.take_length, plRow_map] at o2
  exact (List.nodup_append.mp o2).2.1
/-- all rows -/
def Sl0 (_ : List (List Dg)) : Prop := True
section
variable {P : Program} {w : World} {K : PySem.W.Frag} {mg : Str → Option Value} {base : Heap}
theorem ok_clocks {f fR : Addr} {fd fdR : FuncData} {Ck : Dg → List Int} (F : Fun K "found_clocks" "found_clocks" s_found_clocks f fd) (T : TxtF K mg fR) (F_row_clocks : Fun K "row_clocks" "row_clocks" s_row_clocks fR fdR) (b_row_clocks : Binds K fdR ["hand", "row", "hands", "clocks"] []) :
    FnOk P w K mg base CX0 2 f fd ["rows"] (spClocks Sl0 Ck) := by
  have G_row_clocks : FnOk P w K mg base CX0 1 fR fdR ["hand", "row", "hands", "clocks"] (spRowC Ck) := ok_rowc F_row_clocks T.toTxtZ
  refine F.ok sc_found_clocks (fun vs H Q E h => ?_) (fun cdv A outer s H vs Q E hr h => ?_)
  · obtain ⟨p, gss, _, _, _, rfl, _⟩ := h
    rfl
  · obtain ⟨p, gss, many, S, G, rfl, _, hR, hV, q⟩ := h
    have hu := hu_of hr
    have hr_row_clocks : Room 1 _ := hr
    obtain ⟨ts, hp, hts, hrow⟩ := hR.ex
    have v6' := hV.h6
    have v24 := hV.len
    refine ⟨_, (pss_cons (ps_set (i := 1) sc_found_clocks.nd rfl (Or.inl rfl) pe_dnewT) (pss_cons (ps_set (i := 2) sc_found_clocks.nd rfl (Or.inl rfl) (pe_un un_neg pe_int)) (pss_cons (ps_while PassesOwn.never (pt_cmpR op_lt (pv 2) (pe_callB call_len_dT (by rfl) T.len PySem.boot_len (pa_cons (pv 1) pa_nil)) (nomark _)) (pss_cons (ps_set (i := 2) sc_found_clocks.nd rfl (Or.inl rfl) (pe_callB call_len_dT (by rfl) T.len PySem.boot_len (pa_cons (pv 1) pa_nil))) (pss_one (ps_for PassesOwn.never rfl (pi_enT (by rfl) T.enumerate (pa_cons (pv 0) pa_nil)) (pg_tup (by rfl) (pgs_cons (pg_name (i := 3) sc_found_clocks.nd rfl (Or.inl rfl)) (pgs_cons (pg_name (i := 4) sc_found_clocks.nd rfl (Or.inl rfl)) pgs_nil))) (pss_cons (ps_set (i := 5) sc_found_clocks.nd rfl (Or.inl rfl) (pe_call G_row_clocks hr_row_clocks (by rfl) T.g_row_clocks F_row_clocks.kp b_row_clocks .nil pass0 (pa_cons (pv 3) (pa_cons (pv 4) (pa_cons (pe_callB call_len_seq (by rfl) T.len PySem.boot_len (pa_cons (pv 0) pa_nil)) (pa_cons (pv 1) pa_nil)))))) (pss_one (ps_lock (ps_for PassesOwn.never rfl (pi_keys (pv 5)) (pg_name (i := 6) sc_found_clocks.nd rfl (Or.inl rfl)) (pss_one (ps_dput hu (pv 1) (pv 6) (pe_dget hu (pv 5) (pv 6) (fun _ _ => rfl)) rfl)))))))))) (pss_one (ps_ret (pv 1)))))), ?_⟩
    intro d nD
    have s0 : Same H (upd H d (.dT [])) := same_new nD
    let Inv0 : Int → Option V → Option V → Option V → Option V → List (List Key × V) → List Dg → L2.St → Hp → Prop := fun b v3 v4 v5 v6 kvs dn σ H2 => σ = [some (.ref p), some (.ref d), some (.int b), v3, v4, v5, v6] ∧ Same H H2 ∧ H2 d = some (.dT kvs) ∧ DictC Ck H2 kvs dn ∧ dn.Nodup ∧ (∀ x ∈ dn, x ∈ ((plAll 0 gss).map (·.1) : List Dg))
    refine ⟨_, rfl, fun m σ H2 => ∃ (b : Int) (v3 v4 v5 v6 : Option V) (kvs : List (List Key × V)) (dn : List Dg), Inv0 b v3 v4 v5 v6 kvs dn σ H2 ∧ m = 2 * (24 - dn.length) + (if b < (dn.length : Int) then 1 else 0) ∧
      (b < (dn.length : Int) ∨ ∀ (i : Nat) (gs : List Dg), gss[i]? = some gs → ∀ x ∈ reach dn gs, x ∈ dn), ⟨_, -1, none, none, none, none, [], [], ⟨rfl, s0, upd_same, ⟨rfl, fun i g e => by cases e⟩, List.nodup_nil, (fun x hx => by cases hx)⟩, rfl, .inl (by decide)⟩, ?_⟩
    rintro m σ H2 ⟨b, v3, v4, v5, v6, kvs, dn, ⟨rfl, sm, hd, dc, nd, sub⟩, em, fx⟩
    have d24 : dn.length ≤ 24 := by
      have h1 := nd_len nd sub
      rw [List.length_map] at h1
      omega
    have el : (kvs.length : Int) = (dn.length : Int) := by rw [dc.len]
    refine ⟨_, rfl, _, rfl, d, kvs, rfl, hd, _, _, rfl, rfl, _, rfl, ?_⟩
    rw [el]
    by_cases c : b < (dn.length : Int)
    · rw [decide_eq_true c]
      rw [if_pos c] at em
      refine ⟨fun σ' H' => ∃ m', m' < m ∧ ∃ (b : Int) (v3 v4 v5 v6 : Option V) (kvs : List (List Key × V)) (dn : List Dg), Inv0 b v3 v4 v5 v6 kvs dn σ' H' ∧ m' = 2 * (24 - dn.length) + (if b < (dn.length : Int) then 1 else 0) ∧
        (b < (dn.length : Int) ∨ ∀ (i : Nat) (gs : List Dg), gss[i]? = some gs → ∀ x ∈ reach dn gs, x ∈ dn), fun σ' H' h => h, ?_⟩
      -- before = len(clocks)
      refine ⟨_, rfl, d, kvs, rfl, hd, ?_⟩
      -- for hand, row in enumerate(rows)
      refine ⟨_, rfl, p, _, rfl, .inl (.inl (sm _ _ hp)), for_it walk_enT (fun i σ H3 => ∃ (v3 v4 v5 v6 : Option V) (kvs1 : List (List Key × V)) (dn1 : List Dg), Inv0 (dn.length : Int) v3 v4 v5 v6 kvs1 dn1 σ H3 ∧ (∀ x ∈ dn, x ∈ dn1) ∧
          ∀ (k : Nat) (gs : List Dg), k < i → gss[k]? = some gs → ∀ x ∈ reach dn gs, x ∈ dn1) ⟨_, _, _, _, kvs, dn, ⟨by rw [← el]; rfl, sm, hd, dc, nd, sub⟩, fun x hx => hx, fun k gs hk => by omega⟩ (fun i σ H3 _ ⟨_, _, _, _, _, _, ⟨_, sm3, _⟩, _⟩ => .inl (.inl (sm3 _ _ hp))) ?_ ?_⟩
      · rintro i x σ H3 H4 hi ⟨v3, v4, v5, v6, kvs1, dn1, ⟨rfl, sm3, hd3, dc3, nd3, sub3⟩, inc3, don3⟩ ⟨U, x1, x2, rfl, nU, rfl, e1, e2⟩
        obtain rfl : x1 = .int (i : Int) := (Option.some.inj e1).symm
        obtain ⟨t, et, rfl⟩ := map_get e2
        obtain ⟨gs, egs⟩ := get_of hts et
        obtain ⟨qs, ht, hql, hqs⟩ := hrow i t gs et egs
        have sU : Same H3 (upd H3 U (.tup [.int (i : Int), .ref t])) := same_new nU
        refine ⟨U, _, rfl, .inl (.inl upd_same), rfl, _, _, rfl, _, _, rfl, rfl, ?_⟩
        have il : i < gss.length := (List.getElem?_eq_some_iff.mp egs).1
        have gnd : gs.Nodup := hV.once.row egs
        have gl : gs.length ≤ 24 := by
          have h1 := nd_len gnd (b := (plAll 0 gss).map (·.1)) fun y hy => by
            obtain ⟨n, ln, en⟩ := List.getElem_of_mem hy
            exact in_all egs (List.getElem?_eq_some_iff.mpr ⟨ln, en⟩)
          rw [List.length_map] at h1
          omega
        have sm4 := Same.trans sm3 sU
        -- found = row_clocks(hand, row, len(rows), clocks)
        refine ⟨_, rfl, _, rfl, _, rfl, p, _, rfl, .inr (.inl (.inl (sm4 _ _ hp))), _, rfl, ?_⟩
        refine ⟨i, t, gs, gss.length, d, kvs1, dn1, ?_, ⟨qs, sm4 _ _ ht, hql, fun j q g a b => sm4 _ _ (hqs j q g a b)⟩, sU _ _ hd3, dc3.tups (Same.tups sU), nd3, il, v6', gnd, by omega, hV.ck i gs egs, hV.ckl, fun H5 fd5 more s5 nf hf df => ?_⟩
        · rw [List.length_map, hts]
          rfl
        have hd5 := s5 _ _ (sU _ _ hd3)
        have dc5 := (dc3.tups (Same.tups sU)).tups (Same.tups s5)
        have sm5 : Same H H5 := Same.trans sm4 s5
        have nHf : H fd5 = none := sm4.free nf
        have nfd : d ≠ fd5 := fun z => by
          rw [← z, sU _ _ hd3] at nf
          cases nf
        have rnd : (reach dn1 gs).Nodup := List.Nodup.sublist (List.takeWhile_sublist (readyG dn1)) gnd
        -- for doing in found, found locked
        refine ⟨fd5, _, hf, True.intro, fun od => ?_⟩
        have tpl : Tups H5 (upd H5 fd5 (.frz od (.dT more))) := Tups.upd hf fun xs z => by cases z
        refine ⟨_, rfl, fd5, od, rfl, .inr ⟨more, upd_same, for_it walk_keysT (fun j σ H6 => ∃ (v6 : Option V) (kvs2 : List (List Key × V)) (dn2 : List Dg), σ = [some (.ref p), some (.ref d), some (.int (dn.length : Int)), some (.int (i : Int)), some (.ref t), some (.ref fd5), v6] ∧ H6 fd5 = some (.frz od (.dT more)) ∧ H6 d = some (.dT kvs2) ∧
            DictC Ck H6 more (reach dn1 gs) ∧ DictC Ck H6 kvs2 dn2 ∧ dn2.Nodup ∧ (∀ x, x ∈ dn2 ↔ x ∈ dn1 ∨ x ∈ (reach dn1 gs).take j) ∧ ∀ b o, H b = some o → H6 b = some o)
          ⟨_, kvs1, dn1, rfl, upd_same, by rw [upd_ne nfd]; exact hd5, df.tups tpl, dc5.tups tpl, nd3, fun x => by rw [List.take_zero]; simp, fun b o e => by rw [upd_ne (ne_of_none e nHf)]; exact sm5 _ _ e⟩ (fun j σ H6 _ ⟨_, _, _, _, hz, _⟩ => hz) ?_ ?_⟩⟩
        · rintro j x σ Hz H6 hj ⟨v6, kvs2, dn2, rfl, hf6, hd6, df6, dc6, nd6, mem6, k6⟩ ⟨rfl, k, v, q0, ek, rfl, hq0⟩
          have lj : j < (reach dn1 gs).length := by rw [← df6.len]; exact hj
          have eg : (reach dn1 gs)[j]? = some (reach dn1 gs)[j] := List.getElem?_eq_getElem lj
          revert eg
          generalize (reach dn1 gs)[j] = g
          intro eg
          obtain ⟨q1, ea, hq1⟩ := df6.vs j g eg
          rw [ek] at ea
          obtain ⟨rfl, rfl⟩ : k = g.key ∧ v = .ref q1 := ⟨congrArg Prod.fst (Option.some.inj ea), congrArg Prod.snd (Option.some.inj ea)⟩
          have hv : valV more g.key = some (.ref q1) := val_some (by rw [df6.ks]; exact List.Pairwise.map _ (fun a b c e => c (Dg.key_inj e)) rnd) ek
          have l2 : dn2.length ≤ 1000 := by
            have h1 := nd_len nd6 (b := (plAll 0 gss).map (·.1)) fun y hy => by
              rcases (mem6 y).mp hy with c | c
              · exact sub3 y c
              · obtain ⟨n, ln, en⟩ := List.getElem_of_mem (reach_in y (List.mem_of_mem_take c))
                exact in_all egs (List.getElem?_eq_some_iff.mpr ⟨ln, en⟩)
            rw [List.length_map] at h1
            omega
          refine ⟨_, rfl, _, rfl, fd5, .ref q1, rfl, .inr ⟨more, g.key, q0, .inr ⟨od, hf6⟩, rfl, hq0, hv.symm⟩, _, rfl, _, rfl, d, _, rfl, DPut.t (k := g.key) hd6 hq0 (by rw [dc6.len]; exact small1000 (by omega)), ?_⟩
          obtain ⟨dn3, d3, nd3', m3⟩ := dc6.put nd6 hq1
          have tp : Tups H6 (upd H6 d (.dT (putK kvs2 g.key (.ref q1)))) := Tups.upd hd6 fun xs z => by cases z
          refine ⟨_, _, dn3, rfl, by rw [upd_ne nfd.symm]; exact hf6, upd_same, df6.tups tp, d3.tups tp, nd3', fun x => ?_, fun b o e => by rw [upd_ne (ne_of_none e nD)]; exact k6 b o e⟩
          rw [m3, mem6, take_snoc eg, List.mem_append]
          constructor
          · rintro ((c | c) | c)
            · exact .inl c
            · exact .inr (.inl c)
            · exact .inr (.inr (by rw [c]; exact List.mem_cons_self ..))
          · rintro (c | c | c)
            · exact .inl (.inl c)
            · exact .inl (.inr c)
            · rcases List.mem_cons.mp c with z | z
              · exact .inr z
              · cases z
        · rintro σ H6 ⟨v6, kvs2, dn2, rfl, hf6, hd6, df6, dc6, nd6, mem6, k6⟩
          rw [df6.len, List.take_length] at mem6
          have tp : Tups H6 (upd H6 fd5 (.dT more)) := Tups.upd hf6 fun xs z => by cases z
          refine ⟨hf6, _, _, _, _, kvs2, dn2, ⟨rfl, fun b o e => by rw [upd_ne (ne_of_none e nHf)]; exact k6 b o e, by rw [upd_ne nfd]; exact hd6, dc6.tups tp, nd6, fun z hz => ?_⟩, fun z hz => (mem6 z).mpr (.inl (inc3 z hz)), fun k gs' hk ek z hz => ?_⟩
          · rcases (mem6 z).mp hz with c | c
            · exact sub3 z c
            · obtain ⟨n, ln, en⟩ := List.getElem_of_mem (reach_in z c)
              exact in_all egs (List.getElem?_eq_some_iff.mpr ⟨ln, en⟩)
          · by_cases ci : k < i
            · exact (mem6 z).mpr (.inl (don3 k gs' ci ek z hz))
            · have e3 : k = i := by omega
              subst e3
              rw [egs] at ek
              cases ek
              exact (mem6 z).mpr (.inr (reach_sub inc3 z hz))
      · rintro σ H3 ⟨v3, v4, v5, v6, kvs1, dn1, ⟨rfl, sm3, hd3, dc3, nd3, sub3⟩, inc3, don3⟩
        have l0 := nd_len nd inc3
        have l1 := nd_len nd3 sub3
        rw [List.length_map] at l1 don3
        rw [hts] at don3
        by_cases cl : (dn.length : Int) < (dn1.length : Int)
        · refine ⟨_, ?_, (dn.length : Int), v3, v4, v5, v6, kvs1, dn1, ⟨rfl, sm3, hd3, dc3, nd3, sub3⟩, rfl, .inl cl⟩
          rw [if_pos cl, em]
          omega
        · have back := nd_more nd nd3 inc3 (by omega)
          refine ⟨_, ?_, (dn.length : Int), v3, v4, v5, v6, kvs1, dn1, ⟨rfl, sm3, hd3, dc3, nd3, sub3⟩, rfl, .inr fun i gs e x hx => ?_⟩
          · rw [if_neg cl, em]
            omega
          · exact don3 i gs ((List.getElem?_eq_some_iff.mp e).1) e x (reach_sub back x hx)
    · rw [decide_eq_false c]
      refine ⟨_, rfl, q H2 d kvs dn sm nD hd dc nd fun g => ⟨sub g, fun hg => hV.rest (fx.resolve_left c) g hg⟩⟩
end
end Up

set_option Elab.async false
set_option linter.all false
set_option maxRecDepth 100000
set_option maxHeartbeats 4000000
/-! an own class's == against anything, the other way round, and != -/
namespace Up
open PySem PySem.Spec PyProof.Rows L2 PySem.SeqAt
section
variable {prog : Program} {w : World} {A : Around} {E : Value → Shared → Prop} {K : PySem.W.Frag}
/-- a text and an int stand as values -/
def Form (T : String) (u : Value) : Prop := (T = "str" → ∃ z t, u = .str z t) ∧ (T = "int" → ∃ i t, u = .int i t)
/-- how a builtin type's == declines an instance of the class at C -/
structure Decl (K : PySem.W.Frag) (C : Addr) (T : String) : Prop where
  slot : ∃ (id : String) (B : Builtin), Slot T "__eq__" id ∧ entryFor table id = some B ∧ (∀ u v, argsOk id ⟨[u, v], []⟩) ∧
    ∀ {prog : Program} {w : World} {A : Around} {E : Value → Shared → Prop} {Q : PySem.Fin → Shared → Prop} {s : Shared} {u : Value} {a : Addr} {ox : Obj} {od : Option Obj}, K.In s.heap → PySem.W.InstAt s.heap a ox C od → (∀ z, ox.data ≠ .prim z) → s.TypeIs u T → Form T u → Q (.done (.ret .notImplemented)) s →
      wpAny (model prog w) A (B ⟨[u, .ref a], []⟩) Q E s
  sub : PySem.W.subIn K (.ref C) (.type T) = some false
theorem notInst {M : Model} {h : Heap} {a C : Addr} {ox : Obj} {od : Option Obj} {T : String} (X : K.In h) (J : PySem.W.InstAt h a ox C od) (e : PySem.W.subIn K (.ref C) (.type T) = some false) : PySem.W.Looks M h (isInstance (.ref a) (.type T)) false :=
  J.type.andThen (PySem.W.looks_subIn X e)
theorem decl_list {C : Addr} (e : PySem.W.subIn K (.ref C) (.type "list") = some false) : Decl K C "list" := by
  refine ⟨⟨_, _, F.slot_list_eq, F.entry_list_eq, fun u v => F.args_list_eq_2 u v, ?_⟩, e⟩
  intro prog w A E Q s u a ox od X J np hT hF hq
  have L := PySem.W.looks_subIn (M := model prog w) X e
  obtain ⟨ho, hc, _⟩ := J
  obtain ⟨cls, dict, data, slots⟩ := ox
  simp only at hc np
  subst hc
  obtain ⟨hp, g, d, tk, os⟩ := s
  repeat (first | exact hq | with_reducible refine wpAny_loadPart_at ho ?_ | (with_reducible refine L.at ?_) | wp_step)
theorem decl_tuple {C : Addr} (e : PySem.W.subIn K (.ref C) (.type "tuple") = some false) : Decl K C "tuple" := by
  refine ⟨⟨_, _, F.slot_tuple_eq, F.entry_tuple_eq, fun u v => F.args_tuple_eq_2 u v, ?_⟩, e⟩
  intro prog w A E Q s u a ox od X J np hT hF hq
  have L := PySem.W.looks_subIn (M := model prog w) X e
  obtain ⟨ho, hc, _⟩ := J
  obtain ⟨cls, dict, data, slots⟩ := ox
  simp only at hc np
  subst hc
  obtain ⟨hp, g, d, tk, os⟩ := s
  repeat (first | exact hq | with_reducible refine wpAny_loadPart_at ho ?_ | (with_reducible refine L.at ?_) | wp_step)
theorem decl_dict {C : Addr} (e : PySem.W.subIn K (.ref C) (.type "dict") = some false) : Decl K C "dict" := by
  refine ⟨⟨_, _, F.slot_dict_eq, F.entry_dict_eq, fun u v => F.args_dict_eq_2 u v, ?_⟩, e⟩
  intro prog w A E Q s u a ox od X J np hT hF hq
  have L := PySem.W.looks_subIn (M := model prog w) X e
  obtain ⟨ho, hc, _⟩ := J
  obtain ⟨cls, dict, data, slots⟩ := ox
  simp only at hc np
  subst hc
  obtain ⟨hp, g, d, tk, os⟩ := s
  repeat (first | exact hq | with_reducible refine wpAny_loadPart_at ho ?_ | (with_reducible refine L.at ?_) | wp_step)
theorem decl_str {C : Addr} (e : PySem.W.subIn K (.ref C) (.type "str") = some false) : Decl K C "str" := by
  refine ⟨⟨_, _, F.slot_str_eq, F.entry_str_eq, fun u v => F.args_str_eq_2 u v, ?_⟩, e⟩
  intro prog w A E Q s u a ox od X J np hT hF hq
  have L := PySem.W.looks_subIn (M := model prog w) X e
  obtain ⟨ho, hc, _⟩ := J
  obtain ⟨cls, dict, data, slots⟩ := ox
  simp only at hc np
  subst hc
  obtain ⟨hp, g, d, tk, os⟩ := s
  obtain ⟨z, t, rfl⟩ := hF.1 rfl
  cases data <;> first | exact absurd rfl (np _) | skip
  all_goals repeat (first | exact hq | with_reducible refine wpAny_loadPart_at ho ?_ | (with_reducible refine L.at ?_) | wp_step)
theorem decl_int {C : Addr} (e : PySem.W.subIn K (.ref C) (.type "int") = some false) : Decl K C "int" := by
  refine ⟨⟨_, _, F.slot_int_eq, F.entry_int_eq, fun u v => F.args_int_eq_2 u v, ?_⟩, e⟩
  intro prog w A E Q s u a ox od X J np hT hF hq
  have L := PySem.W.looks_subIn (M := model prog w) X e
  obtain ⟨ho, hc, _⟩ := J
  obtain ⟨cls, dict, data, slots⟩ := ox
  simp only at hc np
  subst hc
  obtain ⟨hp, g, d, tk, os⟩ := s
  obtain ⟨z, t, rfl⟩ := hF.2 rfl
  cases data <;> first | exact absurd rfl (np _) | skip
  all_goals repeat (first | exact hq | with_reducible refine wpAny_loadPart_at ho ?_ | (with_reducible refine L.at ?_) | wp_step)
theorem decl_NoneType {C : Addr} (e : PySem.W.subIn K (.ref C) (.type "NoneType") = some false) : Decl K C "NoneType" := by
  refine ⟨⟨_, _, F.slot_NoneType_eq, F.entry_NoneType_eq, fun u v => F.args_NoneType_eq_2 u v, ?_⟩, e⟩
  intro prog w A E Q s u a ox od X J np hT hF hq
  have L := PySem.W.looks_subIn (M := model prog w) X e
  obtain ⟨ho, hc, _⟩ := J
  obtain ⟨cls, dict, data, slots⟩ := ox
  simp only at hc np
  subst hc
  obtain ⟨hp, g, d, tk, os⟩ := s
  repeat (first | exact hq | with_reducible refine wpAny_loadPart_at ho ?_ | (with_reducible refine L.at ?_) | wp_step)
end
end Up

set_option Elab.async false
set_option linter.all false
set_option maxRecDepth 100000
set_option maxHeartbeats 4000000
/-! an own class's == against anything, the other way round, and != -/
namespace Up
open PySem PySem.Spec PyProof.Rows L2 PySem.SeqAt
section
variable {X : Cx} {CX : CXT} {C f : Addr} {n : Nat} {sp : Sp} {E : XK}
theorem looks_type {M : Model} {s : Shared} {u : Value} {T : String} (h : s.TypeIs u T) : PySem.W.Looks M s.heap (typeOf u) (.type T) := by
  cases u with
  | ref a =>
    obtain ⟨o, h1, h2⟩ := (show ∃ o, s.heap.get? a = some o ∧ o.cls = .type T from h)
    have L : PySem.W.Looks M s.heap (loadPart a (some headPart)) o := .ld h1
    exact L.andThen (by rw [h2]; exact .now)
  | _ => exact .of_pure h
theorem form_of {K : PySem.W.Frag} {H : Hp} {x : V} {u : Value} {T : String} (t : TyB K H x T) (r : RelV x u) : Form T u := by
  cases t <;> refine ⟨fun e => ?_, fun e => ?_⟩ <;> first | exact absurd e (by decide) | skip
  all_goals exact ⟨_, r⟩
/-- the callee runs, inside a builtin -/
theorem runR_in1 {pins : List (Addr × Obj)} {σ : L2.St} {H : Hp} {s : Shared} {Q : VK} {us : List Value} {vs : List V} (F : FnR X.prog X.w X.K X.mg X.base CX n f sp) (hr : Room n X.A.in1) (hx : Passes CX X E) (I : Inv X pins σ H s) (r : Vals vs us) (h : sp vs H Q E) :
    codeAny (model X.prog X.w) X.A.in1 (.call (.ref f) ⟨us, []⟩) (fun r s' => match r with | .ok (.ret v) => EP X pins σ Q v s' | .ok _ => False | .error e => X.xe e s') s := by
  refine codeAny_mono (F X.A.in1 X.stack s H us vs Q E hr I.env0.in1 r h) fun r s' hq => ?_
  cases r with
  | error e => exact hx pins σ H s e s' I hq
  | ok fl =>
    cases fl with
    | ret u => exact I.after hq
    | next => exact False.elim hq
    | brk => exact False.elim hq
    | cont => exact False.elim hq
/-- what is known of a value's type -/
inductive TyY (K : PySem.W.Frag) (H : Hp) : V → Value → Prop where
  | b {x : V} {T : String} (t : TyB K H x T) : TyY K H x (.type T)
  | i {b C dx : Addr} {fs : List (Str × V)} (e : H b = some (.ins C dx fs)) : TyY K H (.ref b) (.ref C)
theorem TyY.looks {pins : List (Addr × Obj)} {σ : L2.St} {H : Hp} {s : Shared} {x : V} {u t : Value} {M : Model} (I : Inv X pins σ H s) (r : RelV x u) (y : TyY X.K H x t) : PySem.W.Looks M s.heap (typeOf u) t := by
  cases y with
  | b t => exact looks_type (t.is I r)
  | i e =>
    obtain rfl : u = Value.ref _ := r
    obtain ⟨mA, O, _⟩ := ins_get I.hok e
    obtain ⟨od, J, _⟩ := O.look
    exact J.type
/-- x == y, x an instance of the class at C -/
def rEqO (K : PySem.W.Frag) (C : Addr) (sp : Sp) (E : XK) : R2 := fun x y H Q => ∃ (a dx : Addr) (fs : List (Str × V)) (t : Value), x = .ref a ∧ H a = some (.ins C dx fs) ∧ TyY K H y t ∧ PySem.W.notFirst K C t = true ∧ sp [x, y] H Q E
theorem op_eqO (hs : PySem.W.findIn X.K (.ref C) "__eq__" = some (some (.ref f))) (hf : PySem.W.isFn X.K (.ref f) = true) (F : FnR X.prog X.w X.K X.mg X.base CX n f sp) (hr : Room n X.A) (hx : Passes CX X E) : OpR X (compareOp .Eq) (rEqO X.K C sp E) := by
  intro pins s σ H x y v u Q I rx ry h
  obtain ⟨a, dx, fs, t, rfl, ha, ht, hn, q⟩ := h
  obtain rfl : v = Value.ref a := rx
  obtain ⟨mA, O, _⟩ := ins_get I.hok ha
  obtain ⟨od, J, _⟩ := O.look
  obtain ⟨m, hF⟩ := I.fr
  show wpAny (model X.prog X.w) X.A (richCompare .Eq (.ref a) u) (EP X pins σ Q) X.xe s
  refine PySem.W.cmp_K (op := .Eq) (tb := t) hr.units0 hF I.ok.mod.kin J (ht.looks I ry) hn hs hf ?_
  refine wpAny_mono (wpAny_call (run_fnR (us := [.ref a, u]) (vs := [.ref a, y]) F hr hx I (.cons rfl (.cons ry .nil)) q)) (fun w s' z => ?_) fun _ _ x => x
  obtain ⟨z', H', I', rz, qz⟩ := z
  exact SlX.cmpback rz ⟨z', H', I', rz, qz⟩
/-- x == y, y an instance of the class at C, x of a builtin type -/
def rEqR (K : PySem.W.Frag) (C : Addr) (sp : Sp) (E : XK) : R2 := fun x y H Q => ∃ (a dx : Addr) (fs : List (Str × V)) (T : String), y = .ref a ∧ H a = some (.ins C dx fs) ∧ TyB K H x T ∧ Decl K C T ∧ sp [y, x] H Q E
theorem op_eqR (hs : PySem.W.findIn X.K (.ref C) "__eq__" = some (some (.ref f))) (hf : PySem.W.isFn X.K (.ref f) = true) (F : FnR X.prog X.w X.K X.mg X.base CX n f sp) (hr : Room n X.A) (hx : Passes CX X E) : OpR X (compareOp .Eq) (rEqR X.K C sp E) := by
  intro pins s σ H x y v u Q I rx ry h
  obtain ⟨a, dx, fs, T, rfl, ha, ht, D, q⟩ := h
  obtain rfl : u = Value.ref a := ry
  obtain ⟨mA, O, _⟩ := ins_get I.hok ha
  obtain ⟨od, J, _⟩ := O.look
  have hT := ht.is I rx
  have LT : PySem.W.Looks (model X.prog X.w) s.heap (typeOf v) (.type T) := looks_type hT
  obtain ⟨id, B, S, hB, hA, hD⟩ := D.slot
  have two : wpAny (model X.prog X.w) X.A (tryCompare (.ref a) "__eq__" v) (fun r s' => ∃ z, r = some z ∧ EP X pins σ Q z s') X.xe s := by
    unfold tryCompare
    refine wpAny_bind (PySem.W.ifBound_K I.kIn J hs hf (wpAny_mono (wpAny_call (run_fnR (us := [.ref a, v]) (vs := [.ref a, x]) F hr hx I (.cons rfl (.cons rx .nil)) q)) (fun z s' hz => ?_) fun _ _ e => e))
    obtain ⟨z', H', I', rz, qz⟩ := hz
    have back := SlX.cmpback rz (P := EP X pins σ Q) ⟨z', H', I', rz, qz⟩
    cases z <;> first | exact back.elim | exact wpAny_pure ⟨_, rfl, back⟩
  show wpAny (model X.prog X.w) X.A (richCompare .Eq v (.ref a)) (EP X pins σ Q) X.xe s
  unfold richCompare
  rw [hT.oneThing_none]
  refine wpAny_holding (wpAny_bind (wpAny_cRoomFor hr.units0 ?_))
  refine wpAny_bind (LT.here (wpAny_bind (J.type.here ?_)))
  have ne : ((Value.type T) != (Value.ref C)) = true := rfl
  simp only [ne, if_true]
  refine wpAny_bind ((PySem.W.looks_subIn I.kIn D.sub).here ?_)
  simp only [Bool.false_eq_true, if_false]
  refine wpAny_bind ?_
  have one : wpAny (model X.prog X.w) X.A (tryCompare v (cmpInfo .Eq).2.1 (.ref a)) (fun r s' => r = none ∧ s' = s) X.xe s := by
    unfold tryCompare
    refine wpAny_bind (wpAny_callSpecialIfBound?_slot hT S (wpAny_call (codeAny_call_builtin S.plain hB (S.check _ _ _ _ _ _ _ _ hT (hA _ _) (hD I.kIn J (fun z c => nomatch c) hT (form_of ht rx) ?_)))))
    exact wpAny_pure ⟨rfl, rfl⟩
  refine wpAny_mono one (fun r s' z => ?_) fun _ _ e => e
  obtain ⟨rfl, rfl⟩ := z
  refine wpAny_bind (wpAny_mono two (fun r s' z => ?_) fun _ _ e => e)
  obtain ⟨z, rfl, hz⟩ := z
  exact wpAny_pure hz
/-- x != y, both instances of the class at C -/
def rNeO (C : Addr) (sp : Sp) (E : XK) : R2 := fun x y H Q => ∃ (a dx b dy : Addr) (fs gs : List (Str × V)), x = .ref a ∧ y = .ref b ∧ H a = some (.ins C dx fs) ∧ H b = some (.ins C dy gs) ∧ sp [x, y] H (fun v H' => ∃ r : Bool, v = .bl r ∧ Q (.bl (!r)) H') E
theorem op_neO (hs : PySem.W.findIn X.K (.ref C) "__eq__" = some (some (.ref f))) (hf : PySem.W.isFn X.K (.ref f) = true) (hne : PySem.W.findIn X.K (.ref C) "__ne__" = some (some (.builtin "object.__ne__"))) (hmo : PySem.W.mroIn X.K C (.type "object") = some true)
    (F : FnR X.prog X.w X.K X.mg X.base CX n f sp) (hr : Room (n + 1) X.A) (hx : Passes CX X E) : OpR X (compareOp .NotEq) (rNeO C sp E) := by
  intro pins s σ H x y v u Q I rx ry h
  obtain ⟨a, dx, b, dy, fs, gs, rfl, rfl, ha, hb, q⟩ := h
  obtain rfl : v = Value.ref a := rx
  obtain rfl : u = Value.ref b := ry
  obtain ⟨mA, O, _⟩ := ins_get I.hok ha
  obtain ⟨od, J, _⟩ := O.look
  obtain ⟨mB, O', _⟩ := ins_get I.hok hb
  obtain ⟨od', J', _⟩ := O'.look
  show wpAny (model X.prog X.w) X.A (richCompare .NotEq (.ref a) (.ref b)) (EP X pins σ Q) X.xe s
  unfold richCompare
  simp only [oneThing_ref]
  refine wpAny_holding (wpAny_bind (wpAny_cRoomFor hr.units0 ?_))
  refine wpAny_bind (J.type.here (wpAny_bind (J'.type.here ?_)))
  rw [show (Value.ref C != Value.ref C) = false by simp]
  simp only [Bool.false_eq_true, if_false]
  refine wpAny_bind (wpAny_pure ?_)
  simp only [Bool.false_eq_true, if_false]
  refine wpAny_bind ?_
  have sub : PySem.W.Looks (model X.prog X.w) s.heap (isInstance (.ref a) (.type "object")) true := J.type.andThen (PySem.W.looks_mroIn I.kIn hmo)
  have hu := hr.units0
  have one : wpAny (model X.prog X.w) X.A (tryCompare (.ref a) (cmpInfo .NotEq).2.1 (.ref b)) (fun r s' => ∃ z, r = some z ∧ EP X pins σ Q z s') X.xe s := by
    unfold tryCompare
    have st : wpAny (model X.prog X.w) X.A (callSpecialIfBound? (.ref a) (cmpInfo .NotEq).2.1 [.ref b]) (fun o s' => ∃ z, o = some (.bool z) ∧ EP X pins σ Q (.bool z) s') X.xe s := by
      simp only [callSpecialIfBound?, bindSpecialIfBound?]
      refine wpAny_holding (wpAny_bind (wpAny_bind (wpAny_bind (J.type.here ((PySem.W.looks_findIn I.kIn hne).here ?_)))))
      simp only [PySem.F.cmp_object.ne.bind]
      have fin : wpAny (model X.prog X.w) X.A (call (.builtin "object.__ne__") ([.ref a] ++ [.ref b]) >>= fun v => pure (some v)) (fun o s' => ∃ z, o = some (.bool z) ∧ EP X pins σ Q (.bool z) s') X.xe s := by
        refine wpAny_bind (wpAny_call (codeAny_call_builtin PySem.F.cmp_object.ne.plain PySem.F.cmpEntry_ne (PySem.W.check_slot (self := .ref a) (rest := [.ref b]) (kw := []) PySem.F.cmpKind_ne PySem.F.cmpSplit_ne sub (PySem.F.cmpArgs_ne _ _) ?_)))
        obtain ⟨hp, g, d, tk, os⟩ := s
        unfold Builtin.«object.__ne__»
        have eq1 : wpAny (model X.prog X.w) X.A.in1 (callSpecialIfBound? (.ref a) "__eq__" [.ref b]) (fun o s' => ∃ r : Bool, o = some (.bool r) ∧ EP X pins σ Q (.bool (!r)) s') X.xe ⟨hp, g, d, tk, os⟩ := by
          refine PySem.W.ifBound_K I.kIn J hs hf (wpAny_mono (wpAny_call (runR_in1 F hr.in1 hx I (us := [.ref a, .ref b]) (vs := [.ref a, .ref b]) (.cons rfl (.cons rfl .nil)) q)) (fun w s' z => ?_) fun _ _ e => e)
          obtain ⟨z', H', I', rz, r, ez, qz⟩ := z
          subst ez
          obtain rfl : w = Value.bool r := rz
          exact ⟨r, rfl, .bl (!r), H', I', rfl, qz⟩
        have hu1 : X.A.in1.units < cLine := hr.in1.units0
        repeat (first | with_reducible refine wpAny_cRoomFor hu1 ?_ | refine wpAny_bind (m := callSpecialIfBound? (.ref a) (Str.ofString "__eq__") [.ref b]) (wpAny_mono eq1 (fun o s' hz => ?_) fun _ _ e => e) | wp_step)
        obtain ⟨r, rfl, hz⟩ := hz
        refine wpAny_bind (m := truthy (.bool r)) (wpAny_truthy_bool ?_)
        exact wpAny_pure (wpAny_pure ⟨_, rfl, hz⟩)
      refine wpAny_bind (wpAny_askSetting (wpAny_ite ?_))
      split
      · exact wpAny_bind (wpAny_pure (wpAny_pure fin))
      · exact wpAny_tryCatch (wpAny_bind (wpAny_pure (wpAny_pure fin)))
    refine wpAny_bind (wpAny_mono st (fun o s' z => ?_) fun _ _ e => e)
    obtain ⟨z, rfl, hz⟩ := z
    exact wpAny_pure ⟨_, rfl, hz⟩
  refine wpAny_mono one (fun r s' z => ?_) fun _ _ e => e
  obtain ⟨z, rfl, hz⟩ := z
  exact wpAny_pure hz
end
end Up

namespace Up
open PySem PySem.Spec PyProof.Rows L2
/-! ### Talk.__eq__ -/
def dgD (g : Dg) : PyData := .tuple [.str g.word, .int (g.l : Int)]
def rowD (gs : List Dg) : PyData := .tuple (gs.map dgD)
def rowsD (gss : List (List Dg)) : PyData := .tuple (gss.map rowD)
theorem DpAll.of {K : PySem.W.Frag} {H : Hp} {α : Type} {f : α → PyData} : ∀ {vs : List V} {as : List α}, vs.length = as.length → (∀ (i : Nat) v a, vs[i]? = some v → as[i]? = some a → Dp K H v (f a)) → DpAll K H vs (as.map f)
  | [], [], _, _ => .nil
  | v :: vs, a :: as, l, h => .cons (h 0 v a rfl rfl) (DpAll.of (by simpa using l) fun i v' a' e1 e2 => h (i + 1) v' a' e1 e2)
theorem RowsD.data {K : PySem.W.Frag} {H : Hp} {p : Addr} {gss : List (List Dg)} (h : RowsD H p gss) : Dp K H (.ref p) (rowsD gss) := by
  obtain ⟨ts, h1, h2, h3⟩ := h.ex
  refine .tup (.inl (.inl h1)) (DpAll.of (by rw [List.length_map]; exact h2) fun i v gs e1 e2 => ?_)
  obtain ⟨t, et, rfl⟩ := map_get e1
  obtain ⟨qs, k1, k2, k3⟩ := h3 i t gs et e2
  refine .tup (.inl (.inl k1)) (DpAll.of (by rw [List.length_map]; exact k2) fun j v g e3 e4 => ?_)
  obtain ⟨q, eq, rfl⟩ := map_get e3
  exact .tup (.inl (.inl (k3 j q g eq e4))) (.cons (.str _) (.cons (.int _) .nil))
theorem dgD_eqv (g g' : Dg) : PyData.eqv (dgD g) (dgD g') = decide (g = g') := by
  obtain ⟨s, l⟩ := g
  obtain ⟨s', l'⟩ := g'
  simp only [dgD, PyData.eqv, PyData.eqvAll, Dg.word]
  cases s <;> cases s' <;> by_cases c : l = l'
  all_goals first | subst c | skip
  all_goals simp [*]
  all_goals first | omega | decide | skip
theorem all_eqv {α : Type} [DecidableEq α] {f : α → PyData} (h : ∀ a b, PyData.eqv (f a) (f b) = decide (a = b)) : ∀ as bs : List α, PyData.eqvAll (as.map f) (bs.map f) = decide (as = bs)
  | [], [] => rfl
  | [], _ :: _ => rfl
  | _ :: _, [] => rfl
  | a :: as, b :: bs => by
    show (PyData.eqv (f a) (f b) && PyData.eqvAll (as.map f) (bs.map f)) = _
    rw [h, all_eqv h as bs]
    by_cases c : a = b <;> by_cases d : as = bs <;> simp [c, d]
theorem rowD_eqv (a b : List Dg) : PyData.eqv (rowD a) (rowD b) = decide (a = b) := by
  show PyData.eqvAll (a.map dgD) (b.map dgD) = _
  exact all_eqv dgD_eqv a b
theorem rowsD_eqv (a b : List (List Dg)) : PyData.eqv (rowsD a) (rowsD b) = decide (a = b) := by
  show PyData.eqvAll (a.map rowD) (b.map rowD) = _
  exact all_eqv rowD_eqv a b
theorem all_can {α : Type} {f : α → PyData} {n : Nat} (h : ∀ a, (f a).canLay0 = true ∧ (f a).depth ≤ n) : ∀ as : List α, PyData.canLayAll0 (as.map f) = true ∧ PyData.depthAll (as.map f) ≤ n
  | [] => by simp [PyData.canLayAll0, PyData.depthAll]
  | a :: as => by
    have h1 := h a
    have h2 := all_can h as
    simp only [List.map_cons, PyData.canLayAll0, PyData.depthAll, h1.1, h2.1, Bool.and_self, true_and]
    omega
theorem rowsD_shaped (gss : List (List Dg)) : SeqAt.shaped (rowsD gss) = true := by
  have h1 : ∀ g, (dgD g).canLay0 = true ∧ (dgD g).depth ≤ 1 := fun g => by
    have e1 : PyData.strOk g.word = true := by
      unfold Dg.word
      split <;> decide +kernel
    exact ⟨by simp only [dgD, PyData.canLay0, PyData.canLayAll0, e1]; rfl, by simp [dgD, PyData.depth, PyData.depthAll]⟩
  have h2 : ∀ gs, (rowD gs).canLay0 = true ∧ (rowD gs).depth ≤ 2 := fun gs => by
    have h := all_can h1 gs
    exact ⟨by simp only [rowD, PyData.canLay0]; exact h.1, by simp only [rowD, PyData.depth]; omega⟩
  have h := all_can h2 gss
  unfold SeqAt.shaped rowsD
  rw [Bool.and_eq_true]
  exact ⟨by simp only [PyData.canLay0]; exact h.1, decide_eq_true (by simp only [PyData.depth]; omega)⟩
/-- what a comparison sees of a talk -/
structure RowsOf (H : Hp) (x C : Addr) (gss : List (List Dg)) : Prop where
  ex : ∃ (dx r : Addr) (fs : List (Str × V)), H x = some (.ins C dx fs) ∧ fs.lookup ("rows" : Str) = some (.ref r) ∧ RowsD H r gss
theorem RowsOf.same {H H' : Hp} {x C : Addr} {gss : List (List Dg)} (s : Same H H') (h : RowsOf H x C gss) : RowsOf H' x C gss := by
  obtain ⟨dx, r, fs, h1, h2, h3⟩ := h.ex
  exact ⟨dx, r, fs, s _ _ h1, h2, h3.same s⟩
theorem TalkAt.rows {H : Hp} {x C : Addr} {gss : List (List Dg)} {many : Nat} {S G : Nat → Nat} {Ck : Dg → List Int} (t : TalkAt H x C gss many S G Ck) : RowsOf H x C gss := by
  obtain ⟨dx, r, p, s, g, c, kvs, ckv, dn, h1, h2, _⟩ := t.ex
  exact ⟨dx, r, _, h1, rfl, h2⟩
/-- what is asked of the class for isinstance(.., Talk) -/
structure IsTalk (K : PySem.W.Frag) (C : Addr) : Prop where
  ha : PySem.W.findIn K (.ref C) "__class__" = some (some (.builtin "object.__class__"))
  hn : PySem.W.specialIn K (.builtin "object.__class__") "__get__" = some (some (.builtin "getset_descriptor.__get__"))
  htk : PySem.W.takesIn K (.builtin "object.__class__") = some true
  hm : PySem.W.mroIn K C (.type "object") = some true
  self : PySem.W.kitOne K (.ref C) (.ref C) = some true
def spTEq (K : PySem.W.Frag) (C : Addr) : Sp := fun vs H Q _ => ∃ (x : Addr) (y : V) (gss : List (List Dg)), vs = [.ref x, y] ∧ RowsOf H x C gss ∧
  ((∃ t : Value, TyX K H y t ∧ PySem.W.kitOne K t (.ref C) = some false ∧ Q (.bl false) H) ∨ ∃ (z : Addr) (gss' : List (List Dg)), y = .ref z ∧ RowsOf H z C gss' ∧ Q (.bl (decide (gss = gss'))) H)
section
variable {P : Program} {w : World} {K : PySem.W.Frag} {mg : Str → Option Value} {base : Heap}
theorem ok_teq {f C fCo fPl fCn fCh fHa fCl : Addr} {fd : FuncData} (F : Fun K "__eq__" "Talk.__eq__" s_teq f fd) (T : TxtT K mg C fCo fPl fCn fCh fHa fCl) (J : IsTalk K C) : FnOk P w K mg base CX0 1 f fd ["self", "other"] (spTEq K C) := by
  refine F.ok sc_teq (fun vs H Q E h => ?_) (fun cdv A outer s H vs Q E hr h => ?_)
  · obtain ⟨x, y, gss, rfl, _⟩ := h
    rfl
  · obtain ⟨x, y, gss, rfl, hx, h⟩ := h
    have hu : (A.deeper (envOfC "Talk.__eq__" (defScope s_teq) s.heap.objs.size f cdv)).units + 64 < cLine := by
      have := hr.un
      omega
    refine ⟨_, (pss_one (ps_ret (pe_and (pe_callB call_isi (by rfl) T.isinstance bb_isinstance (pa_cons (pv 1) (pa_cons (pe_glob (v := .ref C) rfl T.g_Talk rfl) pa_nil))) (pe_one (pe_cmpR (op_eqD hu) (pe_fld (pv 0) rfl) (pe_fld (pv 1) rfl) (nomark _)))))), ?_⟩
    obtain ⟨dx, r, fs, ex, er, hR⟩ := hx.ex
    rcases h with ⟨t, ht, ek, q⟩ | ⟨z, gss', rfl, hz, q⟩
    · exact ⟨_, rfl, _, _, _, _, _, rfl, .own C, ht, ek, false, rfl, q⟩
    · obtain ⟨dz, r', fz, ez, er', hR'⟩ := hz.ex
      refine ⟨_, rfl, _, _, _, _, _, rfl, .own C, .base (.ins ez T.cl J.ha J.hn J.htk J.hm), J.self, true, rfl, ?_⟩
      rw [if_pos rfl]
      refine ⟨_, rfl, x, C, dx, fs, _, rfl, ex, T.cl, T.nRows, er, _, rfl, z, C, dz, fz, _, rfl, ez, T.cl, T.nRows, er', _, _, hR.data, hR'.data, rowsD_shaped _, rowsD_shaped _, ?_⟩
      rw [rowsD_eqv]
      exact q
end
end Up

/-! defs read as plain functions: values as trees, expressions as functions of the names' values -/
namespace Up
open PySem PySem.Spec PyProof.Rows L2
/-- where the classes stand, and the world -/
structure Cm where
  cls : Nat → Addr
  w : World
inductive Val where
  | non
  | bl (b : Bool)
  | int (i : Int)
  | str (x : Str)
  | lst (xs : List Val)
  | tup (xs : List Val)
  | dct (ks : List (List Key)) (xs : List Val)
  | ins (c : Nat) (ns : List Str) (xs : List Val)
  | set (xs : List Int)
/-- the tree of a value; nothing of it stands where P holds -/
inductive Rep (cm : Cm) (P : Addr → Prop) (H : Hp) : Bool → List V → List Val → Prop where
  | nil : Rep cm P H false [] []
  | cons {v : V} {vs : List V} {x : Val} {xs : List Val} : Rep cm P H true [v] [x] → Rep cm P H false vs xs → Rep cm P H false (v :: vs) (x :: xs)
  | non : Rep cm P H true [.non] [.non]
  | bl (b : Bool) : Rep cm P H true [.bl b] [.bl b]
  | int (i : Int) : Rep cm P H true [.int i] [.int i]
  | str (x : Str) : Rep cm P H true [.str x] [.str x]
  | lst {a : Addr} {vs : List V} {xs : List Val} : ¬ P a → H a = some (.lst vs) → Rep cm P H false vs xs → Rep cm P H true [.ref a] [.lst xs]
  | tup {a : Addr} {vs : List V} {xs : List Val} : ¬ P a → H a = some (.tup vs) → Rep cm P H false vs xs → Rep cm P H true [.ref a] [.tup xs]
  | dct {a : Addr} {kvs : List (List Key × V)} {ks : List (List Key)} {vs : List V} {xs : List Val} : ¬ P a → H a = some (.dT kvs) → kvs.length = ks.length → vs.length = ks.length →
      (∀ (i : Nat) (k : List Key) (v : V), ks[i]? = some k → vs[i]? = some v → valV kvs k = some v) → (∀ k, k ∉ ks → valV kvs k = none) → Rep cm P H false vs xs → Rep cm P H true [.ref a] [.dct ks xs]
  | ins {a dx : Addr} {c : Nat} {fs : List (Str × V)} {xs : List Val} : ¬ P a → H a = some (.ins (cm.cls c) dx fs) → Rep cm P H false (fs.map (·.2)) xs → Rep cm P H true [.ref a] [.ins c (fs.map (·.1)) xs]
  | set {a : Addr} {S : Int → Bool} {n : Nat} {xs : List Int} : ¬ P a → H a = some (SetO cm.w a S n) → (∀ i, S i = decide (i ∈ xs)) → n = xs.length → Rep cm P H true [.ref a] [.set xs]
abbrev Re (cm : Cm) (P : Addr → Prop) (H : Hp) (v : V) (x : Val) : Prop := Rep cm P H true [v] [x]
abbrev Res (cm : Cm) (P : Addr → Prop) (H : Hp) (vs : List V) (xs : List Val) : Prop := Rep cm P H false vs xs
/-- what stands outside P stays -/
def Keep (P : Addr → Prop) (H H' : Hp) : Prop := ∀ b o, H b = some o → ¬ P b → H' b = some o
theorem Keep.of {P : Addr → Prop} {H H' : Hp} (s : Same H H') : Keep P H H' := fun b o e _ => s b o e
theorem Keep.refl {P : Addr → Prop} {H : Hp} : Keep P H H := fun _ _ e _ => e
theorem Keep.trans {P : Addr → Prop} {H H1 H2 : Hp} (a : Keep P H H1) (b : Keep P H1 H2) : Keep P H H2 := fun c o e n => b c o (a c o e n) n
section
variable {cm : Cm} {P P' : Addr → Prop} {H H' : Hp}
theorem Rep.keep (s : Keep P H H') : ∀ {b : Bool} {vs : List V} {xs : List Val}, Rep cm P H b vs xs → Rep cm P H' b vs xs := fun h => by
  induction h with
  | nil => exact .nil
  | cons _ _ i1 i2 => exact .cons i1 i2
  | non => exact .non
  | bl b => exact .bl b
  | int i => exact .int i
  | str x => exact .str x
  | lst n e _ ih => exact .lst n (s _ _ e n) ih
  | tup n e _ ih => exact .tup n (s _ _ e n) ih
  | dct n e l1 l2 g1 g2 _ ih => exact .dct n (s _ _ e n) l1 l2 g1 g2 ih
  | ins n e _ ih => exact .ins n (s _ _ e n) ih
  | set n e h1 h2 => exact .set n (s _ _ e n) h1 h2
theorem Rep.same (s : Same H H') {b : Bool} {vs : List V} {xs : List Val} (h : Rep cm P H b vs xs) : Rep cm P H' b vs xs := h.keep (.of s)
/-- less is hidden -/
theorem Rep.less (s : ∀ a, P' a → P a) : ∀ {b : Bool} {vs : List V} {xs : List Val}, Rep cm P H b vs xs → Rep cm P' H b vs xs := fun h => by
  induction h with
  | nil => exact .nil
  | cons _ _ i1 i2 => exact .cons i1 i2
  | non => exact .non
  | bl b => exact .bl b
  | int i => exact .int i
  | str x => exact .str x
  | lst n e _ ih => exact .lst (fun c => n (s _ c)) e ih
  | tup n e _ ih => exact .tup (fun c => n (s _ c)) e ih
  | dct n e l1 l2 g1 g2 _ ih => exact .dct (fun c => n (s _ c)) e l1 l2 g1 g2 ih
  | ins n e _ ih => exact .ins (fun c => n (s _ c)) e ih
  | set n e h1 h2 => exact .set (fun c => n (s _ c)) e h1 h2
theorem Res.length {vs : List V} {xs : List Val} (h : Res cm P H vs xs) : vs.length = xs.length := by
  have k : ∀ (b : Bool) (vs : List V) (xs : List Val), Rep cm P H b vs xs → b = false → vs.length = xs.length := fun b vs xs h => by
    induction h with
    | nil => exact fun _ => rfl
    | cons _ _ _ i2 => exact fun e => congrArg (· + 1) (i2 e)
    | _ => exact fun e => nomatch e
  exact k _ _ _ h rfl
theorem Res.get : ∀ {vs : List V} {xs : List Val} {i : Nat} {x : Val}, Res cm P H vs xs → xs[i]? = some x → ∃ v, vs[i]? = some v ∧ Re cm P H v x
  | _, _, i, _, .nil, e => by simp at e
  | _, _, 0, _, .cons h _, e => by
    simp at e
    subst e
    exact ⟨_, rfl, h⟩
  | _, _, i + 1, _, .cons _ t, e => by
    obtain ⟨v, h1, h2⟩ := Res.get (i := i) t (by simpa using e)
    exact ⟨v, by simpa using h1, h2⟩
theorem Res.getV {vs : List V} {xs : List Val} {i : Nat} {v : V} (h : Res cm P H vs xs) (e : vs[i]? = some v) : ∃ x, xs[i]? = some x ∧ Re cm P H v x := by
  have lt := (List.getElem?_eq_some_iff.mp e).1
  rw [h.length] at lt
  obtain ⟨v', h1, h2⟩ := h.get (List.getElem?_eq_getElem lt)
  rw [e] at h1
  cases h1
  exact ⟨_, List.getElem?_eq_getElem lt, h2⟩
theorem Res.of : ∀ {vs : List V} {xs : List Val}, vs.length = xs.length → (∀ (i : Nat) v x, vs[i]? = some v → xs[i]? = some x → Re cm P H v x) → Res cm P H vs xs
  | [], [], _, _ => .nil
  | v :: vs, x :: xs, l, h => .cons (h 0 v x rfl rfl) (Res.of (by simpa using l) fun i v' x' e1 e2 => h (i + 1) v' x' e1 e2)
theorem Res.append : ∀ {vs ws : List V} {xs ys : List Val}, Res cm P H vs xs → Res cm P H ws ys → Res cm P H (vs ++ ws) (xs ++ ys)
  | _, _, _, _, .nil, s => s
  | _, _, _, _, .cons r t, s => .cons r (Res.append t s)
theorem Res.snoc {vs : List V} {xs : List Val} {v : V} {x : Val} (h : Res cm P H vs xs) (r : Re cm P H v x) : Res cm P H (vs ++ [v]) (xs ++ [x]) := h.append (.cons r .nil)
end
/-- hidden things stand somewhere, and are no tuples -/
def NT (H : Hp) (a : Addr) : Prop := ∃ o, H a = some o ∧ ∀ vs, o ≠ .tup vs
theorem NT.ne {H : Hp} {a : Addr} (h : NT H a) : H a ≠ none := by
  obtain ⟨o, e, _⟩ := h
  rw [e]
  exact fun z => nomatch z
theorem NT.same {H H' : Hp} {a : Addr} (s : Same H H') (h : NT H a) : NT H' a := by
  obtain ⟨o, e, n⟩ := h
  exact ⟨o, s _ _ e, n⟩
def Hid (P : Addr → Prop) (H : Hp) : Prop := ∀ a, P a → NT H a
theorem Hid.same {P : Addr → Prop} {H H' : Hp} (s : Same H H') (h : Hid P H) : Hid P H' := fun a p => (h a p).same s
theorem Hid.new {P : Addr → Prop} {H : Hp} (h : Hid P H) {a : Addr} (n : H a = none) : ¬ P a := fun p => (h a p).ne n
theorem Hid.tup {P : Addr → Prop} {H : Hp} (h : Hid P H) {a : Addr} {vs : List V} (e : H a = some (.tup vs)) : ¬ P a := fun p => by
  obtain ⟨o, e1, n⟩ := h a p
  rw [e] at e1
  cases e1
  exact n _ rfl
/-! ### the names' values -/
abbrev En := List (Option Val)
structure Slots (cm : Cm) (P : Addr → Prop) (H : Hp) (σ : L2.St) (env : En) : Prop where
  len : σ.length = env.length
  at_ : ∀ (i : Nat) (x : Val), env[i]? = some (some x) → ∃ v, σ[i]? = some (some v) ∧ Re cm P H v x
  hid : Hid P H
section
variable {cm : Cm} {P P' : Addr → Prop} {H H' : Hp} {σ : L2.St} {env : En}
theorem Slots.keep (s : Keep P H H') (hd : Hid P H') (h : Slots cm P H σ env) : Slots cm P H' σ env := ⟨h.len, fun i x e => let ⟨v, h1, h2⟩ := h.at_ i x e; ⟨v, h1, h2.keep s⟩, hd⟩
theorem Slots.same (s : Same H H') (h : Slots cm P H σ env) : Slots cm P H' σ env := h.keep (.of s) (h.hid.same s)
theorem Slots.set (h : Slots cm P H σ env) {i : Nat} {v : V} {x : Val} (r : Re cm P H v x) : Slots cm P H (σ.set i (some v)) (env.set i (some x)) := by
  refine ⟨by rw [List.length_set, List.length_set]; exact h.len, fun j y e => ?_, h.hid⟩
  by_cases c : i = j
  · subst c
    have lt := (List.getElem?_eq_some_iff.mp e).1
    rw [List.length_set] at lt
    rw [List.getElem?_set_self lt] at e
    cases e
    exact ⟨v, List.getElem?_set_self (by rw [h.len]; exact lt), r⟩
  · rw [List.getElem?_set_ne c] at e ⊢
    exact h.at_ j y e
theorem Slots.out (h : Slots cm P H σ env) {i : Nat} {o : Option V} : Slots cm P H (σ.set i o) (env.set i none) := by
  refine ⟨by rw [List.length_set, List.length_set]; exact h.len, fun j y e => ?_, h.hid⟩
  by_cases c : i = j
  · subst c
    have lt := (List.getElem?_eq_some_iff.mp e).1
    rw [List.length_set] at lt
    rw [List.getElem?_set_self lt] at e
    cases e
  · rw [List.getElem?_set_ne c] at e ⊢
    exact h.at_ j y e
def wipeE (env : En) : List Nat → En
  | [] => env
  | v :: vs => (wipeE env vs).set v none
theorem Slots.wipe (h : Slots cm P H σ env) : ∀ vs : List Nat, Slots cm P H (L2.wipe σ vs) (wipeE env vs)
  | [] => h
  | v :: vs => (Slots.wipe h vs).out
theorem wipe_set {σ : L2.St} {i : Nat} {o : Option V} : ∀ {vs : List Nat}, i ∈ vs → L2.wipe (σ.set i o) vs = L2.wipe σ vs
  | v :: vs, h => by
    show (L2.wipe (σ.set i o) vs).set v none = (L2.wipe σ vs).set v none
    by_cases c : i ∈ vs
    · rw [wipe_set c]
    · have e : i = v := by
        rcases List.mem_cons.mp h with z | z
        · exact z
        · exact absurd z c
      subst e
      have k : ∀ (ws : List Nat), i ∉ ws → L2.wipe (σ.set i o) ws = (L2.wipe σ ws).set i o := by
        intro ws
        induction ws with
        | nil => exact fun _ => rfl
        | cons w ws ih =>
          intro hn
          have n1 : i ≠ w := fun z => hn (z ▸ List.mem_cons_self ..)
          show (L2.wipe (σ.set i o) ws).set w none = ((L2.wipe σ ws).set w none).set i o
          rw [ih fun z => hn (List.mem_cons_of_mem _ z), List.set_comm _ _ n1]
      rw [k vs c, List.set_set]
theorem wipe_wipe {σ : L2.St} : ∀ {vs ws : List Nat}, (∀ i ∈ ws, i ∈ vs) → L2.wipe (L2.wipe σ ws) vs = L2.wipe σ vs
  | vs, [], _ => rfl
  | vs, w :: ws, h => by
    show L2.wipe ((L2.wipe σ ws).set w none) vs = _
    rw [wipe_set (h w (List.mem_cons_self ..)), wipe_wipe fun i hi => h i (List.mem_cons_of_mem _ hi)]
end
/-! ### readings that are functions -/
def tV (cm : Cm) (f : En → Option Val) : TE := fun σ H Q => ∃ (P : Addr → Prop) (env : En) (x : Val), Slots cm P H σ env ∧ f env = some x ∧ ∀ v H', Same H H' → Re cm P H' v x → Q v H'
def tVT (cm : Cm) (f : En → Option Bool) : TT := fun σ H Q => ∃ (P : Addr → Prop) (env : En) (b : Bool), Slots cm P H σ env ∧ f env = some b ∧ ∀ H', Same H H' → Q b H'
def tVA (cm : Cm) (f : En → Option (List Val)) : TA := fun σ H Q => ∃ (P : Addr → Prop) (env : En) (xs : List Val), Slots cm P H σ env ∧ f env = some xs ∧ ∀ vs H', Same H H' → Res cm P H' vs xs → Q vs H'
abbrev VE (X : Cx) (cm : Cm) (e : Expr) (f : En → Option Val) : Prop := PE X e (tV cm f)
abbrev VT (X : Cx) (cm : Cm) (e : Expr) (f : En → Option Bool) : Prop := PT X e (tVT cm f)
abbrev VA (X : Cx) (cm : Cm) (es : List Expr) (f : En → Option (List Val)) : Prop := PA X es (tVA cm f)
section
variable {X : Cx} {cm : Cm} {a b c e : Expr} {es : List Expr} {f g h : En → Option Val} {pos : Pos}
theorem _root_.L2.PE.weak {t t' : TE} (h : PE X e t) (k : ∀ σ H Q, t' σ H Q → t σ H Q) : PE X e t' := ⟨fun pins s σ H Q I q => h.run pins s σ H Q I (k σ H Q q)⟩
theorem _root_.L2.PT.weak {t t' : TT} (h : PT X e t) (k : ∀ σ H Q, t' σ H Q → t σ H Q) : PT X e t' := ⟨fun pins s σ H Q I q => h.run pins s σ H Q I (k σ H Q q)⟩
theorem _root_.L2.PA.weak {t t' : TA} (h : PA X es t) (k : ∀ σ H Q, t' σ H Q → t σ H Q) : PA X es t' := ⟨fun pos pins s σ H Q I q => h.run pos pins s σ H Q I (k σ H Q q)⟩
def getE (i : Nat) : En → Option Val := fun env => (env[i]?).join
theorem ve_var {i : Nat} {x : Str} (hN : X.N[i]? = some x) (hv : Vis X.env.scope x) (hd : (x == ("__debug__" : Str)) = false := by decide) (hcd : (x == ("__classdict__" : Str)) = false := by decide) : VE X cm (.Name x pos) (getE i) := by
  refine (pe_var hN hv hd hcd).weak fun σ H Q ⟨P, env, x, hs, hf, q⟩ => ?_
  unfold getE at hf
  obtain ⟨v, h1, h2⟩ := hs.at_ i x (by
    cases e : env[i]? with
    | none => rw [e] at hf; cases hf
    | some o =>
      rw [e] at hf
      cases o with
      | none => cases hf
      | some y => cases hf; rfl)
  exact ⟨v, h1, q v H (Same.refl H) h2⟩
def cst (x : Val) : En → Option Val := fun _ => some x
theorem ve_int {i j} : VE X cm (.Constant (.int i) j pos) (cst (.int i)) := pe_int.weak fun σ H Q ⟨P, env, x, hs, hf, q⟩ => by
  cases hf
  exact q _ H (Same.refl H) (.int i)
theorem ve_bl {k : Bool} {j} : VE X cm (.Constant (.bool k) j pos) (cst (.bl k)) := pe_bl.weak fun σ H Q ⟨P, env, x, hs, hf, q⟩ => by
  cases hf
  exact q _ H (Same.refl H) (.bl k)
theorem ve_non {j} : VE X cm (.Constant .none j pos) (cst .non) := pe_non.weak fun σ H Q ⟨P, env, x, hs, hf, q⟩ => by
  cases hf
  exact q _ H (Same.refl H) .non
theorem ve_str {z : Str} {j} : VE X cm (.Constant (.str z) j pos) (cst (.str z)) := pe_str.weak fun σ H Q ⟨P, env, x, hs, hf, q⟩ => by
  cases hf
  exact q _ H (Same.refl H) (.str z)
theorem ve_glob {x : Str} {i : Int} {t : Tok} (hg : Gl X x) (hm : X.mg x = some (.int i t)) (hd : (x == ("__debug__" : Str)) = false := by decide) : VE X cm (.Name x pos) (cst (.int i)) :=
  (pe_glob (v := .int i) hg hm ⟨t, rfl⟩ hd).weak fun σ H Q ⟨P, env, x, hs, hf, q⟩ => by
    cases hf
    exact q _ H (Same.refl H) (.int i)
/-! ### two values by an operator -/
/-- what an operator's rule gives, told by trees -/
def OpV (cm : Cm) (r : R2) (op : Val → Val → Option Val) : Prop := ∀ (P : Addr → Prop) (x y z : Val) (v u : V) (H : Hp) (Q : VK), op x y = some z → Re cm P H v x → Re cm P H u y → (∀ v' H', Same H H' → Re cm P H' v' z → Q v' H') → r v u H Q
def bin2 (op : Val → Val → Option Val) (f g : En → Option Val) : En → Option Val := fun env => (f env).bind fun x => (g env).bind fun y => op x y
theorem tV_two {r : R2} {op : Val → Val → Option Val} (o : OpV cm r op) (σ : L2.St) (H : Hp) (Q : VK) (q : tV cm (bin2 op f g) σ H Q) : tOp r (tV cm f) (tV cm g) σ H Q := by
  obtain ⟨P, env, z, hs, hf, q⟩ := q
  unfold bin2 at hf
  obtain ⟨x, ex, hf⟩ := Option.bind_eq_some_iff.mp hf
  obtain ⟨y, ey, hf⟩ := Option.bind_eq_some_iff.mp hf
  refine ⟨P, env, x, hs, ex, fun v H1 s1 r1 => ⟨P, env, y, hs.same s1, ey, fun u H2 s2 r2 => ?_⟩⟩
  exact o P x y z v u H2 Q hf (r1.same s2) r2 fun v' H3 s3 r3 => q v' H3 (s1.trans (s2.trans s3)) r3
theorem ve_op {op : Operator} {r : R2} {k : Val → Val → Option Val} (ho : OpR X (binaryOp op) r) (o : OpV cm r k) (ha : VE X cm a f) (hb : VE X cm b g) : VE X cm (.BinOp a op b pos) (bin2 k f g) := (pe_op ho ha hb).weak (tV_two o)
theorem ve_cmp {op : CmpOp} {r : R2} {k : Val → Val → Option Val} (ho : OpR X (compareOp op) r) (o : OpV cm r k) (ha : VE X cm a f) (hb : VE X cm b g) (hm : behindInMarks op b = false) : VE X cm (.Compare a [op] [b] pos) (bin2 k f g) := (pe_cmpR ho ha hb hm).weak (tV_two o)
def isB : Val → Option Bool
  | .bl b => some b
  | _ => none
def tst (f : En → Option Val) : En → Option Bool := fun env => (f env).bind isB
theorem isB_some {x : Val} {k : Bool} (h : isB x = some k) : x = .bl k := by
  cases x <;> cases h
  rfl
theorem tV_test (σ : L2.St) (H : Hp) (Q : Bool → Hp → Prop) (q : tVT cm (tst f) σ H Q) : ∀ R : VK, (∀ k H', Q k H' → R (.bl k) H') → tV cm f σ H R := fun R hR => by
  obtain ⟨P, env, k, hs, hf, q⟩ := q
  unfold tst at hf
  obtain ⟨x, ex, hf⟩ := Option.bind_eq_some_iff.mp hf
  cases isB_some hf
  refine ⟨P, env, _, hs, ex, fun v H1 s1 r1 => ?_⟩
  cases r1
  exact hR _ _ (q H1 s1)
theorem vt_cmp {op : CmpOp} {r : R2} {k : Val → Val → Option Val} (ho : OpR X (compareOp op) r) (o : OpV cm r k) (ha : VE X cm a f) (hb : VE X cm b g) (hm : behindInMarks op b = false) : VT X cm (.Compare a [op] [b] pos) (tst (bin2 k f g)) :=
  (pt_cmpR ho ha hb hm).weak fun σ H Q q => tV_two o σ H _ (tV_test σ H Q q _ fun k H' q => ⟨k, rfl, q⟩)
theorem vt_val (h : VE X cm e f) (he : ∀ whole, isTrue e X.env whole = (do let v ← whole; standAt e.pos; holding [v] (truthy v)) := by intro _; rfl) : VT X cm e (tst f) :=
  (pt_val h he).weak fun σ H Q q => tV_test σ H Q q _ fun k H' q => ⟨k, rfl, q⟩
/-! ### and, or, not; one or the other -/
def andF (f g : En → Option Val) : En → Option Val := fun env => (f env).bind fun x => (isB x).bind fun k => if k = true then g env else some (.bl false)
def orF (f g : En → Option Val) : En → Option Val := fun env => (f env).bind fun x => (isB x).bind fun k => if k = true then some (.bl true) else g env
def notF (f : En → Option Val) : En → Option Val := fun env => (f env).bind fun x => (isB x).bind fun k => some (.bl (!k))
theorem ve_one {op} (h : VE X cm a f) : VE X cm (.BoolOp op [a] pos) f := pe_one h
theorem ve_and {rest : List Expr} (ha : VE X cm a f) (hb : VE X cm (.BoolOp .And (b :: rest) pos) g) : VE X cm (.BoolOp .And (a :: b :: rest) pos) (andF f g) :=
  (pe_and ha hb).weak fun σ H Q ⟨P, env, z, hs, hf, q⟩ => by
    unfold andF at hf
    obtain ⟨x, ex, h1⟩ := Option.bind_eq_some_iff.mp hf
    obtain ⟨k, ek, h2⟩ := Option.bind_eq_some_iff.mp h1
    clear hf h1
    cases isB_some ek
    refine ⟨P, env, _, hs, ex, fun v H1 s1 r1 => ?_⟩
    cases r1
    refine ⟨k, rfl, ?_⟩
    by_cases c : k = true
    · rw [if_pos c] at h2 ⊢
      exact ⟨P, env, z, hs.same s1, h2, fun v H2 s2 r2 => q v H2 (s1.trans s2) r2⟩
    · rw [if_neg c] at h2 ⊢
      cases h2
      exact q _ H1 s1 (.bl false)
theorem ve_or {rest : List Expr} (ha : VE X cm a f) (hb : VE X cm (.BoolOp .Or (b :: rest) pos) g) : VE X cm (.BoolOp .Or (a :: b :: rest) pos) (orF f g) :=
  (pe_or ha hb).weak fun σ H Q ⟨P, env, z, hs, hf, q⟩ => by
    unfold orF at hf
    obtain ⟨x, ex, h1⟩ := Option.bind_eq_some_iff.mp hf
    obtain ⟨k, ek, h2⟩ := Option.bind_eq_some_iff.mp h1
    clear hf h1
    cases isB_some ek
    refine ⟨P, env, _, hs, ex, fun v H1 s1 r1 => ?_⟩
    cases r1
    refine ⟨k, rfl, ?_⟩
    by_cases c : k = true
    · rw [if_pos c] at h2 ⊢
      cases h2
      exact q _ H1 s1 (.bl true)
    · rw [if_neg c] at h2 ⊢
      exact ⟨P, env, z, hs.same s1, h2, fun v H2 s2 r2 => q v H2 (s1.trans s2) r2⟩
theorem ve_not (ha : VE X cm a f) : VE X cm (.UnaryOp .Not a pos) (notF f) :=
  (pe_not ha).weak fun σ H Q ⟨P, env, z, hs, hf, q⟩ => by
    unfold notF at hf
    obtain ⟨x, ex, h1⟩ := Option.bind_eq_some_iff.mp hf
    obtain ⟨k, ek, h2⟩ := Option.bind_eq_some_iff.mp h1
    clear hf h1
    cases isB_some ek
    cases h2
    refine ⟨P, env, _, hs, ex, fun v H1 s1 r1 => ?_⟩
    cases r1
    exact ⟨k, rfl, q _ H1 s1 (.bl _)⟩
abbrev VW (X : Cx) (cm : Cm) (e : Expr) (f : En → Option Bool) : Prop := PW X e (tVT cm f)
theorem _root_.L2.PW.weak {t t' : TT} (h : PW X e t) (k : ∀ σ H Q, t' σ H Q → t σ H Q) : PW X e t' := ⟨fun wh pins s σ H Q I q => h.run wh pins s σ H Q I (k σ H Q q)⟩
def andT (f g : En → Option Bool) : En → Option Bool := fun env => (f env).bind fun k => if k = true then g env else some false
def orT (f g : En → Option Bool) : En → Option Bool := fun env => (f env).bind fun k => if k = true then some true else g env
def notT (f : En → Option Bool) : En → Option Bool := fun env => (f env).bind fun k => some (!k)
theorem vw_and1 {f : En → Option Bool} (ha : VT X cm a f) : VW X cm (.BoolOp .And [a] pos) f := pw_and1 ha
theorem vw_or1 {f : En → Option Bool} (ha : VT X cm a f) : VW X cm (.BoolOp .Or [a] pos) f := pw_or1 ha
theorem vw_and {f g : En → Option Bool} {rest : List Expr} (ha : VT X cm a f) (hb : VW X cm (.BoolOp .And (b :: rest) pos) g) : VW X cm (.BoolOp .And (a :: b :: rest) pos) (andT f g) :=
  (pw_and ha hb).weak fun σ H Q ⟨P, env, z, hs, hf, q⟩ => by
    unfold andT at hf
    obtain ⟨k, ek, hf⟩ := Option.bind_eq_some_iff.mp hf
    refine ⟨P, env, k, hs, ek, fun H1 s1 => ?_⟩
    by_cases c : k = true
    · rw [if_pos c] at hf ⊢
      exact ⟨P, env, z, hs.same s1, hf, fun H2 s2 => q H2 (s1.trans s2)⟩
    · rw [if_neg c] at hf ⊢
      cases hf
      exact q H1 s1
theorem vw_or {f g : En → Option Bool} {rest : List Expr} (ha : VT X cm a f) (hb : VW X cm (.BoolOp .Or (b :: rest) pos) g) : VW X cm (.BoolOp .Or (a :: b :: rest) pos) (orT f g) :=
  (pw_or ha hb).weak fun σ H Q ⟨P, env, z, hs, hf, q⟩ => by
    unfold orT at hf
    obtain ⟨k, ek, hf⟩ := Option.bind_eq_some_iff.mp hf
    refine ⟨P, env, k, hs, ek, fun H1 s1 => ?_⟩
    by_cases c : k = true
    · rw [if_pos c] at hf ⊢
      cases hf
      exact q H1 s1
    · rw [if_neg c] at hf ⊢
      exact ⟨P, env, z, hs.same s1, hf, fun H2 s2 => q H2 (s1.trans s2)⟩
theorem vt_not {f : En → Option Bool} (ha : VT X cm a f) : VT X cm (.UnaryOp .Not a pos) (notT f) :=
  (pt_not ha).weak fun σ H Q ⟨P, env, z, hs, hf, q⟩ => by
    unfold notT at hf
    obtain ⟨k, ek, hf⟩ := Option.bind_eq_some_iff.mp hf
    cases hf
    exact ⟨P, env, k, hs, ek, fun H1 s1 => q H1 s1⟩
def iteF (c : En → Option Bool) (f g : En → Option Val) : En → Option Val := fun env => (c env).bind fun k => if k = true then f env else g env
theorem ve_ite {k : En → Option Bool} (hc : VT X cm c k) (ha : VE X cm a f) (hb : VE X cm b g) : VE X cm (.IfExp c a b pos) (iteF k f g) :=
  (pe_ifExp hc ha hb).weak fun σ H Q ⟨P, env, z, hs, hf, q⟩ => by
    unfold iteF at hf
    obtain ⟨k, ek, hf⟩ := Option.bind_eq_some_iff.mp hf
    refine ⟨P, env, k, hs, ek, fun H1 s1 => ?_⟩
    by_cases c : k = true
    · rw [if_pos c] at hf ⊢
      exact ⟨P, env, z, hs.same s1, hf, fun v H2 s2 => q v H2 (s1.trans s2)⟩
    · rw [if_neg c] at hf ⊢
      exact ⟨P, env, z, hs.same s1, hf, fun v H2 s2 => q v H2 (s1.trans s2)⟩
/-! ### lists of arguments, tuples, lists -/
def noF : En → Option (List Val) := fun _ => some []
def consF (f : En → Option Val) (g : En → Option (List Val)) : En → Option (List Val) := fun env => (f env).bind fun x => (g env).bind fun xs => some (x :: xs)
theorem va_nil : VA X cm [] noF := pa_nil.weak fun σ H Q ⟨P, env, z, hs, hf, q⟩ => by
  cases hf
  exact q [] H (Same.refl H) .nil
theorem va_cons {k : En → Option (List Val)} (ha : VE X cm e f) (hr : VA X cm es k) (hs : starEach (e :: es) X.env = (false, eval e X.env) :: starEach es X.env := by rfl) : VA X cm (e :: es) (consF f k) :=
  (pa_cons ha hr hs).weak fun σ H Q ⟨P, env, z, hs, hf, q⟩ => by
    unfold consF at hf
    obtain ⟨x, ex, hf⟩ := Option.bind_eq_some_iff.mp hf
    obtain ⟨xs, ey, hf⟩ := Option.bind_eq_some_iff.mp hf
    cases hf
    exact ⟨P, env, x, hs, ex, fun v H1 s1 r1 => ⟨P, env, xs, hs.same s1, ey, fun vs H2 s2 r2 => q (v :: vs) H2 (s1.trans s2) (.cons (r1.same s2) r2)⟩⟩
/-- a new place, not hidden -/
def most : Nat := 100000
theorem most_line {n : Nat} (h : n ≤ most) : n < sizeLine := by
  unfold most at h
  rw [sizeLine_eq]
  omega
def tupF (g : En → Option (List Val)) : En → Option Val := fun env => (g env).bind fun xs => if xs.length ≤ most then some (.tup xs) else none
def lstF (g : En → Option (List Val)) : En → Option Val := fun env => (g env).bind fun xs => if xs.length ≤ most then some (.lst xs) else none
end
end Up

namespace Up
open PySem PySem.Spec PyProof.Rows L2
section
variable {cm : Cm} {P : Addr → Prop} {H : Hp}
theorem Re.int_ {v : V} {i : Int} (h : Re cm P H v (.int i)) : v = .int i := by cases h; rfl
theorem Re.bl_ {v : V} {k : Bool} (h : Re cm P H v (.bl k)) : v = .bl k := by cases h; rfl
theorem Re.str_ {v : V} {z : Str} (h : Re cm P H v (.str z)) : v = .str z := by cases h; rfl
theorem Re.non_ {v : V} (h : Re cm P H v .non) : v = .non := by cases h; rfl
theorem Re.lst_ {v : V} {xs : List Val} (h : Re cm P H v (.lst xs)) : ∃ a vs, v = .ref a ∧ ¬ P a ∧ H a = some (.lst vs) ∧ Res cm P H vs xs := by
  cases h with
  | lst n e r => exact ⟨_, _, rfl, n, e, r⟩
theorem Re.tup_ {v : V} {xs : List Val} (h : Re cm P H v (.tup xs)) : ∃ a vs, v = .ref a ∧ ¬ P a ∧ H a = some (.tup vs) ∧ Res cm P H vs xs := by
  cases h with
  | tup n e r => exact ⟨_, _, rfl, n, e, r⟩
theorem Res.one {vs : List V} {x : Val} (h : Res cm P H vs [x]) : ∃ v, vs = [v] ∧ Re cm P H v x := by
  cases h with
  | cons r t =>
    cases t
    exact ⟨_, rfl, r⟩
theorem Res.two {vs : List V} {x y : Val} (h : Res cm P H vs [x, y]) : ∃ v u, vs = [v, u] ∧ Re cm P H v x ∧ Re cm P H u y := by
  cases h with
  | cons r t =>
    obtain ⟨u, rfl, r2⟩ := Res.one t
    exact ⟨_, _, rfl, r, r2⟩
end
/-! ### operators -/
section
variable {cm : Cm}
def iop (g : Int → Int → Val) : Val → Val → Option Val
  | .int i, .int j => some (g i j)
  | _, _ => none
theorem iop_some {g : Int → Int → Val} {x y z : Val} (h : iop g x y = some z) : ∃ i j, x = .int i ∧ y = .int j ∧ z = g i j := by
  unfold iop at h
  split at h
  · cases h
    exact ⟨_, _, rfl, rfl, rfl⟩
  · cases h
theorem ov_I0 {g : Int → Int → V} {k : Int → Int → Val} (hk : ∀ i j (P : Addr → Prop) (H : Hp), Re cm P H (g i j) (k i j)) : OpV cm (rI0 g) (iop k) := fun P x y z v u H Q e rx ry q => by
  obtain ⟨i, j, rfl, rfl, rfl⟩ := iop_some e
  cases rx.int_
  cases ry.int_
  exact ⟨i, j, rfl, rfl, q _ H (Same.refl H) (hk i j P H)⟩
theorem ov_add : OpV cm (rI0 fun i j => .int (i + j)) (iop fun i j => .int (i + j)) := ov_I0 fun i j P H => .int _
theorem ov_sub : OpV cm (rI0 fun i j => .int (i - j)) (iop fun i j => .int (i - j)) := ov_I0 fun i j P H => .int _
theorem ov_lt : OpV cm (rI0 fun i j => .bl (decide (i < j))) (iop fun i j => .bl (decide (i < j))) := ov_I0 fun i j P H => .bl _
theorem ov_le : OpV cm (rI0 fun i j => .bl (decide (i ≤ j))) (iop fun i j => .bl (decide (i ≤ j))) := ov_I0 fun i j P H => .bl _
theorem ov_gt : OpV cm (rI0 fun i j => .bl (decide (j < i))) (iop fun i j => .bl (decide (j < i))) := ov_I0 fun i j P H => .bl _
theorem ov_ge : OpV cm (rI0 fun i j => .bl (decide (j ≤ i))) (iop fun i j => .bl (decide (j ≤ i))) := ov_I0 fun i j P H => .bl _
/-- with a condition on the ints -/
def iopC (c : Int → Int → Bool) (g : Int → Int → Val) : Val → Val → Option Val
  | .int i, .int j => if c i j = true then some (g i j) else none
  | _, _ => none
theorem ov_IC {C : Int → Int → Prop} {c : Int → Int → Bool} {g : Int → Int → V} {k : Int → Int → Val} (hc : ∀ i j, c i j = true → C i j) (hk : ∀ i j (P : Addr → Prop) (H : Hp), Re cm P H (g i j) (k i j)) : OpV cm (rI C g) (iopC c k) := fun P x y z v u H Q e rx ry q => by
  unfold iopC at e
  split at e
  · split at e
    · cases e
      cases rx.int_
      cases ry.int_
      exact ⟨_, _, rfl, rfl, hc _ _ (by assumption), q _ H (Same.refl H) (hk _ _ P H)⟩
    · cases e
  · cases e
theorem ov_mul : OpV cm (rI CMul fun i j => .int (i * j)) (iopC (fun i j => decide (-(2 ^ 64) < i ∧ i < 2 ^ 64)) fun i j => .int (i * j)) := ov_IC (fun i j h => .inl (of_decide_eq_true h)) fun i j P H => .int _
theorem ov_mod : OpV cm (rI (fun _ j => 0 < j) fun i j => .int (i % j)) (iopC (fun _ j => decide (0 < j)) fun i j => .int (i % j)) := ov_IC (fun i j h => of_decide_eq_true h) fun i j P H => .int _
theorem ov_fdiv : OpV cm (rI CDiv fun i j => .int (i / j)) (iopC (fun _ j => decide (0 < j ∧ j < 1073741824)) fun i j => .int (i / j)) := ov_IC (fun i j h => (show 0 < j ∧ j < 1073741824 from of_decide_eq_true h)) fun i j P H => .int _
def isNV (neg : Bool) : Val → Val → Option Val
  | .non, .non => some (.bl (!neg))
  | _, .non => some (.bl neg)
  | _, _ => none
theorem Re.non_iff {P : Addr → Prop} {H : Hp} {v : V} {x : Val} (h : Re cm P H v x) : v = .non ↔ x = .non := by
  cases h <;> simp
theorem isNV_some {neg : Bool} {x y z : Val} (h : isNV neg x y = some z) : y = .non ∧ ((x = .non ∧ z = .bl (!neg)) ∨ (x ≠ .non ∧ z = .bl neg)) := by
  unfold isNV at h
  split at h
  · cases h
    exact ⟨rfl, .inl ⟨rfl, rfl⟩⟩
  · cases h
    refine ⟨rfl, .inr ⟨fun z => ?_, rfl⟩⟩
    subst z
    simp_all
  · cases h
theorem ov_isN : OpV cm (fun x y H Q => y = .non ∧ Q (.bl (decide (x = .non))) H) (isNV false) := fun P x y z v u H Q e rx ry q => by
  obtain ⟨rfl, h⟩ := isNV_some e
  refine ⟨ry.non_, ?_⟩
  rcases h with ⟨h, rfl⟩ | ⟨h, rfl⟩
  · rw [decide_eq_true (rx.non_iff.mpr h)]
    exact q _ H (Same.refl H) (.bl _)
  · rw [decide_eq_false fun c => h (rx.non_iff.mp c)]
    exact q _ H (Same.refl H) (.bl _)
theorem ov_notN : OpV cm (fun x y H Q => y = .non ∧ Q (.bl (!decide (x = .non))) H) (isNV true) := fun P x y z v u H Q e rx ry q => by
  obtain ⟨rfl, h⟩ := isNV_some e
  refine ⟨ry.non_, ?_⟩
  rcases h with ⟨h, rfl⟩ | ⟨h, rfl⟩
  · rw [decide_eq_true (rx.non_iff.mpr h)]
    exact q _ H (Same.refl H) (.bl _)
  · rw [decide_eq_false fun c => h (rx.non_iff.mp c)]
    exact q _ H (Same.refl H) (.bl _)
/-! data: == and != -/
mutual
def dataV : Val → Option PyData
  | .non => some .none
  | .bl b => some (.bool b)
  | .int i => some (.int i)
  | .str x => some (.str x)
  | .lst xs => (dataVs xs).map .list
  | .tup xs => (dataVs xs).map .tuple
  | _ => none
def dataVs : List Val → Option (List PyData)
  | [] => some []
  | x :: xs => (dataV x).bind fun d => (dataVs xs).bind fun ds => some (d :: ds)
end
theorem Rep.data {K : PySem.W.Frag} {P : Addr → Prop} {H : Hp} : ∀ {b : Bool} {vs : List V} {xs : List Val}, Rep cm P H b vs xs →
    (b = true → ∀ v x d, vs = [v] → xs = [x] → dataV x = some d → Dp K H v d) ∧ (b = false → ∀ ds, dataVs xs = some ds → DpAll K H vs ds) := fun h => by
  induction h with
  | nil => exact ⟨(fun e => nomatch e), fun _ ds e => by rw [dataVs] at e; cases e; exact .nil⟩
  | cons r t i1 i2 =>
    refine ⟨(fun e => nomatch e), fun _ ds e => ?_⟩
    rw [dataVs] at e
    obtain ⟨d, e1, e⟩ := Option.bind_eq_some_iff.mp e
    obtain ⟨ds', e2, e⟩ := Option.bind_eq_some_iff.mp e
    cases e
    exact .cons (i1.1 rfl _ _ _ rfl rfl e1) (i2.2 rfl _ e2)
  | non => exact ⟨fun _ v x d h1 h2 e => by cases h1; cases h2; rw [dataV] at e; cases e; exact .non, (fun e => nomatch e)⟩
  | bl b => exact ⟨fun _ v x d h1 h2 e => by cases h1; cases h2; rw [dataV] at e; cases e; exact .bl _, (fun e => nomatch e)⟩
  | int i => exact ⟨fun _ v x d h1 h2 e => by cases h1; cases h2; rw [dataV] at e; cases e; exact .int _, (fun e => nomatch e)⟩
  | str z => exact ⟨fun _ v x d h1 h2 e => by cases h1; cases h2; rw [dataV] at e; cases e; exact .str _, (fun e => nomatch e)⟩
  | lst n hh r ih =>
    refine ⟨fun _ v x d h1 h2 e => ?_, (fun e => nomatch e)⟩
    cases h1
    cases h2
    rw [dataV] at e
    obtain ⟨ds, e1, rfl⟩ := Option.map_eq_some_iff.mp e
    exact .lst (.inl (.inl hh)) (ih.2 rfl _ e1)
  | tup n hh r ih =>
    refine ⟨fun _ v x d h1 h2 e => ?_, (fun e => nomatch e)⟩
    cases h1
    cases h2
    rw [dataV] at e
    obtain ⟨ds, e1, rfl⟩ := Option.map_eq_some_iff.mp e
    exact .tup (.inl (.inl hh)) (ih.2 rfl _ e1)
  | dct n hh l1 l2 g1 g2 r ih =>
    refine ⟨fun _ v x d h1 h2 e => ?_, (fun e => nomatch e)⟩
    cases h1
    cases h2
    simp [dataV] at e
  | ins n hh r ih =>
    refine ⟨fun _ v x d h1 h2 e => ?_, (fun e => nomatch e)⟩
    cases h1
    cases h2
    simp [dataV] at e
  | set n hh k1 k2 =>
    refine ⟨fun _ v x d h1 h2 e => ?_, (fun e => nomatch e)⟩
    cases h1
    cases h2
    simp [dataV] at e
theorem Re.data {K : PySem.W.Frag} {P : Addr → Prop} {H : Hp} {v : V} {x : Val} {d : PyData} (h : Re cm P H v x) (e : dataV x = some d) : Dp K H v d := (Rep.data h).1 rfl _ _ _ rfl rfl e
def eqF (neg : Bool) (x y : Val) : Option Val := (dataV x).bind fun d => (dataV y).bind fun e => if (SeqAt.shaped d && SeqAt.shaped e) = true then some (.bl (if neg then !PyData.eqv d e else PyData.eqv d e)) else none
theorem eqF_some {neg : Bool} {x y z : Val} (h : eqF neg x y = some z) : ∃ d e, dataV x = some d ∧ dataV y = some e ∧ SeqAt.shaped d = true ∧ SeqAt.shaped e = true ∧ z = .bl (if neg then !PyData.eqv d e else PyData.eqv d e) := by
  unfold eqF at h
  obtain ⟨d, e1, h⟩ := Option.bind_eq_some_iff.mp h
  obtain ⟨e, e2, h⟩ := Option.bind_eq_some_iff.mp h
  split at h
  · cases h
    have c : (SeqAt.shaped d && SeqAt.shaped e) = true := by assumption
    rw [Bool.and_eq_true] at c
    exact ⟨d, e, e1, e2, c.1, c.2, rfl⟩
  · cases h
theorem ov_eq {K : PySem.W.Frag} : OpV cm (rEqD K) (eqF false) := fun P x y z v u H Q e rx ry q => by
  obtain ⟨d, d2, e1, e2, s1, s2, rfl⟩ := eqF_some e
  exact ⟨d, d2, rx.data e1, ry.data e2, s1, s2, q _ H (Same.refl H) (.bl _)⟩
theorem ov_ne {K : PySem.W.Frag} : OpV cm (rNeD K) (eqF true) := fun P x y z v u H Q e rx ry q => by
  obtain ⟨d, d2, e1, e2, s1, s2, rfl⟩ := eqF_some e
  exact ⟨d, d2, rx.data e1, ry.data e2, s1, s2, q _ H (Same.refl H) (.bl _)⟩
/-! flat things: in, not in; keys -/
def flatOf : Val → Option V
  | .non => some .non
  | .bl b => some (.bl b)
  | .int i => some (.int i)
  | .str x => some (.str x)
  | _ => none
theorem flatOf_re {P : Addr → Prop} {H : Hp} {v w : V} {x : Val} (h : Re cm P H v x) (e : flatOf x = some w) : v = w ∧ flatV v = true := by
  cases h <;> cases e <;> exact ⟨rfl, rfl⟩
def flats : List Val → Option (List V)
  | [] => some []
  | x :: xs => (flatOf x).bind fun v => (flats xs).bind fun vs => some (v :: vs)
theorem flats_re {P : Addr → Prop} {H : Hp} : ∀ {vs ws : List V} {xs : List Val}, Res cm P H vs xs → flats xs = some ws → vs = ws ∧ vs.all flatV = true
  | _, _, _, .nil, e => by
    cases e
    exact ⟨rfl, rfl⟩
  | _, _, _, .cons r t, e => by
    unfold flats at e
    obtain ⟨w, e1, e⟩ := Option.bind_eq_some_iff.mp e
    obtain ⟨ws, e2, e⟩ := Option.bind_eq_some_iff.mp e
    cases e
    obtain ⟨rfl, k1⟩ := flatOf_re r e1
    obtain ⟨rfl, k2⟩ := flats_re t e2
    exact ⟨rfl, by rw [List.all_cons, k1, k2]; rfl⟩
def itemsOf : Val → Option (List Val)
  | .lst xs => some xs
  | .tup xs => some xs
  | _ => none
theorem itemsOf_re {K : PySem.W.Frag} {P : Addr → Prop} {H : Hp} {v : V} {x : Val} {xs : List Val} (h : Re cm P H v x) (e : itemsOf x = some xs) : ∃ p vs, v = .ref p ∧ (SqL K H p vs ∨ SqT K H p vs) ∧ Res cm P H vs xs := by
  cases h <;> cases e
  · exact ⟨_, _, rfl, .inl (.inl (.inl (by assumption))), by assumption⟩
  · exact ⟨_, _, rfl, .inr (.inl (.inl (by assumption))), by assumption⟩
def inF (neg : Bool) (x y : Val) : Option Val := (flatOf x).bind fun v => (itemsOf y).bind fun ys => (flats ys).bind fun ws => some (.bl (if neg then !inV v ws else inV v ws))
theorem ov_in {K : PySem.W.Frag} {neg : Bool} : OpV cm (rIn K neg) (inF neg) := fun P x y z v u H Q e rx ry q => by
  unfold inF at e
  obtain ⟨w, e1, e⟩ := Option.bind_eq_some_iff.mp e
  obtain ⟨ys, e2, e⟩ := Option.bind_eq_some_iff.mp e
  obtain ⟨ws, e3, e⟩ := Option.bind_eq_some_iff.mp e
  cases e
  obtain ⟨rfl, f1⟩ := flatOf_re rx e1
  obtain ⟨p, vs, rfl, hs, rs⟩ := itemsOf_re (K := K) ry e2
  obtain ⟨rfl, f2⟩ := flats_re rs e3
  exact ⟨p, vs, rfl, hs, f1, f2, q _ H (Same.refl H) (.bl _)⟩
/-! subscripts -/
theorem atI_re {P : Addr → Prop} {H : Hp} {vs : List V} {xs : List Val} {i : Int} {x : Val} (h : Res cm P H vs xs) (e : atI xs i = some x) : ∃ v, atI vs i = some v ∧ Re cm P H v x := by
  unfold atI at e ⊢
  rw [h.length]
  obtain ⟨j, e1, e2⟩ := Option.bind_eq_some_iff.mp e
  obtain ⟨v, h1, h2⟩ := h.get e2
  exact ⟨v, by rw [e1]; exact h1, h2⟩
def ixL : Val → Val → Option Val
  | .lst xs, .int i => atI xs i
  | _, _ => none
def ixT : Val → Val → Option Val
  | .tup xs, .int i => atI xs i
  | _, _ => none
theorem ov_ixL {K : PySem.W.Frag} : OpV cm (rIxL K) ixL := fun P x y z v u H Q e rx ry q => by
  unfold ixL at e
  split at e
  · obtain ⟨a, vs, rfl, n, h, r⟩ := rx.lst_
    cases ry.int_
    obtain ⟨w, h1, h2⟩ := atI_re r e
    exact ⟨a, vs, _, w, rfl, rfl, .inl (.inl h), h1, q _ H (Same.refl H) h2⟩
  · cases e
theorem ov_ixT {K : PySem.W.Frag} : OpV cm (rIxT K) ixT := fun P x y z v u H Q e rx ry q => by
  unfold ixT at e
  split at e
  · obtain ⟨a, vs, rfl, n, h, r⟩ := rx.tup_
    cases ry.int_
    obtain ⟨w, h1, h2⟩ := atI_re r e
    exact ⟨a, vs, _, w, rfl, rfl, .inl (.inl h), h1, q _ H (Same.refl H) h2⟩
  · cases e
def keyOf : Val → Option Key
  | .int i => some (.inl i)
  | .str x => some (.inr x)
  | _ => none
def keysOf : List Val → Option (List Key)
  | [] => some []
  | x :: xs => (keyOf x).bind fun k => (keysOf xs).bind fun ks => some (k :: ks)
theorem keysOf_re {P : Addr → Prop} {H : Hp} : ∀ {vs : List V} {xs : List Val} {ks : List Key}, Res cm P H vs xs → keysOf xs = some ks → vs = ks.map kV
  | _, _, _, .nil, e => by
    cases e
    rfl
  | _, _, _, .cons r t, e => by
    unfold keysOf at e
    obtain ⟨k, e1, e⟩ := Option.bind_eq_some_iff.mp e
    obtain ⟨ks, e2, e⟩ := Option.bind_eq_some_iff.mp e
    cases e
    rw [keysOf_re t e2]
    cases r <;> cases e1 <;> rfl
def tkey : Val → Option (List Key)
  | .tup xs => keysOf xs
  | _ => none
theorem tkey_re {P : Addr → Prop} {H : Hp} {v : V} {x : Val} {k : List Key} (h : Re cm P H v x) (e : tkey x = some k) : ∃ b, v = .ref b ∧ H b = some (.tup (k.map kV)) := by
  unfold tkey at e
  split at e
  · obtain ⟨a, vs, rfl, n, hh, r⟩ := h.tup_
    exact ⟨a, rfl, by rw [hh, keysOf_re r e]⟩
  · cases e
def lookK (k : List Key) : List (List Key) → List Val → Option Val
  | k' :: ks, x :: xs => if k' = k then some x else lookK k ks xs
  | _, _ => none
theorem lookK_re {P : Addr → Prop} {H : Hp} {k : List Key} : ∀ {ks : List (List Key)} {vs : List V} {xs : List Val} {x : Val}, Res cm P H vs xs → lookK k ks xs = some x → ∃ (i : Nat) (v : V), ks[i]? = some k ∧ vs[i]? = some v ∧ Re cm P H v x
  | [], _, _, _, _, e => by cases e
  | k' :: ks, _, _, _, .nil, e => by cases e
  | k' :: ks, _, _, _, .cons r t, e => by
    unfold lookK at e
    by_cases c : k' = k
    · rw [if_pos c] at e
      cases e
      exact ⟨0, _, by rw [c]; rfl, rfl, r⟩
    · rw [if_neg c] at e
      obtain ⟨i, v, h1, h2, h3⟩ := lookK_re t e
      exact ⟨i + 1, v, h1, h2, h3⟩
theorem lookK_none {k : List Key} : ∀ {ks : List (List Key)} {xs : List Val}, xs.length = ks.length → lookK k ks xs = none → k ∉ ks
  | [], _, _, _ => by simp
  | k' :: ks, [], l, _ => by simp at l
  | k' :: ks, x :: xs, l, e => by
    unfold lookK at e
    by_cases c : k' = k
    · rw [if_pos c] at e
      cases e
    · rw [if_neg c] at e
      intro h
      rcases List.mem_cons.mp h with z | z
      · exact c z.symm
      · exact lookK_none (by simpa using l) e z
def ixD : Val → Val → Option Val
  | .dct ks xs, y => (tkey y).bind fun k => lookK k ks xs
  | _, _ => none
def rDGet : R2 := fun x y H Q => ∃ a v, x = .ref a ∧ DGet H a y (some v) ∧ Q v H
theorem ov_ixD : OpV cm rDGet ixD := fun P x y z v u H Q e rx ry q => by
  unfold ixD at e
  split at e
  · obtain ⟨k, e1, e2⟩ := Option.bind_eq_some_iff.mp e
    obtain ⟨b, rfl, hb⟩ := tkey_re ry e1
    cases rx with
    | dct n hh l1 l2 g1 g2 r =>
      obtain ⟨i, w, h1, h2, h3⟩ := lookK_re r e2
      refine ⟨_, w, rfl, ?_, q _ H (Same.refl H) h3⟩
      rw [← g1 i k w h1 h2]
      exact .t hh hb
  · cases e
end
section
variable {X : Cx} {cm : Cm} {a b c e : Expr} {es : List Expr} {f g h : En → Option Val} {pos : Pos}
theorem ve_ix {r : R2} {k : Val → Val → Option Val} (hr : IxR X r) (o : OpV cm r k) (ha : VE X cm a f) (hb : VE X cm b g) (hs : PlainIx b) : VE X cm (.Subscript a b pos) (bin2 k f g) := (pe_ix hr ha hb hs).weak (tV_two o)
theorem ve_dget (hu : X.A.units + 1 < cLine) (ha : VE X cm a f) (hb : VE X cm b g) (hs : NoSl b) : VE X cm (.Subscript a b pos) (bin2 ixD f g) := (pe_dget hu ha hb hs).weak (tV_two (ov_ixD (cm := cm)))
/-! displays -/
theorem ve_tup {x1} {k : En → Option (List Val)} (h : VA X cm es k) : VE X cm (.Tuple es x1 pos) (tupF k) := (pe_tup h).weak fun σ H Q ⟨P, env, z, hs, hf, q⟩ => by
  unfold tupF at hf
  obtain ⟨xs, ex, hf⟩ := Option.bind_eq_some_iff.mp hf
  split at hf
  · cases hf
    have l : xs.length ≤ most := by assumption
    refine ⟨P, env, xs, hs, ex, fun vs H1 s1 r1 => ⟨by rw [r1.length]; exact Nat.le_of_lt (most_line l), fun p np => ?_⟩⟩
    have s2 : Same H1 (upd H1 p (.tup vs)) := fun b o eb => by rw [upd_ne (ne_of_none eb np)]; exact eb
    exact q _ _ (s1.trans s2) (.tup ((hs.hid.same s1).new np) upd_same (r1.same s2))
  · cases hf
theorem ve_lst {k : En → Option (List Val)} (h : VA X cm es k) : VE X cm (.List es pos) (lstF k) := (pe_lst h).weak fun σ H Q ⟨P, env, z, hs, hf, q⟩ => by
  unfold lstF at hf
  obtain ⟨xs, ex, hf⟩ := Option.bind_eq_some_iff.mp hf
  split at hf
  · cases hf
    have l : xs.length ≤ most := by assumption
    refine ⟨P, env, xs, hs, ex, fun vs H1 s1 r1 => ⟨by rw [r1.length]; exact Nat.le_of_lt (most_line l), fun p np => ?_⟩⟩
    have s2 : Same H1 (upd H1 p (.lst vs)) := fun b o eb => by rw [upd_ne (ne_of_none eb np)]; exact eb
    exact q _ _ (s1.trans s2) (.lst ((hs.hid.same s1).new np) upd_same (r1.same s2))
  · cases hf
/-! calls of what is built in, by values -/
def CaV (cm : Cm) (r : List V → Hp → VK → Prop) (op : List Val → Option Val) : Prop := ∀ (P : Addr → Prop) (xs : List Val) (z : Val) (vs : List V) (H : Hp) (Q : VK), Hid P H → op xs = some z → Res cm P H vs xs → (∀ v' H', Same H H' → Re cm P H' v' z → Q v' H') → r vs H Q
def appF (op : List Val → Option Val) (k : En → Option (List Val)) : En → Option Val := fun env => (k env).bind op
theorem tV_call {r : List V → Hp → VK → Prop} {op : List Val → Option Val} {k : En → Option (List Val)} (o : CaV cm r op) (σ : L2.St) (H : Hp) (Q : VK) (q : tV cm (appF op k) σ H Q) : tCB r (tVA cm k) σ H Q := by
  obtain ⟨P, env, z, hs, hf, q⟩ := q
  obtain ⟨xs, ex, hf⟩ := Option.bind_eq_some_iff.mp hf
  exact ⟨P, env, xs, hs, ex, fun vs H1 s1 r1 => o P xs z vs H1 Q (hs.hid.same s1) hf r1 fun v' H2 s2 r2 => q v' H2 (s1.trans s2) r2⟩
theorem ve_callB {id : String} {r : List V → Hp → VK → Prop} {op : List Val → Option Val} {k : En → Option (List Val)} {x : Str} {p : Pos} (hc : CallR X (.builtin id) r) (o : CaV cm r op) (hg : Gl X x) (hm : X.mg x = none) (hv : bootBuiltins x = some (.builtin id)) (ha : VA X cm (e :: es) k)
    (hn : x ≠ "__name__" := by decide) (hdb : (x == ("__debug__" : Str)) = false := by decide) (he : starEach (e :: es) X.env = (false, eval e X.env) :: starEach es X.env := by rfl) (hpl : (backTo pos (starEach es X.env)).any (·.1) = false := by rfl) :
    VE X cm (.Call (.Name x p) (e :: es) [] pos) (appF op k) := (pe_callB hc hg hm hv ha hn hdb he hpl).weak (tV_call o)
theorem ve_callTy {T : String} {r : List V → Hp → VK → Prop} {op : List Val → Option Val} {k : En → Option (List Val)} {x : Str} {p : Pos} (hc : CallR X (.type T) r) (o : CaV cm r op) (hg : Gl X x) (hm : X.mg x = none) (hv : bootBuiltins x = some (.type T)) (ha : VA X cm (e :: es) k)
    (hn : x ≠ "__name__" := by decide) (hdb : (x == ("__debug__" : Str)) = false := by decide) (he : starEach (e :: es) X.env = (false, eval e X.env) :: starEach es X.env := by rfl) (hpl : (backTo pos (starEach es X.env)).any (·.1) = false := by rfl) :
    VE X cm (.Call (.Name x p) (e :: es) [] pos) (appF op k) := (pe_callTy hc hg hm hv ha hn hdb he hpl).weak (tV_call o)
def lenF : List Val → Option Val
  | [x] => (itemsOf x).map fun xs => .int xs.length
  | _ => none
theorem cv_len : CaV cm (fun xs H Q => ∃ p ys, xs = [.ref p] ∧ (SqL X.K H p ys ∨ SqT X.K H p ys) ∧ Q (.int ys.length) H) lenF := fun P xs z vs H Q hd e r q => by
  unfold lenF at e
  split at e
  · obtain ⟨v, rfl, r1⟩ := r.one
    obtain ⟨ys, e1, rfl⟩ := Option.map_eq_some_iff.mp e
    obtain ⟨p, ws, rfl, h, rs⟩ := itemsOf_re (K := X.K) r1 e1
    refine ⟨p, ws, rfl, h, q _ H (Same.refl H) ?_⟩
    rw [rs.length]
    exact .int _
  · cases e
def tupleF : List Val → Option Val
  | [.lst xs] => some (.tup xs)
  | [.tup xs] => some (.tup xs)
  | _ => none
theorem cv_tuple : CaV cm (fun xs H Q => ∃ p ys, xs = [.ref p] ∧ ((SqL X.K H p ys ∧ ∀ l, H l = none → Q (.ref l) (upd H l (.tup ys))) ∨ (SqT X.K H p ys ∧ Q (.ref p) H))) tupleF := fun P xs z vs H Q hd e r q => by
  unfold tupleF at e
  split at e
  · obtain ⟨v, rfl, r1⟩ := r.one
    cases e
    obtain ⟨a, ws, rfl, n, h, rs⟩ := r1.lst_
    refine ⟨a, ws, rfl, .inl ⟨.inl (.inl h), fun p np => ?_⟩⟩
    have s2 : Same H (upd H p (.tup ws)) := fun b o eb => by rw [upd_ne (ne_of_none eb np)]; exact eb
    exact q _ _ s2 (.tup (hd.new np) upd_same (rs.same s2))
  · obtain ⟨v, rfl, r1⟩ := r.one
    cases e
    obtain ⟨a, ws, rfl, n, h, rs⟩ := r1.tup_
    exact ⟨a, ws, rfl, .inr ⟨.inl (.inl h), q _ H (Same.refl H) (.tup n h rs)⟩⟩
  · cases e
def listF : List Val → Option Val
  | [.lst xs] => some (.lst xs)
  | [.tup xs] => some (.lst xs)
  | _ => none
theorem cv_list : CaV cm (fun xs H Q => ∃ p ys, xs = [.ref p] ∧ (SqL X.K H p ys ∨ SqT X.K H p ys) ∧ ∀ l, H l = none → Q (.ref l) (upd H l (.lst ys))) listF := fun P xs z vs H Q hd e r q => by
  have fin : ∀ (ws : List V) (ys : List Val), Res cm P H ws ys → z = .lst ys → ∀ p, H p = none → Q (.ref p) (upd H p (.lst ws)) := fun ws ys rs ez p np => by
    subst ez
    have s2 : Same H (upd H p (.lst ws)) := fun b o eb => by rw [upd_ne (ne_of_none eb np)]; exact eb
    exact q _ _ s2 (.lst (hd.new np) upd_same (rs.same s2))
  unfold listF at e
  split at e
  · obtain ⟨v, rfl, r1⟩ := r.one
    cases e
    obtain ⟨a, ws, rfl, n, h, rs⟩ := r1.lst_
    exact ⟨a, ws, rfl, .inl (.inl (.inl h)), fin ws _ rs rfl⟩
  · obtain ⟨v, rfl, r1⟩ := r.one
    cases e
    obtain ⟨a, ws, rfl, n, h, rs⟩ := r1.tup_
    exact ⟨a, ws, rfl, .inr (.inl (.inl h)), fin ws _ rs rfl⟩
  · cases e
def max2F : List Val → Option Val
  | [.int i, .int j] => some (.int (if j > i then j else i))
  | _ => none
def min2F : List Val → Option Val
  | [.int i, .int j] => some (.int (if j < i then j else i))
  | _ => none
theorem cv_max2 : CaV cm (fun xs H Q => ∃ i j, xs = [.int i, .int j] ∧ Q (.int (if j > i then j else i)) H) max2F := fun P xs z vs H Q hd e r q => by
  unfold max2F at e
  split at e
  · obtain ⟨v, u, rfl, r1, r2⟩ := r.two
    cases e
    cases r1.int_
    cases r2.int_
    exact ⟨_, _, rfl, q _ H (Same.refl H) (.int _)⟩
  · cases e
theorem cv_min2 : CaV cm (fun xs H Q => ∃ i j, xs = [.int i, .int j] ∧ Q (.int (if j < i then j else i)) H) min2F := fun P xs z vs H Q hd e r q => by
  unfold min2F at e
  split at e
  · obtain ⟨v, u, rfl, r1, r2⟩ := r.two
    cases e
    cases r1.int_
    cases r2.int_
    exact ⟨_, _, rfl, q _ H (Same.refl H) (.int _)⟩
  · cases e
/-! a type's name asked -/
def tyOf : Val → Option String
  | .non => some "NoneType"
  | .bl _ => some "bool"
  | .int _ => some "int"
  | .str _ => some "str"
  | .lst _ => some "list"
  | .tup _ => some "tuple"
  | .dct _ _ => some "dict"
  | .set _ => none
  | .ins _ _ _ => none
theorem tyOf_re {K : PySem.W.Frag} {P : Addr → Prop} {H : Hp} {v : V} {x : Val} {t : String} (h : Re cm P H v x) (e : tyOf x = some t) : TyX K H v (.type t) := by
  cases h <;> cases e
  · exact .base .non
  · exact .base (.bl _)
  · exact .base (.int _)
  · exact .base (.str _)
  · exact .base (.lst (by assumption))
  · exact .base (.tup (by assumption))
  · exact .base (.dT (by assumption))
def isiF (T : String) (f : En → Option Val) : En → Option Val := fun env => (f env).bind fun x => (tyOf x).bind fun t => (kitB t T).map .bl
theorem ve_isi {T : String} {x : Str} {p p2 : Pos} (hg2 : Gl X x) (hm2 : X.mg x = none) (hv2 : bootBuiltins x = some (.type T)) (hg : Gl X "isinstance") (hm : X.mg "isinstance" = none) (hv : bootBuiltins "isinstance" = some (.builtin "isinstance")) (ha : VE X cm e f)
    (hn2 : x ≠ "__name__" := by decide) (hd2 : (x == ("__debug__" : Str)) = false := by decide) (he : starEach [e, .Name x p2] X.env = (false, eval e X.env) :: starEach [.Name x p2] X.env := by rfl) (he2 : starEach [.Name x p2] X.env = (false, eval (.Name x p2) X.env) :: starEach [] X.env := by rfl) (hpl : (backTo pos (starEach [.Name x p2] X.env)).any (·.1) = false := by rfl) :
    VE X cm (.Call (.Name "isinstance" p) [e, .Name x p2] [] pos) (isiF T f) :=
  (pe_callB call_isi hg hm hv (pa_cons ha (pa_cons (pe_bltn (v := .ty T) hg2 hm2 hv2 rfl hn2 hd2) pa_nil he2) he) (by decide) (by decide) he hpl).weak fun σ H Q ⟨P, env, z, hs, hf, q⟩ => by
    unfold isiF at hf
    obtain ⟨x, ex, h1⟩ := Option.bind_eq_some_iff.mp hf
    obtain ⟨t, et, h2⟩ := Option.bind_eq_some_iff.mp h1
    obtain ⟨b, eb, rfl⟩ := Option.map_eq_some_iff.mp h2
    exact ⟨P, env, x, hs, ex, fun v H1 s1 r1 => ⟨v, .ty T, .type t, .type T, b, rfl, .ty T, tyOf_re r1 et, kit_ty eb, q _ H1 s1 (.bl b)⟩⟩
/-! fields -/
def lookF (f : Str) : List Str → List Val → Option Val
  | n :: ns, x :: xs => if n = f then some x else lookF f ns xs
  | _, _ => none
theorem lookF_re {P : Addr → Prop} {H : Hp} {f : Str} : ∀ {fs : List (Str × V)} {xs : List Val} {x : Val}, Res cm P H (fs.map (·.2)) xs → lookF f (fs.map (·.1)) xs = some x → ∃ v, fs.lookup f = some v ∧ Re cm P H v x
  | [], _, _, _, e => by cases e
  | (n, v) :: fs, [], _, h, _ => by cases h
  | (n, v) :: fs, y :: xs, x, h, e => by
    cases h with
    | cons r t =>
      replace e : (if n = f then some y else lookF f (fs.map (·.1)) xs) = some x := e
      by_cases c : n = f
      · rw [if_pos c] at e
        cases e
        subst c
        exact ⟨v, by simp [List.lookup], r⟩
      · rw [if_neg c] at e
        obtain ⟨w, h1, h2⟩ := lookF_re t e
        refine ⟨w, ?_, h2⟩
        have hb : (f == n) = false := beq_eq_false_iff_ne.mpr fun z => c z.symm
        simp only [List.lookup, hb]
        exact h1
def fldF (c : Nat) (f : Str) (k : En → Option Val) : En → Option Val := fun env => (k env).bind fun x => match x with
  | .ins c' ns xs => if c' = c then lookF f ns xs else none
  | _ => none
theorem ve_fld {c : Nat} {fl : Str} (hc : Cls X.K (cm.cls c)) (hn : NoAttr X.K (cm.cls c) fl) (he : VE X cm e f) (hb : attributeBase e fl X.env (eval e X.env) = eval e X.env) : VE X cm (.Attribute e fl pos) (fldF c fl f) :=
  (pe_fld he hb).weak fun σ H Q ⟨P, env, z, hs, hf, q⟩ => by
    unfold fldF at hf
    obtain ⟨x, ex, h1⟩ := Option.bind_eq_some_iff.mp hf
    refine ⟨P, env, x, hs, ex, fun v H1 s1 r1 => ?_⟩
    cases r1 with
    | ins n hh r =>
      replace h1 : (if _ = c then lookF fl _ _ else none) = some z := h1
      split at h1
      · rename_i ec
        subst ec
        obtain ⟨w, k1, k2⟩ := lookF_re r h1
        exact ⟨_, _, _, _, w, rfl, hh, hc, hn, k1, q _ H1 s1 k2⟩
      · cases h1
    | _ => cases h1
end
end Up

namespace Up
open PySem PySem.Spec PyProof.Rows L2
section
variable {X : Cx} {cm : Cm} {a b c e : Expr} {es : List Expr} {f g h : En → Option Val} {pos : Pos}
/-! ### defs -/
/-- the promise of a def that is a function of its arguments' trees -/
def spV (cm : Cm) (F : List Val → Option Val) : Sp := fun vs H Q _ => ∃ (P : Addr → Prop) (xs : List Val) (z : Val), Hid P H ∧ Res cm P H vs xs ∧ F xs = some z ∧ ∀ v H', Same H H' → Re cm P H' v z → Q v H'
theorem ve_call {CX : CXT} {E : XK} {k : Nat} {fa : Addr} {fd : FuncData} {ps : List Str} {F : List Val → Option Val} {x : Str} {p : Pos} {t : En → Option (List Val)} (G : FnOk X.prog X.w X.K X.mg X.base CX k fa fd ps (spV cm F)) (hr : Room k X.A) (hg : Gl X x) (hm : X.mg x = some (.ref fa)) (hk : PySem.W.keepIn X.K (.ref fa) = true)
    (hb : Binds X.K fd ps []) (hx : Passes CX X E) (ha : VA X cm (e :: es) t) (hdb : (x == ("__debug__" : Str)) = false := by decide) (he : starEach (e :: es) X.env = (false, eval e X.env) :: starEach es X.env := by rfl) (hpl : (backTo pos (starEach es X.env)).any (·.1) = false := by rfl) :
    VE X cm (.Call (.Name x p) (e :: es) [] pos) (appF F t) :=
  (pe_call G hr hg hm hk hb .nil hx ha hdb he hpl).weak fun σ H Q ⟨P, env, z, hs, hf, q⟩ => by
    obtain ⟨xs, ex, hf⟩ := Option.bind_eq_some_iff.mp hf
    refine ⟨P, env, xs, hs, ex, fun vs H1 s1 r1 => ?_⟩
    show spV cm F (vs ++ []) H1 Q E
    rw [List.append_nil]
    exact ⟨P, xs, z, hs.hid.same s1, r1, hf, fun v H2 s2 r2 => q v H2 (s1.trans s2) r2⟩
/-! ### slices -/
def cutG (xs : List Val) (lo hi : Option Int) : List Val := (xs.drop (HT.sIx xs.length 0 lo)).take (HT.sIx xs.length xs.length hi - HT.sIx xs.length 0 lo)
theorem Res.drop {P : Addr → Prop} {H : Hp} : ∀ {vs : List V} {xs : List Val} (n : Nat), Res cm P H vs xs → Res cm P H (vs.drop n) (xs.drop n)
  | _, _, 0, r => r
  | _, _, _ + 1, .nil => .nil
  | _, _, n + 1, .cons _ t => Res.drop n t
theorem Res.take {P : Addr → Prop} {H : Hp} : ∀ {vs : List V} {xs : List Val} (n : Nat), Res cm P H vs xs → Res cm P H (vs.take n) (xs.take n)
  | _, _, 0, _ => .nil
  | _, _, _ + 1, .nil => .nil
  | _, _, n + 1, .cons r t => .cons r (Res.take n t)
theorem cutG_re {P : Addr → Prop} {H : Hp} {vs : List V} {xs : List Val} {lo hi : Option Int} (r : Res cm P H vs xs) : Res cm P H (cutV vs lo hi) (cutG xs lo hi) := by
  unfold cutV cutG
  rw [r.length]
  exact Res.take _ (Res.drop _ r)
/-- a part of a slice -/
def partF (f : En → Option Val) : En → Option (Option Int) := fun env => (f env).bind fun x => match x with
  | .int i => some (some i)
  | _ => none
def noPart : En → Option (Option Int) := fun _ => some none
def tVO (cm : Cm) (f : En → Option (Option Int)) : TO := fun σ H Q => ∃ (P : Addr → Prop) (env : En) (o : Option Int), Slots cm P H σ env ∧ f env = some o ∧ ∀ H', Same H H' → Q o H'
theorem _root_.L2.PO.weak {o : Option Expr} {t t' : TO} (h : PO X o t) (k : ∀ σ H Q, t' σ H Q → t σ H Q) : PO X o t' := ⟨fun pins s σ H Q I q => h.run pins s σ H Q I (k σ H Q q)⟩
theorem vo_none : PO X none (tVO cm noPart) := po_none.weak fun σ H Q ⟨P, env, o, hs, hf, q⟩ => by
  cases hf
  exact q H (Same.refl H)
theorem vo_some (h : VE X cm e f) : PO X (some e) (tVO cm (partF f)) := (po_some h).weak fun σ H Q ⟨P, env, o, hs, hf, q⟩ => by
  unfold partF at hf
  obtain ⟨x, ex, hf⟩ := Option.bind_eq_some_iff.mp hf
  refine ⟨P, env, x, hs, ex, fun v H1 s1 r1 => ?_⟩
  cases r1 <;> cases hf
  exact ⟨_, rfl, q H1 s1⟩
def slF (op : Val → Option Int → Option Int → Option Val) (f : En → Option Val) (l u : En → Option (Option Int)) : En → Option Val := fun env => (f env).bind fun x => (l env).bind fun i => (u env).bind fun j => op x i j
def cutL : Val → Option Int → Option Int → Option Val
  | .lst xs, lo, hi => some (.lst (cutG xs lo hi))
  | _, _, _ => none
def cutT : Val → Option Int → Option Int → Option Val
  | .tup xs, lo, hi => if HT.sIx xs.length 0 lo = 0 ∧ HT.sIx xs.length xs.length hi = xs.length then none else some (.tup (cutG xs lo hi))
  | _, _, _ => none
theorem ve_slice {r : V → Option Int → Option Int → Hp → VK → Prop} {op : Val → Option Int → Option Int → Option Val} {lo hi : Option Expr} {l u : En → Option (Option Int)} {p2 : Pos} (hr : SlR X r) (o : ∀ (P : Addr → Prop) (x z : Val) (i j : Option Int) (v : V) (H : Hp) (Q : VK), Hid P H → op x i j = some z → Re cm P H v x → (∀ v' H', Same H H' → Re cm P H' v' z → Q v' H') → r v i j H Q)
    (he : VE X cm e f) (hl : PO X lo (tVO cm l)) (hu : PO X hi (tVO cm u)) : VE X cm (.Subscript e (.Slice lo hi none p2) pos) (slF op f l u) :=
  (pe_slice hr he hl hu).weak fun σ H Q ⟨P, env, z, hs, hf, q⟩ => by
    unfold slF at hf
    obtain ⟨x, ex, h1⟩ := Option.bind_eq_some_iff.mp hf
    obtain ⟨i, ei, h2⟩ := Option.bind_eq_some_iff.mp h1
    obtain ⟨j, ej, h3⟩ := Option.bind_eq_some_iff.mp h2
    exact ⟨P, env, x, hs, ex, fun v H1 s1 r1 => ⟨P, env, i, hs.same s1, ei, fun H2 s2 => ⟨P, env, j, (hs.same s1).same s2, ej, fun H3 s3 => o P x z i j v H3 Q (((hs.hid.same s1).same s2).same s3) h3 ((r1.same s2).same s3) fun v' H4 s4 r4 => q v' H4 (s1.trans (s2.trans (s3.trans s4))) r4⟩⟩⟩
theorem vs_list (P : Addr → Prop) (x z : Val) (i j : Option Int) (v : V) (H : Hp) (Q : VK) (hd : Hid P H) (e : cutL x i j = some z) (r : Re cm P H v x) (q : ∀ v' H', Same H H' → Re cm P H' v' z → Q v' H') : rSlL X.K v i j H Q := by
  unfold cutL at e
  split at e
  · cases e
    obtain ⟨a, vs, rfl, n, hh, rs⟩ := r.lst_
    refine ⟨a, vs, rfl, .inl (.inl hh), fun p np => ?_⟩
    have s2 : Same H (upd H p (.lst (cutV vs i j))) := fun b o eb => by rw [upd_ne (ne_of_none eb np)]; exact eb
    exact q _ _ s2 (.lst (hd.new np) upd_same (Rep.same s2 (cutG_re rs)))
  · cases e
theorem vs_tup (P : Addr → Prop) (x z : Val) (i j : Option Int) (v : V) (H : Hp) (Q : VK) (hd : Hid P H) (e : cutT x i j = some z) (r : Re cm P H v x) (q : ∀ v' H', Same H H' → Re cm P H' v' z → Q v' H') : rSlT X.K v i j H Q := by
  unfold cutT at e
  split at e
  · split at e
    · cases e
    · rename_i c
      cases e
      obtain ⟨a, vs, rfl, n, hh, rs⟩ := r.tup_
      refine ⟨a, vs, rfl, .inl (.inl hh), by rw [Res.length rs]; exact c, fun p np => ?_⟩
      have s2 : Same H (upd H p (.tup (cutV vs i j))) := fun b o eb => by rw [upd_ne (ne_of_none eb np)]; exact eb
      exact q _ _ s2 (.tup (hd.new np) upd_same (Rep.same s2 (cutG_re rs)))
  · cases e
/-! ### targets -/
def setA (σ : L2.St) : List (Nat × V) → L2.St
  | [] => σ
  | q :: qs => setA (σ.set q.1 (some q.2)) qs
def setE (env : En) : List (Nat × Val) → En
  | [] => env
  | q :: qs => setE (env.set q.1 (some q.2)) qs
abbrev Prs (cm : Cm) (P : Addr → Prop) (H : Hp) : List (Nat × V) → List (Nat × Val) → Prop := Paired fun q p => q.1 = p.1 ∧ Re cm P H q.2 p.2
theorem setA_app : ∀ (qs rs : List (Nat × V)) (σ : L2.St), setA σ (qs ++ rs) = setA (setA σ qs) rs
  | [], _, _ => rfl
  | q :: qs, rs, σ => setA_app qs rs _
theorem Slots.sets {P : Addr → Prop} {H : Hp} : ∀ {qs : List (Nat × V)} {ps : List (Nat × Val)} {σ : L2.St} {env : En}, Prs cm P H qs ps → Slots cm P H σ env → Slots cm P H (setA σ qs) (setE env ps)
  | _, _, _, _, .nil, h => h
  | _, _, _, _, .cons (a := q) (b := p) r t, h => by
    obtain ⟨e, r⟩ := r
    obtain ⟨i, v⟩ := q
    obtain ⟨j, x⟩ := p
    obtain rfl : i = j := e
    have k := Slots.sets t (Slots.set (i := i) h r)
    exact k
theorem wipe_setA {vs : List Nat} : ∀ {qs : List (Nat × V)} {σ : L2.St}, (∀ q ∈ qs, q.1 ∈ vs) → L2.wipe (setA σ qs) vs = L2.wipe σ vs
  | [], _, _ => rfl
  | q :: qs, σ, h => by
    show L2.wipe (setA (σ.set q.1 (some q.2)) qs) vs = _
    rw [wipe_setA fun r hr => h r (List.mem_cons_of_mem _ hr), wipe_set (h q (List.mem_cons_self ..))]
/-- a target: what a value does to the names -/
structure TgV (cm : Cm) (g : TG) (m : Val → Option (List (Nat × Val))) (is : List Nat) : Prop where
  go : ∀ (P : Addr → Prop) (H : Hp) (v : V) (x : Val) (ps : List (Nat × Val)), Re cm P H v x → m x = some ps → ∃ qs : List (Nat × V), Prs cm P H qs ps ∧ (∀ q ∈ qs, q.1 ∈ is) ∧ ∀ (σ : L2.St) (Q : L2.St → Hp → Prop), Q (setA σ qs) H → g v σ H Q
def setV (i : Nat) : Val → Option (List (Nat × Val)) := fun x => some [(i, x)]
theorem tg_name {i : Nat} : TgV cm (gName i) (setV i) [i] := ⟨fun P H v x ps r e => by
  cases e
  exact ⟨[(i, v)], .cons ⟨rfl, r⟩ .nil, (fun q hq => by simpa using congrArg Prod.fst (List.mem_singleton.mp hq)), fun σ Q q => q⟩⟩
structure TgsV (cm : Cm) (g : TGs) (m : List Val → Option (List (Nat × Val))) (is : List Nat) : Prop where
  go : ∀ (P : Addr → Prop) (H : Hp) (vs : List V) (xs : List Val) (ps : List (Nat × Val)), Res cm P H vs xs → m xs = some ps → ∃ qs : List (Nat × V), Prs cm P H qs ps ∧ (∀ q ∈ qs, q.1 ∈ is) ∧ ∀ (σ : L2.St) (Q : L2.St → Hp → Prop), Q (setA σ qs) H → g vs σ H Q
def setNo : List Val → Option (List (Nat × Val))
  | [] => some []
  | _ :: _ => none
def setCo (b : Val → Option (List (Nat × Val))) (bs : List Val → Option (List (Nat × Val))) : List Val → Option (List (Nat × Val))
  | x :: xs => (b x).bind fun ps => (bs xs).map (ps ++ ·)
  | [] => none
theorem tgs_nil : TgsV cm gNil setNo [] := ⟨fun P H vs xs ps r e => by
  cases r with
  | nil =>
    cases e
    exact ⟨[], .nil, (fun q hq => by cases hq), fun σ Q q => ⟨rfl, q⟩⟩
  | cons _ _ => cases e⟩
theorem Prs.append {P : Addr → Prop} {H : Hp} : ∀ {qs rs : List (Nat × V)} {ps us : List (Nat × Val)}, Prs cm P H qs ps → Prs cm P H rs us → Prs cm P H (qs ++ rs) (ps ++ us)
  | _, _, _, _, .nil, s => s
  | _, _, _, _, .cons r t, s => .cons r (Prs.append t s)
theorem tgs_cons {g : TG} {gs : TGs} {b : Val → Option (List (Nat × Val))} {bs : List Val → Option (List (Nat × Val))} {is js : List Nat} (h1 : TgV cm g b is) (h2 : TgsV cm gs bs js) : TgsV cm (gCons g gs) (setCo b bs) (is ++ js) := ⟨fun P H vs xs ps r e => by
  cases r with
  | nil => cases e
  | cons r t =>
    obtain ⟨p1, e1, e2⟩ := Option.bind_eq_some_iff.mp (show (b _).bind (fun ps => (bs _).map (ps ++ ·)) = some ps from e)
    obtain ⟨p2, e3, rfl⟩ := Option.map_eq_some_iff.mp e2
    obtain ⟨q1, k1, m1, g1⟩ := h1.go P H _ _ _ r e1
    obtain ⟨q2, k2, m2, g2⟩ := h2.go P H _ _ _ t e3
    refine ⟨q1 ++ q2, Prs.append k1 k2, fun q hq => ?_, fun σ Q q => ⟨_, _, rfl, g1 σ _ (g2 _ Q (by rw [← setA_app]; exact q))⟩⟩
    rcases List.mem_append.mp hq with z | z
    · exact List.mem_append_left _ (m1 q z)
    · exact List.mem_append_right _ (m2 q z)⟩
def setTup (n : Nat) (bs : List Val → Option (List (Nat × Val))) : Val → Option (List (Nat × Val)) := fun x => match x with
  | .tup xs => if xs.length = n then bs xs else none
  | _ => none
theorem tg_tup {K : PySem.W.Frag} {n : Nat} {gs : TGs} {bs : List Val → Option (List (Nat × Val))} {is : List Nat} (h : TgsV cm gs bs is) : TgV cm (gTup K n gs) (setTup n bs) is := ⟨fun P H v x ps r e => by
  unfold setTup at e
  split at e
  · split at e
    · rename_i l
      obtain ⟨a, vs, rfl, n', hh, rs⟩ := r.tup_
      obtain ⟨qs, k1, k2, k3⟩ := h.go P H vs _ ps rs e
      exact ⟨qs, k1, k2, fun σ Q q => ⟨a, vs, rfl, .inl (.inl hh), by rw [Res.length rs]; exact l, k3 σ Q q⟩⟩
    · cases e
  · cases e⟩
/-! ### what is walked -/
def WalkV (cm : Cm) (P : Addr → Prop) (J : It) (xs : List Val) (H1 : Hp) : Prop := Walk J xs.length (fun H => Keep P H1 H ∧ Hid P H) (fun i H x H' => Same H H' ∧ ∃ y, xs[i]? = some y ∧ ∀ P2 : Addr → Prop, (∀ a, P2 a → P a ∨ H1 a = none) → Hid P2 H → Re cm P2 H' x y)
def iV (cm : Cm) (f : En → Option (List Val)) : TI := fun σ H R => ∃ (P : Addr → Prop) (env : En) (xs : List Val), Slots cm P H σ env ∧ f env = some xs ∧ ∀ J H', Same H H' → WalkV cm P J xs H' → R J H'
abbrev VI (X : Cx) (cm : Cm) (tg it : Expr) (f : En → Option (List Val)) : Prop := PI X tg it (iV cm f)
theorem _root_.L2.PI.weak {tg it : Expr} {t t' : TI} (h : PI X tg it t) (k : ∀ σ H R, t' σ H R → t σ H R) : PI X tg it t' := ⟨fun pins s σ H R I q => h.run pins s σ H R I (k σ H R q)⟩
end
end Up

namespace Up
open PySem PySem.Spec PyProof.Rows L2
/-- more is hidden, of what does not stand -/
theorem Rep.more {cm : Cm} {P P' : Addr → Prop} {H : Hp} (s : ∀ a, P' a → P a ∨ H a = none) : ∀ {b : Bool} {vs : List V} {xs : List Val}, Rep cm P H b vs xs → Rep cm P' H b vs xs := fun h => by
  have k : ∀ (a : Addr) (o : HO), ¬ P a → H a = some o → ¬ P' a := fun a o n e c => by
    rcases s a c with z | z
    · exact n z
    · rw [e] at z
      cases z
  induction h with
  | nil => exact .nil
  | cons _ _ i1 i2 => exact .cons i1 i2
  | non => exact .non
  | bl b => exact .bl b
  | int i => exact .int i
  | str x => exact .str x
  | lst n e _ ih => exact .lst (k _ _ n e) e ih
  | tup n e _ ih => exact .tup (k _ _ n e) e ih
  | dct n e l1 l2 g1 g2 _ ih => exact .dct (k _ _ n e) e l1 l2 g1 g2 ih
  | ins n e _ ih => exact .ins (k _ _ n e) e ih
  | set n e h1 h2 => exact .set (k _ _ n e) e h1 h2
theorem Rep.move {cm : Cm} {P P' : Addr → Prop} {H H' : Hp} (s : ∀ a, P' a → P a ∨ H a = none) (kp : Keep P H H') {b : Bool} {vs : List V} {xs : List Val} (h : Rep cm P H b vs xs) : Rep cm P' H' b vs xs := by
  have h1 : Rep cm (fun a => P a ∨ P' a) H b vs xs := h.more fun a c => c.elim .inl (s a)
  exact (h1.keep fun a o e n => kp a o e fun c => n (.inl c)).less fun a c => .inr c
section
variable {X : Cx} {cm : Cm} {a b c e : Expr} {es : List Expr} {f g h : En → Option Val} {pos : Pos}
theorem vi_of {J : It} {P : Addr → Prop} {vs : List V} {xs : List Val} {H1 : Hp} {G : Hp → Prop} (w : Walk J vs.length G (YAt vs)) (hG : ∀ H, Keep P H1 H → G H) (r : Res cm P H1 vs xs) : WalkV cm P J xs H1 := by
  unfold WalkV
  rw [← Res.length r]
  refine w.mono (fun H h => hG H h.1) fun i H x H' hi h y => ?_
  obtain ⟨rfl, e⟩ := y
  obtain ⟨y, e2, r2⟩ := Res.getV r e
  exact ⟨Same.refl _, y, e2, fun P2 s _ => r2.move s h.1⟩
def itF (f : En → Option Val) : En → Option (List Val) := fun env => (f env).bind itemsOf
def itL (f : En → Option Val) : En → Option (List Val) := fun env => (f env).bind fun x => match x with
  | .lst xs => some xs
  | _ => none
def itT (f : En → Option Val) : En → Option (List Val) := fun env => (f env).bind fun x => match x with
  | .tup xs => some xs
  | _ => none
theorem vi_list {tg : Expr} (he : VE X cm e f) : VI X cm tg e (itL f) := (pi_list he).weak fun σ H R ⟨P, env, z, hs, hf, q⟩ => by
  obtain ⟨x, ex, hf⟩ := Option.bind_eq_some_iff.mp hf
  refine ⟨P, env, x, hs, ex, fun v H1 s1 r1 => ?_⟩
  cases r1 <;> cases hf
  rename_i a vs n hh r
  exact ⟨a, rfl, ⟨vs, .inl (.inl hh)⟩, q _ H1 s1 (vi_of walk_list (fun H k => .inl (.inl (k _ _ hh n))) r)⟩
theorem vi_tup {tg : Expr} (he : VE X cm e f) : VI X cm tg e (itT f) := (pi_tup he).weak fun σ H R ⟨P, env, z, hs, hf, q⟩ => by
  obtain ⟨x, ex, hf⟩ := Option.bind_eq_some_iff.mp hf
  refine ⟨P, env, x, hs, ex, fun v H1 s1 r1 => ?_⟩
  cases r1 <;> cases hf
  rename_i a vs n hh r
  exact ⟨a, rfl, ⟨vs, .inl (.inl hh)⟩, q _ H1 s1 (vi_of walk_tup (fun H k => .inl (.inl (k _ _ hh n))) r)⟩
theorem vi_seq {tg : Expr} (he : VE X cm e f) : VI X cm tg e (itF f) := (pi_seq he).weak fun σ H R ⟨P, env, z, hs, hf, q⟩ => by
  obtain ⟨x, ex, hf⟩ := Option.bind_eq_some_iff.mp hf
  refine ⟨P, env, x, hs, ex, fun v H1 s1 r1 => ?_⟩
  cases r1 <;> cases hf
  · rename_i a vs n hh r
    exact ⟨a, rfl, .inl ⟨vs, .inl (.inl hh), q _ H1 s1 (vi_of walk_list (fun H k => .inl (.inl (k _ _ hh n))) r)⟩⟩
  · rename_i a vs n hh r
    exact ⟨a, rfl, .inr ⟨vs, .inl (.inl hh), q _ H1 s1 (vi_of walk_tup (fun H k => .inl (.inl (k _ _ hh n))) r)⟩⟩
/-! ranges -/
def rangeV (lo : Int) : Nat → List Val
  | 0 => []
  | n + 1 => .int lo :: rangeV (lo + 1) n
theorem rangeV_len : ∀ (n : Nat) (lo : Int), (rangeV lo n).length = n
  | 0, _ => rfl
  | n + 1, lo => by rw [rangeV, List.length_cons, rangeV_len n]
theorem rangeV_get : ∀ {n i : Nat} {lo : Int}, i < n → (rangeV lo n)[i]? = some (.int (lo + i))
  | 0, i, lo, h => absurd h (Nat.not_lt_zero _)
  | n + 1, 0, lo, _ => by
    show some (Val.int lo) = _
    rw [show lo + ((0 : Nat) : Int) = lo by omega]
  | n + 1, i + 1, lo, h => by
    show (rangeV (lo + 1) n)[i]? = _
    rw [rangeV_get (by omega), show lo + 1 + (i : Int) = lo + ((i + 1 : Nat) : Int) by omega]
theorem vi_rng {P : Addr → Prop} {lo : Int} {n : Nat} {H1 : Hp} : WalkV cm P (Itr lo n) (rangeV lo n) H1 := by
  unfold WalkV
  rw [rangeV_len]
  refine walk_range.mono (fun H h => True.intro) fun i H x H' hi h y => ?_
  obtain ⟨rfl, rfl⟩ := y
  exact ⟨Same.refl _, _, rangeV_get hi, fun P2 s _ => .int _⟩
def rng1 (k : En → Option (List Val)) : En → Option (List Val) := fun env => (k env).bind fun xs => match xs with
  | [.int j] => if -1000000 ≤ j ∧ j ≤ 1000000 then some (rangeV 0 j.toNat) else none
  | _ => none
theorem vi_range1 {tg : Expr} {p : Pos} {k : En → Option (List Val)} (hg : Gl X "range") (hm : X.mg "range" = none) (ha : VA X cm [a] k) (hs : starEach [a] X.env = [(false, eval a X.env)] := by rfl) : VI X cm tg (.Call (.Name "range" p) [a] [] pos) (rng1 k) :=
  (pi_range1 hg hm ha hs).weak fun σ H R ⟨P, env, z, hs, hf, q⟩ => by
    unfold rng1 at hf
    obtain ⟨xs, ex, hf⟩ := Option.bind_eq_some_iff.mp hf
    refine ⟨P, env, xs, hs, ex, fun vs H1 s1 r1 => ?_⟩
    split at hf
    · split at hf
      · rename_i j c
        cases hf
        obtain ⟨v, rfl, r2⟩ := Res.one r1
        cases r2.int_
        exact ⟨j, rfl, by omega, by omega, q _ H1 s1 vi_rng⟩
      · cases hf
    · cases hf
def rng2 (k : En → Option (List Val)) : En → Option (List Val) := fun env => (k env).bind fun xs => match xs with
  | [.int i, .int j] => if -1000000 ≤ i ∧ i ≤ 1000000 ∧ -1000000 ≤ j ∧ j ≤ 1000000 then some (rangeV i (j - i).toNat) else none
  | _ => none
theorem vi_range2 {tg : Expr} {p : Pos} {k : En → Option (List Val)} (hg : Gl X "range") (hm : X.mg "range" = none) (ha : VA X cm [a, b] k) (hs : starEach [a, b] X.env = [(false, eval a X.env), (false, eval b X.env)] := by rfl) (hs2 : starEach [b] X.env = [(false, eval b X.env)] := by rfl) :
    VI X cm tg (.Call (.Name "range" p) [a, b] [] pos) (rng2 k) :=
  (pi_range2 hg hm ha hs hs2).weak fun σ H R ⟨P, env, z, hs, hf, q⟩ => by
    unfold rng2 at hf
    obtain ⟨xs, ex, hf⟩ := Option.bind_eq_some_iff.mp hf
    refine ⟨P, env, xs, hs, ex, fun vs H1 s1 r1 => ?_⟩
    split at hf
    · split at hf
      · rename_i i j c
        cases hf
        obtain ⟨v, u, rfl, r2, r3⟩ := Res.two r1
        cases r2.int_
        cases r3.int_
        exact ⟨i, j, rfl, ⟨by omega, by omega, by omega, by omega⟩, q _ H1 s1 vi_rng⟩
      · cases hf
    · cases hf
/-! pairs made anew -/
def pairV : List Val → List Val → List Val
  | x :: xs, y :: ys => .tup [x, y] :: pairV xs ys
  | _, _ => []
theorem pairV_len : ∀ (xs ys : List Val), (pairV xs ys).length = min xs.length ys.length
  | [], ys => by simp [pairV]
  | x :: xs, [] => by simp [pairV]
  | x :: xs, y :: ys => by
    rw [pairV, List.length_cons, pairV_len xs ys, List.length_cons, List.length_cons]
    omega
theorem pairV_get : ∀ {xs ys : List Val} {i : Nat} {x y : Val}, xs[i]? = some x → ys[i]? = some y → (pairV xs ys)[i]? = some (.tup [x, y])
  | [], _, _, _, _, e, _ => by simp at e
  | _ :: _, [], _, _, _, _, e => by simp at e
  | x :: xs, y :: ys, 0, _, _, e1, e2 => by
    simp at e1 e2
    subst e1 e2
    rfl
  | x :: xs, y :: ys, i + 1, _, _, e1, e2 => by
    show (pairV xs ys)[i]? = _
    exact pairV_get (by simpa using e1) (by simpa using e2)
theorem vi_pair {J : It} {P : Addr → Prop} {n : Nat} {xs ys : List Val} {fx fy : Nat → Option V} {H1 : Hp} {G : Hp → Prop} (w : Walk J n G (YPair fx fy)) (hn : n = min xs.length ys.length) (hG : ∀ H, Keep P H1 H → G H)
    (hx : ∀ i v, fx i = some v → i < n → ∃ x, xs[i]? = some x ∧ ∀ P2, (∀ a, P2 a → P a ∨ H1 a = none) → Re cm P2 H1 v x ∨ ∀ H, Re cm P2 H v x) (hy : ∀ i v, fy i = some v → i < n → ∃ y, ys[i]? = some y ∧ Re cm P H1 v y)
    (hx2 : ∀ i v x, fx i = some v → xs[i]? = some x → ∀ P2 H, (∀ a, P2 a → P a ∨ H1 a = none) → Keep P H1 H → Re cm P2 H v x) : WalkV cm P J (pairV xs ys) H1 := by
  unfold WalkV
  rw [pairV_len, ← hn]
  refine w.mono (fun H h => hG H h.1) fun i H x H' hi h y => ?_
  obtain ⟨T, v, u, rfl, nT, rfl, e1, e2⟩ := y
  obtain ⟨x, ex, _⟩ := hx i v e1 hi
  obtain ⟨y, ey, ry⟩ := hy i u e2 hi
  have sT : Same H (upd H T (.tup [v, u])) := fun b o eb => by rw [upd_ne (ne_of_none eb nT)]; exact eb
  refine ⟨sT, _, pairV_get ex ey, fun P2 s hd => ?_⟩
  have r1 : Re cm P2 H v x := hx2 i v x e1 ex P2 H s h.1
  have r2 : Re cm P2 H u y := ry.move s h.1
  exact .tup (hd.new nT) upd_same (.cons (r1.same sT) (.cons (r2.same sT) .nil))
theorem vi_zipR {J : It} {P : Addr → Prop} {vs us : List V} {xs ys : List Val} {H1 : Hp} {G : Hp → Prop} (w : Walk J (min vs.length us.length) G (YPair (fun i => vs[i]?) (fun i => us[i]?))) (hG : ∀ H, Keep P H1 H → G H) (rx : Res cm P H1 vs xs) (ry : Res cm P H1 us ys) : WalkV cm P J (pairV xs ys) H1 := by
  refine vi_pair w (by rw [Res.length rx, Res.length ry]) hG (fun i v e _ => ?_) (fun i v e _ => Res.getV ry e) (fun i v x e ex P2 H s k => ?_)
  · obtain ⟨x, e1, r⟩ := Res.getV rx e
    exact ⟨x, e1, fun P2 s => .inl (r.more s)⟩
  · obtain ⟨x', e1, r⟩ := Res.getV rx e
    rw [ex] at e1
    cases e1
    exact r.move s k
def zipA (k : En → Option (List Val)) : En → Option (List Val) := fun env => (k env).bind fun xs => match xs with
  | [.lst xs, .lst ys] => some (pairV xs ys)
  | [.tup xs, .tup ys] => some (pairV xs ys)
  | _ => none
theorem walk_zT {K : PySem.W.Frag} {a b : Addr} {xs ys : List V} : Walk (RZ.ItzT K a b) (min xs.length ys.length) (fun H => SqT K H a xs ∧ SqT K H b ys) (YPair (fun i => xs[i]?) (fun i => ys[i]?)) := by
  refine ⟨fun i _ hi q => ?_, fun _ q => ⟨xs, ys, q.1, q.2, by omega⟩, fun i H v H' _ q y => ?_⟩
  · have h1 : i < xs.length := by omega
    have h2 : i < ys.length := by omega
    exact ⟨xs, ys, xs[i], ys[i], q.1, q.2, by simp [h1], by simp [h2]⟩
  · obtain ⟨T, x, z, h1, h2, h3, h4, h5⟩ := y
    exact ⟨T, x, z, h1, h2, h3, h4 xs q.1, h5 ys q.2⟩
theorem vi_zip {p tp : Pos} {elts : List Expr} {kk : Nat} {k : En → Option (List Val)} (hg : Gl X "zip") (hm : X.mg "zip" = none) (ha : VA X cm [a, b] k)
    (hs : starEach [a, b] X.env = (false, eval a X.env) :: starEach [b] X.env := by rfl) (hpl : (backTo pos (starEach [b] X.env)).any (·.1) = false := by rfl) : VI X cm (.Tuple elts kk tp) (.Call (.Name "zip" p) [a, b] [] pos) (zipA k) :=
  (RZ.pi_zipA hg hm ha hs hpl).weak fun σ H R ⟨P, env, z, hs, hf, q⟩ => by
    unfold zipA at hf
    obtain ⟨xs, ex, hf⟩ := Option.bind_eq_some_iff.mp hf
    refine ⟨P, env, xs, hs, ex, fun vs H1 s1 r1 => ?_⟩
    split at hf
    · cases hf
      obtain ⟨v, u, rfl, r2, r3⟩ := Res.two r1
      obtain ⟨p1, ws1, rfl, n1, h1, t1⟩ := r2.lst_
      obtain ⟨p2, ws2, rfl, n2, h2, t2⟩ := r3.lst_
      exact ⟨p1, p2, ws1, ws2, rfl, .inl ⟨.inl (.inl h1), .inl (.inl h2), q _ H1 s1 (vi_zipR (walk_zip rfl) (fun H k => ⟨.inl (.inl (k _ _ h1 n1)), .inl (.inl (k _ _ h2 n2))⟩) t1 t2)⟩⟩
    · cases hf
      obtain ⟨v, u, rfl, r2, r3⟩ := Res.two r1
      obtain ⟨p1, ws1, rfl, n1, h1, t1⟩ := r2.tup_
      obtain ⟨p2, ws2, rfl, n2, h2, t2⟩ := r3.tup_
      exact ⟨p1, p2, ws1, ws2, rfl, .inr ⟨.inl (.inl h1), .inl (.inl h2), q _ H1 s1 (vi_zipR walk_zT (fun H k => ⟨.inl (.inl (k _ _ h1 n1)), .inl (.inl (k _ _ h2 n2))⟩) t1 t2)⟩⟩
    · cases hf
theorem vi_enumR {J : It} {P : Addr → Prop} {us : List V} {ys : List Val} {H1 : Hp} {G : Hp → Prop} (w : Walk J us.length G (YPair (fun i => some (.int (i : Nat))) (fun i => us[i]?))) (hG : ∀ H, Keep P H1 H → G H) (ry : Res cm P H1 us ys) : WalkV cm P J (pairV (rangeV 0 ys.length) ys) H1 := by
  refine vi_pair w (by rw [rangeV_len, Nat.min_self, Res.length ry]) hG (fun i v e hi => ?_) (fun i v e _ => Res.getV ry e) (fun i v x e ex P2 H s k => ?_)
  · cases e
    refine ⟨.int (0 + (i : Int)), rangeV_get (by rw [← Res.length ry]; exact hi), fun P2 s => .inr fun H => ?_⟩
    rw [show (0 : Int) + (i : Int) = (i : Int) by omega]
    exact .int _
  · cases e
    have lt := (List.getElem?_eq_some_iff.mp ex).1
    rw [rangeV_len] at lt
    rw [rangeV_get lt] at ex
    cases ex
    rw [show (0 : Int) + (i : Int) = (i : Int) by omega]
    exact .int _
def enuT (k : En → Option (List Val)) : En → Option (List Val) := fun env => (k env).bind fun xs => match xs with
  | [.tup ys] => some (pairV (rangeV 0 ys.length) ys)
  | _ => none
def enuL (k : En → Option (List Val)) : En → Option (List Val) := fun env => (k env).bind fun xs => match xs with
  | [.lst ys] => some (pairV (rangeV 0 ys.length) ys)
  | _ => none
theorem vi_enT {p tp : Pos} {elts : List Expr} {kk : Nat} {k : En → Option (List Val)} (hg : Gl X "enumerate") (hm : X.mg "enumerate" = none) (ha : VA X cm [a] k) (hs : starEach [a] X.env = [(false, eval a X.env)] := by rfl) : VI X cm (.Tuple elts kk tp) (.Call (.Name "enumerate" p) [a] [] pos) (enuT k) :=
  (pi_enT hg hm ha hs).weak fun σ H R ⟨P, env, z, hs, hf, q⟩ => by
    unfold enuT at hf
    obtain ⟨xs, ex, hf⟩ := Option.bind_eq_some_iff.mp hf
    refine ⟨P, env, xs, hs, ex, fun vs H1 s1 r1 => ?_⟩
    split at hf
    · cases hf
      obtain ⟨v, rfl, r2⟩ := Res.one r1
      obtain ⟨p1, ws1, rfl, n1, h1, t1⟩ := r2.tup_
      exact ⟨p1, ws1, rfl, .inl (.inl h1), q _ H1 s1 (vi_enumR walk_enT (fun H k => .inl (.inl (k _ _ h1 n1))) t1)⟩
    · cases hf
theorem vi_enL {p tp : Pos} {elts : List Expr} {kk : Nat} {k : En → Option (List Val)} (hg : Gl X "enumerate") (hm : X.mg "enumerate" = none) (ha : VA X cm [a] k) (hs : starEach [a] X.env = [(false, eval a X.env)] := by rfl) : VI X cm (.Tuple elts kk tp) (.Call (.Name "enumerate" p) [a] [] pos) (enuL k) :=
  (pi_enum hg hm ha hs).weak fun σ H R ⟨P, env, z, hs, hf, q⟩ => by
    unfold enuL at hf
    obtain ⟨xs, ex, hf⟩ := Option.bind_eq_some_iff.mp hf
    refine ⟨P, env, xs, hs, ex, fun vs H1 s1 r1 => ?_⟩
    split at hf
    · cases hf
      obtain ⟨v, rfl, r2⟩ := Res.one r1
      obtain ⟨p1, ws1, rfl, n1, h1, t1⟩ := r2.lst_
      exact ⟨p1, ws1, rfl, .inl (.inl h1), q _ H1 s1 (vi_enumR walk_enum (fun H k => .inl (.inl (k _ _ h1 n1))) t1)⟩
    · cases hf
end
/-! ### comprehensions -/
def lcGo (bnd : Val → Option (List (Nat × Val))) (ft : En → Option Bool) (fe : En → Option Val) (env : En) : List Val → Option (List Val)
  | [] => some []
  | x :: xs => (bnd x).bind fun ps => (ft (setE env ps)).bind fun k => if k = true then (fe (setE env ps)).bind fun y => (lcGo bnd ft fe env xs).bind fun ys => some (y :: ys) else lcGo bnd ft fe env xs
def lcF (fi : En → Option (List Val)) (bnd : Val → Option (List (Nat × Val))) (ft : En → Option Bool) (fe : En → Option Val) (vs : List Nat) : En → Option (List Val) := fun env => (fi env).bind fun xs => if xs.length ≤ most then lcGo bnd ft fe (wipeE env vs) xs else none
def TtV (cm : Cm) (tt : TT) (f : En → Option Bool) : Prop := ∀ (P : Addr → Prop) (env : En) (b : Bool) (σ : L2.St) (H : Hp) (Q : Bool → Hp → Prop), Slots cm P H σ env → f env = some b → (∀ H', Same H H' → Q b H') → tt σ H Q
def yesF : En → Option Bool := fun _ => some true
theorem tt_yes {cm : Cm} : TtV cm tYes yesF := fun P env b σ H Q hs e q => by
  cases e
  exact q H (Same.refl H)
theorem tt_of {cm : Cm} {f : En → Option Bool} : TtV cm (tVT cm f) f := fun P env b σ H Q hs e q => ⟨P, env, b, hs, e, q⟩
/-- a new list -/
def tN (cm : Cm) (f : En → Option (List Val)) : TE := fun σ H Q => ∃ (P : Addr → Prop) (env : En) (xs : List Val), Slots cm P H σ env ∧ f env = some xs ∧ ∀ a vs H', Same H H' → H a = none → H' a = some (.lst vs) → Res cm (fun b => P b ∨ b = a) H' vs xs → xs.length ≤ most → Q (.ref a) H'
abbrev VN (X : Cx) (cm : Cm) (e : Expr) (f : En → Option (List Val)) : Prop := PE X e (tN cm f)
theorem lcGo_len {bnd : Val → Option (List (Nat × Val))} {ft : En → Option Bool} {fe : En → Option Val} {env : En} : ∀ {xs ys : List Val}, lcGo bnd ft fe env xs = some ys → ys.length ≤ xs.length
  | [], ys, e => by
    cases e
    exact Nat.le_refl _
  | x :: xs, ys, e => by
    unfold lcGo at e
    obtain ⟨env1, e1, e⟩ := Option.bind_eq_some_iff.mp e
    obtain ⟨k, e2, e⟩ := Option.bind_eq_some_iff.mp e
    by_cases c : k = true
    · rw [if_pos c] at e
      obtain ⟨y, e3, e⟩ := Option.bind_eq_some_iff.mp e
      obtain ⟨ys', e4, e⟩ := Option.bind_eq_some_iff.mp e
      cases e
      have := lcGo_len e4
      rw [List.length_cons, List.length_cons]
      omega
    · rw [if_neg c] at e
      have := lcGo_len e
      rw [List.length_cons]
      omega
theorem tLc_of {cm : Cm} {fi : En → Option (List Val)} {g : TG} {bnd : Val → Option (List (Nat × Val))} {is vs : List Nat} {tt : TT} {ft : En → Option Bool} {fe : En → Option Val} (hg : TgV cm g bnd is) (hi : ∀ i ∈ is, i ∈ vs) (ht : TtV cm tt ft) (σ : L2.St) (H : Hp) (Q : VK) (q : tN cm (lcF fi bnd ft fe vs) σ H Q) :
    tLc (iV cm fi) g tt (tV cm fe) vs σ H Q := by
  obtain ⟨P, env, ys, hs, hf, q⟩ := q
  unfold lcF at hf
  obtain ⟨xs, ex, hf⟩ := Option.bind_eq_some_iff.mp hf
  split at hf
  case isFalse => cases hf
  rename_i hl
  refine ⟨P, env, xs, hs, ex, fun J H1 s1 w D nD => ?_⟩
  have hs1 := hs.same s1
  have nPD : ¬ P D := hs1.hid.new nD
  refine lc_it w (fun i H2 => ∃ (acc : List V) (dn rest : List Val), H2 D = some (.lst acc) ∧ Same H1 H2 ∧ Res cm (fun b => P b ∨ b = D) H2 acc dn ∧ lcGo bnd ft fe (wipeE env vs) (xs.drop i) = some rest ∧ dn ++ rest = ys ∧ acc.length ≤ i) ⟨[], [], ys, upd_same, fun b o e => by rw [upd_ne (ne_of_none e nD)]; exact e, .nil, hf, rfl, Nat.le_refl _⟩ (fun i H2 _ ⟨_, _, _, _, s2, _⟩ => ⟨.of s2, hs1.hid.same s2⟩) ?_ ?_
  · rintro i x H2 H3 hi2 ⟨acc, dn, rest, hD, s2, rs, hr, hy, la⟩ ⟨s3, y, ey, ry⟩
    have hid2 : Hid (fun b => P b ∨ b = D) H2 := fun a c => by
      rcases c with c | c
      · exact (hs1.hid.same s2) a c
      · exact ⟨.lst acc, by rw [c]; exact hD, fun vs z => nomatch z⟩
    have ry2 := ry (fun b => P b ∨ b = D) (fun a c => c.elim .inl fun z => .inr (by rw [z]; exact nD)) hid2
    have hs2 : Slots cm (fun b => P b ∨ b = D) H3 (L2.wipe σ vs) (wipeE env vs) := by
      have k : Slots cm (fun b => P b ∨ b = D) H2 σ env := ⟨hs.len, fun j z ez => by
        obtain ⟨v, h1, h2⟩ := hs1.at_ j z ez
        exact ⟨v, h1, h2.move (fun a c => c.elim .inl fun z => .inr (by rw [z]; exact nD)) (.of s2)⟩, hid2⟩
      exact (k.same s3).wipe vs
    have dr : xs.drop i = y :: xs.drop (i + 1) := by
      obtain ⟨lt, eq⟩ := List.getElem?_eq_some_iff.mp ey
      rw [List.drop_eq_getElem_cons lt, eq]
    rw [dr] at hr
    unfold lcGo at hr
    obtain ⟨env1, e1, hr⟩ := Option.bind_eq_some_iff.mp hr
    obtain ⟨k, e2, hr⟩ := Option.bind_eq_some_iff.mp hr
    obtain ⟨qs, pr, mem, go⟩ := hg.go _ H3 x y env1 ry2 e1
    have hs3 := Slots.sets pr hs2
    refine go _ _ ⟨?_, ht _ _ k _ H3 _ hs3 e2 fun H4 s4 => ?_⟩
    · rw [wipe_setA fun q hq => hi _ (mem q hq), wipe_wipe fun _ h => h]
    · have hD4 := s4 _ _ (s3 _ _ hD)
      have s14 := s2.trans (s3.trans s4)
      have rs4 := (Rep.same s3 rs).same s4
      by_cases c : k = true
      · rw [if_pos c] at hr ⊢
        obtain ⟨z, e3, hr⟩ := Option.bind_eq_some_iff.mp hr
        obtain ⟨ys', e4, hr⟩ := Option.bind_eq_some_iff.mp hr
        cases hr
        refine ⟨_, _, z, hs3.same s4, e3, fun u H5 s5 ru => ⟨acc, s5 _ _ hD4, most_line (by omega), ?_⟩⟩
        have kp : Keep (fun b => P b ∨ b = D) H5 (upd H5 D (.lst (acc ++ [u]))) := fun b o e n => by
          rw [upd_ne fun z => n (.inr z)]
          exact e
        refine ⟨acc ++ [u], dn ++ [z], ys', upd_same, fun b o e => ?_, Res.snoc ((Rep.same s5 rs4).keep kp) (ru.keep kp), e4, by rw [List.append_assoc]; exact hy, by rw [List.length_append]; show acc.length + 1 ≤ i + 1; omega⟩
        rw [upd_ne (ne_of_none e nD)]
        exact s5 _ _ (s14 _ _ e)
      · rw [if_neg c] at hr ⊢
        exact ⟨acc, dn, rest, hD4, s14, rs4, hr, hy, by omega⟩
  · rintro H2 ⟨acc, dn, rest, hD, s2, rs, hr, hy, la⟩
    rw [List.drop_length] at hr
    cases hr
    rw [List.append_nil] at hy
    subst hy
    exact q D acc H2 (s1.trans s2) (s1.free nD) hD rs (by rw [← Res.length rs]; omega)
section
variable {X : Cx} {cm : Cm} {a b c e : Expr} {es : List Expr} {f g h : En → Option Val} {pos : Pos}
/-- a new list as any other value -/
theorem vn_ve {k : En → Option (List Val)} (h : VN X cm e k) : VE X cm e (fun env => (k env).map .lst) := h.weak fun σ H Q ⟨P, env, z, hs, hf, q⟩ => by
  obtain ⟨xs, ex, rfl⟩ := Option.map_eq_some_iff.mp hf
  exact ⟨P, env, xs, hs, ex, fun a vs H' s na ha rs _ => q _ H' s (.lst (hs.hid.new na) ha (rs.less fun b c => .inl c))⟩
theorem vn_lc {elt tg iter : Expr} {ifs : List Expr} {scope : Scope} {own : List (Str × Nat)} {g : TG} {tt : TT} {fi : En → Option (List Val)} {bnd : Val → Option (List (Nat × Val))} {ft : En → Option Bool} {fe : En → Option Val} {is : List Nat} (hc : X.calm = true) (hN : X.N.Nodup) (hi : VI X cm tg iter fi) (ok : BlkOk X.N X.env.scope scope own)
    (hg : ∀ (s : Shared) (H : Hp) (C : Addr) (cl : List (Str × Addr)) (fp : List Addr), PG (X.blk s H scope (compEnvC scope cl C X.env) fp) tg g) (ht : ∀ (s : Shared) (H : Hp) (C : Addr) (cl : List (Str × Addr)) (fp : List Addr), PTs (X.blk s H scope (compEnvC scope cl C X.env) fp) ifs tt)
    (he : ∀ (s : Shared) (H : Hp) (C : Addr) (cl : List (Str × Addr)) (fp : List Addr), VE (X.blk s H scope (compEnvC scope cl C X.env) fp) cm elt fe) (tg_ : TgV cm g bnd is) (hi2 : ∀ i ∈ is, i ∈ own.map (·.2)) (tt_ : TtV cm tt ft) (hs : ∀ x, foldedSetIterable iter X.env x = pure x := by intro _; rfl) :
    VN X cm (.ListComp elt [⟨tg, iter, ifs, 0⟩] scope pos) (lcF fi bnd ft fe (own.map (·.2))) := (pe_lc hc hN hi ok hg ht he hs).weak (tLc_of tg_ hi2 tt_)
end
end Up

namespace Up
open PySem PySem.Spec PyProof.Rows L2
/-! ### statements: names that hold values, and names in ow that hold lists of their own -/
def isOwn (ow : List Nat) (env : En) (σ : L2.St) (a : Addr) : Prop := ∃ i ∈ ow, (∃ x, env[i]? = some (some x)) ∧ σ[i]? = some (some (.ref a))
def Ow (P : Addr → Prop) (ow : List Nat) (env : En) (σ : L2.St) (a : Addr) : Prop := P a ∨ isOwn ow env σ a
/-- what is owned: a list, a set, a dict whose keys are tuples -/
inductive Top (cm : Cm) (P : Addr → Prop) (H : Hp) (a : Addr) : Val → Prop where
  | lst {vs : List V} {xs : List Val} : H a = some (.lst vs) → Res cm P H vs xs → Top cm P H a (.lst xs)
  | set {S : Int → Bool} {n : Nat} {xs : List Int} : H a = some (SetO cm.w a S n) → (∀ i, S i = decide (i ∈ xs)) → n = xs.length → Top cm P H a (.set xs)
  | dct {kvs : List (List Key × V)} {ks : List (List Key)} {vs : List V} {xs : List Val} : H a = some (.dT kvs) → kvs.length = ks.length → vs.length = ks.length →
      (∀ (i : Nat) (k : List Key) (v : V), ks[i]? = some k → vs[i]? = some v → valV kvs k = some v) → (∀ k, k ∉ ks → valV kvs k = none) → Res cm P H vs xs → Top cm P H a (.dct ks xs)
theorem Top.re {cm : Cm} {P P' : Addr → Prop} {H : Hp} {a : Addr} {x : Val} (s : ∀ b, P' b → P b) (n : ¬ P' a) (t : Top cm P H a x) : Re cm P' H (.ref a) x := by
  cases t with
  | lst h r => exact .lst n h (r.less s)
  | set h h1 h2 => exact .set n h h1 h2
  | dct h l1 l2 g1 g2 r => exact .dct n h l1 l2 g1 g2 (r.less s)
theorem Top.same {cm : Cm} {P : Addr → Prop} {H H' : Hp} {a : Addr} {x : Val} (s : Same H H') (t : Top cm P H a x) : Top cm P H' a x := by
  cases t with
  | lst h r => exact .lst (s _ _ h) (Rep.same s r)
  | set h h1 h2 => exact .set (s _ _ h) h1 h2
  | dct h l1 l2 g1 g2 r => exact .dct (s _ _ h) l1 l2 g1 g2 (Rep.same s r)
/-- another object of one's own was changed -/
theorem Top.keep {cm : Cm} {P : Addr → Prop} {H H' : Hp} {a : Addr} {x : Val} (e : ∀ o, H a = some o → H' a = some o) (s : Keep P H H') (t : Top cm P H a x) : Top cm P H' a x := by
  cases t with
  | lst h r => exact .lst (e _ h) (Rep.keep s r)
  | set h h1 h2 => exact .set (e _ h) h1 h2
  | dct h l1 l2 g1 g2 r => exact .dct (e _ h) l1 l2 g1 g2 (Rep.keep s r)
theorem Top.no {cm : Cm} {P : Addr → Prop} {H : Hp} {a : Addr} {x : Val} (t : Top cm P H a x) : ∃ o, H a = some o ∧ ∀ vs, o ≠ .tup vs := by
  cases t with
  | lst h r => exact ⟨_, h, fun vs z => by cases z⟩
  | set h h1 h2 => exact ⟨_, h, fun vs z => by cases z⟩
  | dct h l1 l2 g1 g2 r => exact ⟨_, h, fun vs z => by cases z⟩
structure StV (cm : Cm) (P : Addr → Prop) (ow : List Nat) (H0 : Hp) (env : En) (σ : L2.St) (H : Hp) : Prop where
  sl : Slots cm (Ow P ow env σ) H σ (wipeE env ow)
  own : ∀ i ∈ ow, ∀ x, env[i]? = some (some x) → ∃ a, σ[i]? = some (some (.ref a)) ∧ ¬ P a ∧ H0 a = none ∧ Top cm (Ow P ow env σ) H a x
  dis : ∀ i ∈ ow, ∀ j ∈ ow, ∀ a, (∃ x, env[i]? = some (some x)) → (∃ x, env[j]? = some (some x)) → σ[i]? = some (some (.ref a)) → σ[j]? = some (some (.ref a)) → i = j
  len : σ.length = env.length
  base : Same H0 H
inductive Out where
  | nx (env : En)
  | rt (x : Val)
  | bk (env : En)
  | ct (env : En)
/-- what stood stays, but what is owned; what is newly owned is new -/
structure Fr (P : Addr → Prop) (ow : List Nat) (env : En) (σ : L2.St) (H : Hp) (env' : En) (σ' : L2.St) (H' : Hp) : Prop where
  kp : Keep (Ow P ow env σ) H H'
  nw : ∀ a, Ow P ow env' σ' a → Ow P ow env σ a ∨ H a = none
  st : ∀ a, NT H a → NT H' a
theorem Fr.refl {P : Addr → Prop} {ow : List Nat} {env : En} {σ : L2.St} {H : Hp} : Fr P ow env σ H env σ H := ⟨.refl, fun a c => .inl c, fun a n => n⟩
theorem Fr.trans {P : Addr → Prop} {ow : List Nat} {env e1 e2 : En} {σ s1 s2 : L2.St} {H H1 H2 : Hp} (a : Fr P ow env σ H e1 s1 H1) (b : Fr P ow e1 s1 H1 e2 s2 H2) : Fr P ow env σ H e2 s2 H2 := by
  have back : ∀ c, H1 c = none → Ow P ow env σ c ∨ H c = none := fun c h => by
    by_cases k : Ow P ow env σ c
    · exact .inl k
    · cases e : H c with
      | none => exact .inr rfl
      | some o =>
        rw [a.kp c o e k] at h
        cases h
  refine ⟨fun c o e n => b.kp c o (a.kp c o e n) fun k => ?_, fun c k => ?_, fun c n => b.st c (a.st c n)⟩
  · rcases a.nw c k with z | z
    · exact n z
    · rw [e] at z
      cases z
  · rcases b.nw c k with z | z
    · exact a.nw c z
    · exact back c z
def Ends.at_ (cm : Cm) (P : Addr → Prop) (ow : List Nat) (H0 : Hp) (env : En) (σ : L2.St) (H : Hp) (D : Ends) : Out → Prop
  | .nx env' => ∀ σ' H', StV cm P ow H0 env' σ' H' → Fr P ow env σ H env' σ' H' → D.nx σ' H'
  | .bk env' => ∀ σ' H', StV cm P ow H0 env' σ' H' → Fr P ow env σ H env' σ' H' → D.bk σ' H'
  | .ct env' => ∀ σ' H', StV cm P ow H0 env' σ' H' → Fr P ow env σ H env' σ' H' → D.ct σ' H'
  | .rt x => ∀ v H', Same H0 H' → Re cm P H' v x → D.rt v H'
def tSV (cm : Cm) (ow : List Nat) (g : En → Option Out) : TS := fun D σ H => ∃ (P : Addr → Prop) (H0 : Hp) (env : En) (o : Out), StV cm P ow H0 env σ H ∧ g env = some o ∧ Ends.at_ cm P ow H0 env σ H D o
abbrev SV (X : Cx) (cm : Cm) (ow : List Nat) (st : Stmt) (g : En → Option Out) : Prop := PS X st (tSV cm ow g)
abbrev SVs (X : Cx) (cm : Cm) (ow : List Nat) (st : List Stmt) (g : En → Option Out) : Prop := PSs X st (tSV cm ow g)
theorem _root_.L2.PS.weak {X : Cx} {st : Stmt} {t t' : TS} (h : PS X st t) (k : ∀ D σ H, t' D σ H → t D σ H) : PS X st t' := ⟨fun pins s σ H D I q => h.run pins s σ H D I (k D σ H q)⟩
theorem _root_.L2.PSs.weak {X : Cx} {st : List Stmt} {t t' : TS} (h : PSs X st t) (k : ∀ D σ H, t' D σ H → t D σ H) : PSs X st t' := ⟨fun pins s σ H D I q => h.run pins s σ H D I (k D σ H q)⟩
section
variable {cm : Cm} {P : Addr → Prop} {ow : List Nat} {H0 H H' : Hp} {env : En} {σ : L2.St}
theorem StV.same (s : Same H H') (h : StV cm P ow H0 env σ H) : StV cm P ow H0 env σ H' :=
  ⟨h.sl.same s, fun i hi x e => let ⟨a, h2, h4, h5, h6⟩ := h.own i hi x e; ⟨a, h2, h4, h5, h6.same s⟩, h.dis, h.len, h.base.trans s⟩
theorem Fr.same (s : Same H H') : Fr P ow env σ H env σ H' := ⟨.of s, fun a c => .inl c, fun a n => n.same s⟩
theorem wipeE_len (env : En) : ∀ vs : List Nat, (wipeE env vs).length = env.length
  | [] => rfl
  | v :: vs => by
    show ((wipeE env vs).set v none).length = _
    rw [List.length_set, wipeE_len env vs]
theorem wipeE_in {env : En} {i : Nat} : ∀ {vs : List Nat}, i ∈ vs → ∀ x, (wipeE env vs)[i]? ≠ some (some x)
  | v :: vs, h, x, e => by
    replace e : ((wipeE env vs).set v none)[i]? = some (some x) := e
    by_cases c : v = i
    · subst c
      have lt := (List.getElem?_eq_some_iff.mp e).1
      rw [List.length_set] at lt
      rw [List.getElem?_set_self lt] at e
      cases e
    · rw [List.getElem?_set_ne c] at e
      rcases List.mem_cons.mp h with z | z
      · exact c z.symm
      · exact wipeE_in z x e
theorem wipeE_out {env : En} {i : Nat} : ∀ {vs : List Nat}, i ∉ vs → (wipeE env vs)[i]? = env[i]?
  | [], _ => rfl
  | v :: vs, h => by
    show ((wipeE env vs).set v none)[i]? = _
    rw [List.getElem?_set_ne (fun (c : v = i) => h (by rw [c]; exact List.mem_cons_self ..))]
    exact wipeE_out fun c => h (List.mem_cons_of_mem _ c)
theorem wipeE_set {env : En} {i : Nat} {o : Option Val} : ∀ {vs : List Nat}, i ∉ vs → wipeE (env.set i o) vs = (wipeE env vs).set i o
  | [], _ => rfl
  | v :: vs, h => by
    show (wipeE (env.set i o) vs).set v none = ((wipeE env vs).set v none).set i o
    rw [wipeE_set fun c => h (List.mem_cons_of_mem _ c), List.set_comm _ _ (fun (c : i = v) => h (by rw [c]; exact List.mem_cons_self ..))]
/-- all of it, as it is read -/
theorem StV.view (h : StV cm P ow H0 env σ H) : Slots cm P H σ env := by
  refine ⟨h.len, fun i x e => ?_, fun a p => h.sl.hid a (.inl p)⟩
  by_cases c : i ∈ ow
  · obtain ⟨a, h2, h4, h5, h6⟩ := h.own i c x e
    exact ⟨_, h2, h6.re (fun b z => .inl z) h4⟩
  · obtain ⟨v, h1, h2⟩ := h.sl.at_ i x (by rw [wipeE_out c]; exact e)
    exact ⟨v, h1, h2.less fun b z => .inl z⟩
theorem Ow.set {i : Nat} {o : Option V} {x : Option Val} (hi : i ∉ ow) (a : Addr) : Ow P ow (env.set i x) (σ.set i o) a ↔ Ow P ow env σ a := by
  have k : ∀ {α : Type} (l : List α) (y : α) (j : Nat), j ∈ ow → (l.set i y)[j]? = l[j]? := fun l y j hj => List.getElem?_set_ne (fun (c : i = j) => hi (by rw [c]; exact hj))
  constructor
  · rintro (c | ⟨j, hj, ⟨y, hy⟩, hs⟩)
    · exact .inl c
    · rw [k _ _ j hj] at hy hs
      exact .inr ⟨j, hj, ⟨y, hy⟩, hs⟩
  · rintro (c | ⟨j, hj, ⟨y, hy⟩, hs⟩)
    · exact .inl c
    · exact .inr ⟨j, hj, ⟨y, by rw [k _ _ j hj]; exact hy⟩, by rw [k _ _ j hj]; exact hs⟩
theorem StV.set (h : StV cm P ow H0 env σ H) {i : Nat} (hi : i ∉ ow) {v : V} {x : Val} (r : Re cm (Ow P ow env σ) H v x) : StV cm P ow H0 (env.set i (some x)) (σ.set i (some v)) H := by
  have k : ∀ {α : Type} (l : List α) (y : α) (j : Nat), j ∈ ow → (l.set i y)[j]? = l[j]? := fun l y j hj => List.getElem?_set_ne (fun (c : i = j) => hi (by rw [c]; exact hj))
  have e1 : Ow P ow (env.set i (some x)) (σ.set i (some v)) = Ow P ow env σ := funext fun a => propext (Ow.set hi a)
  refine ⟨?_, fun j hj y e => ?_, fun j hj l hl a x1 x2 e3 e4 => ?_, by rw [List.length_set, List.length_set]; exact h.len, h.base⟩
  · rw [e1, wipeE_set hi]
    exact h.sl.set r
  · rw [k _ _ j hj] at e
    obtain ⟨a, h2, h4, h5, h6⟩ := h.own j hj y e
    exact ⟨a, by rw [k _ _ j hj]; exact h2, h4, h5, by rw [e1]; exact h6⟩
  · rw [k _ _ j hj] at x1 e3
    rw [k _ _ l hl] at x2 e4
    exact h.dis j hj l hl a x1 x2 e3 e4
theorem Fr.set {i : Nat} (hi : i ∉ ow) {o : Option V} {x : Option Val} (s : Same H H') : Fr P ow env σ H (env.set i x) (σ.set i o) H' := ⟨.of s, fun a c => .inl ((Ow.set hi a).mp c), fun a n => n.same s⟩
end
section
variable {X : Cx} {cm : Cm} {ow : List Nat} {a b c e : Expr} {es : List Expr} {f g h : En → Option Val} {pos : Pos} {st : Stmt} {rest : List Stmt}
def nilG : En → Option Out := fun env => some (.nx env)
def seqG (g k : En → Option Out) : En → Option Out := fun env => (g env).bind fun o => match o with
  | .nx env' => k env'
  | o => some o
theorem sv_nil : SVs X cm ow [] nilG := pss_nil.weak fun D σ H ⟨P, H0, env, o, hs, hg, q⟩ => by
  cases hg
  exact q σ H hs .refl
theorem sv_one {k : En → Option Out} (h : SV X cm ow st k) : SVs X cm ow [st] k := pss_one h
theorem sv_cons {k l : En → Option Out} (h1 : SV X cm ow st k) (h2 : SVs X cm ow rest l) : SVs X cm ow (st :: rest) (seqG k l) := (pss_cons h1 h2).weak fun D σ H ⟨P, H0, env, o, hs, hg, q⟩ => by
  unfold seqG at hg
  obtain ⟨o1, e1, hg⟩ := Option.bind_eq_some_iff.mp hg
  refine ⟨P, H0, env, o1, hs, e1, ?_⟩
  cases o1 with
  | nx env1 =>
    intro σ1 H1 hs1 f1
    refine ⟨P, H0, env1, o, hs1, hg, ?_⟩
    cases o with
    | nx env2 => exact fun σ2 H2 hs2 f2 => q σ2 H2 hs2 (f1.trans f2)
    | bk env2 => exact fun σ2 H2 hs2 f2 => q σ2 H2 hs2 (f1.trans f2)
    | ct env2 => exact fun σ2 H2 hs2 f2 => q σ2 H2 hs2 (f1.trans f2)
    | rt x => exact q
  | bk env1 =>
    cases hg
    exact q
  | ct env1 =>
    cases hg
    exact q
  | rt x =>
    cases hg
    exact q
def passG : En → Option Out := fun env => some (.nx env)
theorem sv_pass : SV X cm ow (.Pass pos) passG := ps_pass.weak fun D σ H ⟨P, H0, env, o, hs, hg, q⟩ => by
  cases hg
  exact q σ H hs .refl
def brkG : En → Option Out := fun env => some (.bk env)
theorem sv_break : SV X cm ow (.Break pos) brkG := ps_break.weak fun D σ H ⟨P, H0, env, o, hs, hg, q⟩ => by
  cases hg
  exact q σ H hs .refl
def ctnG : En → Option Out := fun env => some (.ct env)
theorem sv_continue : SV X cm ow (.Continue pos) ctnG := ps_continue.weak fun D σ H ⟨P, H0, env, o, hs, hg, q⟩ => by
  cases hg
  exact q σ H hs .refl
def nevG : En → Option Out := fun _ => none
theorem sv_never : SV X cm ow st nevG := ps_never.weak fun D σ H ⟨P, H0, env, o, hs, hg, q⟩ => by cases hg
def retG (f : En → Option Val) : En → Option Out := fun env => (f env).map .rt
theorem sv_ret (he : VE X cm e f) : SV X cm ow (.Return (some e) pos) (retG f) := (ps_ret he).weak fun D σ H ⟨P, H0, env, o, hs, hg, q⟩ => by
  obtain ⟨x, ex, rfl⟩ := Option.map_eq_some_iff.mp hg
  exact ⟨P, env, x, hs.view, ex, fun v H1 s1 r1 => q v H1 (hs.base.trans s1) r1⟩
def retNG : En → Option Out := fun _ => some (.rt .non)
theorem sv_retN : SV X cm ow (.Return none pos) retNG := ps_retN.weak fun D σ H ⟨P, H0, env, o, hs, hg, q⟩ => by
  cases hg
  exact q _ H hs.base .non
def doG (f : En → Option Val) : En → Option Out := fun env => (f env).map fun _ => .nx env
theorem sv_do (he : VE X cm e f) (hs : swapsWith e none pos.line X.env = pure false := by rfl) : SV X cm ow (.Expr e pos) (doG f) := (ps_expr he hs).weak fun D σ H ⟨P, H0, env, o, hs, hg, q⟩ => by
  obtain ⟨x, ex, rfl⟩ := Option.map_eq_some_iff.mp hg
  exact ⟨P, env, x, hs.view, ex, fun v H1 s1 r1 => q σ H1 (hs.same s1) (.same s1)⟩
def ifG (t : En → Option Bool) (k l : En → Option Out) : En → Option Out := fun env => (t env).bind fun c => if c = true then k env else l env
theorem sv_if {t : En → Option Bool} {k l : En → Option Out} {x y : List Stmt} (hc : VT X cm c t) (ha : SVs X cm ow x k) (hb : SVs X cm ow y l) : SV X cm ow (.If c x y pos) (ifG t k l) := (ps_if hc ha hb).weak fun D σ H ⟨P, H0, env, o, hs, hg, q⟩ => by
  unfold ifG at hg
  obtain ⟨k1, e1, hg⟩ := Option.bind_eq_some_iff.mp hg
  refine ⟨P, env, k1, hs.view, e1, fun H1 s1 => ?_⟩
  have q1 : Ends.at_ cm P ow H0 env σ H1 D o := by
    cases o with
    | nx env2 => exact fun σ2 H2 hs2 f2 => q σ2 H2 hs2 (Fr.trans (.same s1) f2)
    | bk env2 => exact fun σ2 H2 hs2 f2 => q σ2 H2 hs2 (Fr.trans (.same s1) f2)
    | ct env2 => exact fun σ2 H2 hs2 f2 => q σ2 H2 hs2 (Fr.trans (.same s1) f2)
    | rt x => exact q
  show if k1 = true then tSV cm ow k D σ H1 else tSV cm ow l D σ H1
  by_cases c : k1 = true
  · rw [if_pos c] at hg ⊢
    exact ⟨P, H0, env, o, hs.same s1, hg, q1⟩
  · rw [if_neg c] at hg ⊢
    exact ⟨P, H0, env, o, hs.same s1, hg, q1⟩
/-- nothing of it is a list, a dict, an instance -/
def imm : Val → Bool
  | .lst _ => false
  | .dct _ _ => false
  | .ins _ _ _ => false
  | .set _ => false
  | .tup xs => imms xs
  | _ => true
where imms : List Val → Bool
  | [] => true
  | x :: xs => imm x && imms xs
theorem Rep.imm {P P' : Addr → Prop} {H : Hp} (hP : ∀ a, P' a → P a ∨ ∃ o, H a = some o ∧ ∀ vs, o ≠ .tup vs) : ∀ {b : Bool} {vs : List V} {xs : List Val}, Rep cm P H b vs xs → (b = true → ∀ x, xs = [x] → Up.imm x = true → Rep cm P' H b vs xs) ∧ (b = false → imm.imms xs = true → Rep cm P' H b vs xs) := fun h => by
  induction h with
  | nil => exact ⟨(fun e => nomatch e), fun _ _ => .nil⟩
  | cons r t i1 i2 =>
    refine ⟨(fun e => nomatch e), fun _ c => ?_⟩
    rw [imm.imms, Bool.and_eq_true] at c
    exact .cons (i1.1 rfl _ rfl c.1) (i2.2 rfl c.2)
  | non => exact ⟨fun _ x e c => .non, (fun e => nomatch e)⟩
  | bl b => exact ⟨fun _ x e c => .bl b, (fun e => nomatch e)⟩
  | int i => exact ⟨fun _ x e c => .int i, (fun e => nomatch e)⟩
  | str z => exact ⟨fun _ x e c => .str z, (fun e => nomatch e)⟩
  | lst n hh r ih =>
    refine ⟨fun _ x e c => ?_, (fun e => nomatch e)⟩
    cases e
    rw [Up.imm] at c
    cases c
  | tup n hh r ih =>
    refine ⟨fun _ x e c => ?_, (fun e => nomatch e)⟩
    cases e
    rw [Up.imm] at c
    refine .tup (fun z => ?_) hh (ih.2 rfl c)
    rcases hP _ z with k | ⟨o, k, no⟩
    · exact n k
    · rw [hh] at k
      cases k
      exact no _ rfl
  | dct n hh l1 l2 g1 g2 r ih =>
    refine ⟨fun _ x e c => ?_, (fun e => nomatch e)⟩
    cases e
    rw [Up.imm] at c
    cases c
  | ins n hh r ih =>
    refine ⟨fun _ x e c => ?_, (fun e => nomatch e)⟩
    cases e
    rw [Up.imm] at c
    cases c
  | set n hh k1 k2 =>
    refine ⟨fun _ x e c => ?_, (fun e => nomatch e)⟩
    cases e
    rw [Up.imm] at c
    cases c
theorem StV.owl {P : Addr → Prop} {H0 H : Hp} {env : En} {σ : L2.St} (h : StV cm P ow H0 env σ H) : ∀ a, Ow P ow env σ a → P a ∨ ∃ o, H a = some o ∧ ∀ vs, o ≠ .tup vs := by
  rintro a (c | ⟨i, hi, ⟨x, hx⟩, hs⟩)
  · exact .inl c
  · obtain ⟨b, h2, _, _, h3⟩ := h.own i hi x hx
    rw [hs] at h2
    cases h2
    exact .inr h3.no
theorem StV.imm {P : Addr → Prop} {H0 H : Hp} {env : En} {σ : L2.St} (h : StV cm P ow H0 env σ H) {v : V} {x : Val} (r : Re cm P H v x) (c : Up.imm x = true) : Re cm (Ow P ow env σ) H v x := (Rep.imm h.owl r).1 rfl x rfl c
/-- how a value is read that is kept: without what is owned, or told without lists -/
def SrV (cm : Cm) (ow : List Nat) (r : En → Option Val) (t : TE) : Prop := ∀ (P : Addr → Prop) (H0 H : Hp) (env : En) (σ : L2.St) (x : Val) (Q : VK), StV cm P ow H0 env σ H → r env = some x → (∀ v H', Same H H' → Re cm (Ow P ow env σ) H' v x → Q v H') → t σ H Q
def stF (ow : List Nat) (f : En → Option Val) : En → Option Val := fun env => f (wipeE env ow)
def boF (f : En → Option Val) : En → Option Val := fun env => (f env).bind fun x => if imm x = true then some x else none
theorem sr_st : SrV cm ow (stF ow f) (tV cm f) := fun P H0 H env σ x Q hs e q => ⟨_, wipeE env ow, x, hs.sl, e, q⟩
theorem sr_bo : SrV cm ow (boF f) (tV cm f) := fun P H0 H env σ x Q hs e q => by
  unfold boF at e
  obtain ⟨y, ey, e⟩ := Option.bind_eq_some_iff.mp e
  split at e
  case isFalse => cases e
  rename_i ci
  cases e
  exact ⟨P, env, _, hs.view, ey, fun v H1 s1 r1 => q v H1 s1 ((hs.same s1).imm r1 ci)⟩
def setG (i : Nat) (r : En → Option Val) : En → Option Out := fun env => (r env).map fun x => .nx (env.set i (some x))
theorem sv_set {r : En → Option Val} {i : Nat} {x : Str} {pos' : Pos} (hN : X.N.Nodup) (hi : X.N[i]? = some x) (hx : Loc X.env.scope x) (ho : i ∉ ow) (he : VE X cm e f) (sr : SrV cm ow r (tV cm f)) (hs : swapsWith e (some (.Name x pos')) pos.line X.env = pure false := by rfl) (hf : X.fn x = true ∨ X.env.scope.names.lookup x = some .local := by first | exact .inl rfl | exact .inr rfl | assumption) :
    SV X cm ow (.Assign [.Name x pos'] e pos) (setG i r) := (ps_set hN hi hx he hs hf).weak fun D σ H ⟨P, H0, env, o, hs, hg, q⟩ => by
  obtain ⟨y, ey, rfl⟩ := Option.map_eq_some_iff.mp hg
  exact sr P H0 H env σ y _ hs ey fun v H1 s1 r1 => q _ H1 ((hs.same s1).set ho r1) (Fr.set ho s1)
/-! tuples taken apart -/
theorem StV.sets {P : Addr → Prop} {H0 H : Hp} {qs : List (Nat × V)} {ps : List (Nat × Val)} {Q : Addr → Prop} (pr : Prs cm Q H qs ps) : ∀ {env : En} {σ : L2.St}, (∀ q ∈ qs, q.1 ∉ ow) → Q = Ow P ow env σ → StV cm P ow H0 env σ H → StV cm P ow H0 (setE env ps) (setA σ qs) H ∧ ∀ a, Ow P ow (setE env ps) (setA σ qs) a ↔ Ow P ow env σ a := by
  induction pr with
  | nil => exact fun _ _ h => ⟨h, fun _ => .rfl⟩
  | @cons q p qs ps r t ih =>
    intro env σ hn eQ h
    obtain ⟨e, r⟩ := r
    obtain ⟨i, v⟩ := q
    obtain ⟨j, x⟩ := p
    obtain rfl : i = j := e
    have n1 : i ∉ ow := hn (i, v) (List.mem_cons_self ..)
    have e1 : Ow P ow (env.set i (some x)) (σ.set i (some v)) = Ow P ow env σ := funext fun a => propext (Ow.set n1 a)
    subst eQ
    have h1 := h.set n1 r
    obtain ⟨h2, h3⟩ := ih (fun q hq => hn q (List.mem_cons_of_mem _ hq)) e1.symm h1
    exact ⟨h2, fun a => (h3 a).trans (Ow.set n1 a)⟩
def asgG (m : Val → Option (List (Nat × Val))) (r : En → Option Val) : En → Option Out := fun env => (r env).bind fun x => (m x).map fun ps => .nx (setE env ps)
theorem sv_asg {r : En → Option Val} {tg : Expr} {g : TG} {m : Val → Option (List (Nat × Val))} {is : List Nat} (he : VE X cm e f) (sr : SrV cm ow r (tV cm f)) (hg : PG X tg g) (tg_ : TgV cm g m is) (ho : ∀ i ∈ is, i ∉ ow) (hs : swapsWithSole [tg] e pos.line X.env = pure false := by rfl) (hw : swappedStores [tg] e X.env = pure none := by rfl)
    (h1 : (assignEach [tg] X.env).map (·.2) = [assign tg X.env] := by rfl) : SV X cm ow (.Assign [tg] e pos) (asgG m r) := (ps_asg he hg hs hw h1).weak fun D σ H ⟨P, H0, env, o, hs, hk, q⟩ => by
  unfold asgG at hk
  obtain ⟨y, ey, hk⟩ := Option.bind_eq_some_iff.mp hk
  obtain ⟨ps, e2, rfl⟩ := Option.map_eq_some_iff.mp hk
  refine sr P H0 H env σ y _ hs ey fun v H1 s1 r1 => ?_
  obtain ⟨qs, pr, mem, go⟩ := tg_.go _ H1 v y ps r1 e2
  obtain ⟨h2, h3⟩ := StV.sets pr (fun q hq => ho _ (mem q hq)) rfl (hs.same s1)
  exact go σ _ (q _ H1 h2 ⟨.of s1, fun a c => .inl ((h3 a).mp c), fun a n => n.same s1⟩)
end
end Up

namespace Up
open PySem PySem.Spec PyProof.Rows L2
section
variable {X : Cx} {cm : Cm} {ow : List Nat} {a b c e : Expr} {es : List Expr} {f g h : En → Option Val} {pos : Pos} {st : Stmt} {rest : List Stmt}
/-! ### loops -/
def forGo (m : Val → Option (List (Nat × Val))) (body : En → Option Out) : List Val → En → Option Out
  | [], env => some (.nx env)
  | x :: xs, env => (m x).bind fun ps => (body (setE env ps)).bind fun o => match o with
    | .nx env' => forGo m body xs env'
    | .ct env' => forGo m body xs env'
    | .bk env' => some (.nx env')
    | .rt y => some (.rt y)
def forG (ow : List Nat) (fi : En → Option (List Val)) (m : Val → Option (List (Nat × Val))) (body : En → Option Out) : En → Option Out := fun env => (fi (wipeE env ow)).bind fun xs => forGo m body xs env
theorem sv_for {tg iter : Expr} {body : List Stmt} {fi : En → Option (List Val)} {gt : TG} {m : Val → Option (List (Nat × Val))} {is : List Nat} {k : En → Option Out} (hp : PassesOwn (model X.prog X.w) X.A X.env X.xe) (hc : X.calm = true) (hi : VI X cm tg iter fi) (hg : PG X tg gt) (hb : SVs X cm ow body k) (tg_ : TgV cm gt m is) (ho : ∀ i ∈ is, i ∉ ow)
    (hs : ∀ x, foldedSetIterable iter X.env x = pure x := by intro _; rfl) : SV X cm ow (.For tg iter body [] pos) (forG ow fi m k) := (ps_for hp hc hi hg hb hs).weak fun D σ H ⟨P, H0, env, o, hs, hk, q⟩ => by
  unfold forG at hk
  obtain ⟨xs, ex, hk⟩ := Option.bind_eq_some_iff.mp hk
  refine ⟨_, wipeE env ow, xs, hs.sl, ex, fun J H1 s1 w => ?_⟩
  refine for_it w (fun i σ' H' => ∃ env', StV cm P ow H0 env' σ' H' ∧ Fr P ow env σ H env' σ' H' ∧ Keep (Ow P ow env σ) H1 H' ∧ (∀ a, Ow P ow env' σ' a → Ow P ow env σ a ∨ H1 a = none) ∧ Hid (Ow P ow env σ) H' ∧ forGo m k (xs.drop i) env' = some o) ⟨env, hs.same s1, .same s1, .refl, fun a c => .inl c, (hs.same s1).sl.hid, hk⟩ (fun i σ' H' _ ⟨_, _, _, k1, _, k2, _⟩ => ⟨k1, k2⟩) ?_ ?_
  · rintro i x σ' H' H2 hi2 ⟨env', hs', fr, kp, nw, hid, hgo⟩ ⟨s2, y, ey, ry⟩
    have ry2 := ry _ nw hs'.sl.hid
    have dr : xs.drop i = y :: xs.drop (i + 1) := by
      obtain ⟨lt, eq⟩ := List.getElem?_eq_some_iff.mp ey
      rw [List.drop_eq_getElem_cons lt, eq]
    rw [dr] at hgo
    unfold forGo at hgo
    obtain ⟨ps, e1, hgo⟩ := Option.bind_eq_some_iff.mp hgo
    obtain ⟨o1, e2, hgo⟩ := Option.bind_eq_some_iff.mp hgo
    obtain ⟨qs, pr, mem, go⟩ := tg_.go _ H2 x y ps ry2 e1
    obtain ⟨h2, h3⟩ := StV.sets pr (fun q hq => ho _ (mem q hq)) rfl (hs'.same s2)
    have f2 : Fr P ow env' σ' H' (setE env' ps) (setA σ' qs) H2 := ⟨.of s2, fun a c => .inl ((h3 a).mp c), fun a n => n.same s2⟩
    have turn : ∀ (env3 : En) (σ3 : L2.St) (H3 : Hp), StV cm P ow H0 env3 σ3 H3 → Fr P ow (setE env' ps) (setA σ' qs) H2 env3 σ3 H3 → Fr P ow env σ H env3 σ3 H3 ∧ Keep (Ow P ow env σ) H1 H3 ∧ (∀ a, Ow P ow env3 σ3 a → Ow P ow env σ a ∨ H1 a = none) ∧ Hid (Ow P ow env σ) H3 := fun env3 σ3 H3 hs3 f3 => by
      have f23 := f2.trans f3
      refine ⟨fr.trans f23, fun b o e n => ?_, fun a c => ?_, fun b c => ?_⟩
      · refine f23.kp b o (kp b o e n) fun z => ?_
        rcases nw b z with y | y
        · exact n y
        · rw [e] at y
          cases y
      · rcases f23.nw a c with z | z
        · exact nw a z
        · by_cases n : Ow P ow env σ a
          · exact .inl n
          · cases e : H1 a with
            | none => exact .inr rfl
            | some o =>
              rw [kp a o e n] at z
              cases z
      · exact f23.st b (hid b c)
    refine go σ' _ ⟨P, H0, _, o1, h2, e2, ?_⟩
    cases o1 with
    | nx env3 =>
      intro σ3 H3 hs3 f3
      obtain ⟨t1, t2, t3, t4⟩ := turn env3 σ3 H3 hs3 f3
      exact ⟨env3, hs3, t1, t2, t3, t4, hgo⟩
    | ct env3 =>
      intro σ3 H3 hs3 f3
      obtain ⟨t1, t2, t3, t4⟩ := turn env3 σ3 H3 hs3 f3
      exact ⟨env3, hs3, t1, t2, t3, t4, hgo⟩
    | bk env3 =>
      cases hgo
      intro σ3 H3 hs3 f3
      exact q σ3 H3 hs3 (turn env3 σ3 H3 hs3 f3).1
    | rt z =>
      cases hgo
      exact q
  · rintro σ' H' ⟨env', hs', fr, kp, nw, hid, hgo⟩
    rw [List.drop_length] at hgo
    cases hgo
    exact q σ' H' hs' fr
/-! while, with a number of turns that is enough -/
def whGo (t : En → Option Bool) (body : En → Option Out) : Nat → En → Option Out
  | 0, _ => none
  | n + 1, env => (t env).bind fun c => if c = true then (body env).bind fun o => match o with
    | .nx env' => whGo t body n env'
    | .ct env' => whGo t body n env'
    | .bk env' => some (.nx env')
    | .rt y => some (.rt y)
    else some (.nx env)
theorem sv_while {t : En → Option Bool} {body : List Stmt} {k : En → Option Out} {n : Nat} (hp : PassesOwn (model X.prog X.w) X.A X.env X.xe) (hc : VT X cm c t) (hb : SVs X cm ow body k) : SV X cm ow (.While c body [] pos) (whGo t k n) := (ps_while hp hc hb).weak fun D σ H ⟨P, H0, env, o, hs, hk, q⟩ => by
  refine ⟨fun m σ' H' => ∃ env', StV cm P ow H0 env' σ' H' ∧ Fr P ow env σ H env' σ' H' ∧ whGo t k m env' = some o, ⟨n, env, hs, .refl, hk⟩, ?_⟩
  rintro m σ' H' ⟨env', hs', fr, hw⟩
  cases m with
  | zero => cases hw
  | succ m =>
    unfold whGo at hw
    obtain ⟨k1, e1, hw⟩ := Option.bind_eq_some_iff.mp hw
    refine ⟨P, env', k1, hs'.view, e1, fun H1 s1 => ?_⟩
    show if k1 = true then _ else _
    by_cases c : k1 = true
    · rw [if_pos c] at hw ⊢
      obtain ⟨o1, e2, hw⟩ := Option.bind_eq_some_iff.mp hw
      refine ⟨fun σ2 H2 => ∃ m', m' < m + 1 ∧ ∃ env', StV cm P ow H0 env' σ2 H2 ∧ Fr P ow env σ H env' σ2 H2 ∧ whGo t k m' env' = some o, fun σ2 H2 h => h, ?_⟩
      refine ⟨P, H0, env', o1, hs'.same s1, e2, ?_⟩
      have f1 : Fr P ow env σ H env' σ' H1 := fr.trans (.same s1)
      cases o1 with
      | nx env3 => exact fun σ3 H3 hs3 f3 => ⟨m, Nat.lt_succ_self _, env3, hs3, f1.trans f3, hw⟩
      | ct env3 => exact fun σ3 H3 hs3 f3 => ⟨m, Nat.lt_succ_self _, env3, hs3, f1.trans f3, hw⟩
      | bk env3 =>
        cases hw
        exact fun σ3 H3 hs3 f3 => q σ3 H3 hs3 (f1.trans f3)
      | rt z =>
        cases hw
        exact q
    · rw [if_neg c] at hw ⊢
      cases hw
      exact q σ' H1 (hs'.same s1) (fr.trans (.same s1))
/-! ### a def -/
def runV (n k : Nat) (g : En → Option Out) (xs : List Val) : Option Val := if xs.length = k then (g (xs.map some ++ List.replicate (n - xs.length) none)).bind fun o => match o with
  | .nx _ => some .non
  | .rt y => some y
  | _ => none
  else none
theorem start_slots {P : Addr → Prop} {H : Hp} {N : List Str} {vs : List V} {xs : List Val} (hd : Hid P H) (r : Res cm P H vs xs) : Slots cm P H (start N vs) (xs.map some ++ List.replicate (N.length - xs.length) none) := by
  have l := Res.length r
  refine ⟨by simp [L2.start, l], fun i x e => ?_, hd⟩
  by_cases c : i < xs.length
  · rw [List.getElem?_append_left (by rw [List.length_map]; exact c), List.getElem?_map, List.getElem?_eq_getElem c] at e
    cases e
    obtain ⟨v, h1, h2⟩ := Res.get r (List.getElem?_eq_getElem c)
    refine ⟨v, ?_, h2⟩
    unfold L2.start
    rw [List.getElem?_append_left (by rw [List.length_map, l]; exact c), List.getElem?_map, h1]
    rfl
  · rw [List.getElem?_append_right (by rw [List.length_map]; omega)] at e
    have := List.mem_of_getElem? e
    rw [List.mem_replicate] at this
    cases this.2
theorem start_wipe {xs : List Val} {n : Nat} : ∀ {ow : List Nat}, (∀ i ∈ ow, xs.length ≤ i) → wipeE (xs.map some ++ List.replicate n none) ow = xs.map some ++ List.replicate n none
  | [], _ => rfl
  | i :: ow, h => by
    show (wipeE _ ow).set i none = _
    rw [start_wipe fun j hj => h j (List.mem_cons_of_mem _ hj)]
    have hi := h i (List.mem_cons_self ..)
    refine List.ext_getElem? fun j => ?_
    by_cases c : i = j
    · subst c
      rw [List.getElem?_set]
      split
      · split
        · rename_i lt
          rw [List.getElem?_append_right (by rw [List.length_map]; exact hi), List.getElem?_replicate, if_pos]
          rw [List.length_append, List.length_map, List.length_replicate] at lt
          rw [List.length_map]
          omega
        · rename_i lt
          rw [List.getElem?_eq_none]
          omega
      · rename_i c
        exact absurd rfl c
    · rw [List.getElem?_set_ne c]
theorem start_st {P : Addr → Prop} {H : Hp} {N : List Str} {vs : List V} {xs : List Val} (hd : Hid P H) (r : Res cm P H vs xs) (ho : ∀ i ∈ ow, xs.length ≤ i) : StV cm P ow H (xs.map some ++ List.replicate (N.length - xs.length) none) (start N vs) H := by
  have sl := start_slots (N := N) hd r
  have no : ∀ i ∈ ow, ∀ x, (xs.map some ++ List.replicate (N.length - xs.length) none)[i]? ≠ some (some x) := fun i hi x e => by
    rw [List.getElem?_append_right (by rw [List.length_map]; exact ho i hi)] at e
    have := List.mem_of_getElem? e
    rw [List.mem_replicate] at this
    cases this.2
  have eo : Ow P ow (xs.map some ++ List.replicate (N.length - xs.length) none) (start N vs) = P := funext fun a => propext ⟨fun c => c.elim id fun ⟨i, hi, ⟨x, hx⟩, _⟩ => absurd hx (no i hi x), .inl⟩
  exact ⟨by rw [eo, start_wipe ho]; exact sl, fun i hi x e => absurd e (no i hi x), fun i hi j hj a ⟨x, hx⟩ => absurd hx (no i hi x), sl.len, Same.refl H⟩
end
section
variable {P : Program} {w : World} {K : PySem.W.Frag} {mg : Str → Option Value} {base : Heap} {cm : Cm}
/-- a def that is a function of its arguments' trees -/
theorem okV {x qual : Str} {st : Stmt} {f : Addr} {fd : FuncData} {N ps : List Str} {k : Nat} (ow : List Nat) {g : En → Option Out} (F : Fun K x qual st f fd) (S : FnScope N ps (defScope st)) (ho : ∀ i ∈ ow, ps.length ≤ i)
    (hbody : ∀ (cdv : Value) (A : Around) (outer : List Env) (s : Shared) (H : Hp) (E : XK), Room k (A.deeper (envOfC qual (defScope st) s.heap.objs.size f cdv)) → SVs (cxOf CX0 P w K mg base N qual (defScope st) f cdv A outer s H E).nox cm ow (defBody st) g) :
    FnOk P w K mg base CX0 (k + 1) f fd ps (spV cm (runV N.length ps.length g)) := by
  refine F.ok S (fun vs H Q E h => ?_) (fun cdv A outer s H vs Q E hr h => ?_)
  · obtain ⟨P', xs, z, _, r, e, _⟩ := h
    unfold runV at e
    split at e
    · rename_i l
      rw [Res.length r]
      exact l
    · cases e
  · obtain ⟨P', xs, z, hd, r, e, q⟩ := h
    refine ⟨_, hbody cdv A outer s H E hr, ?_⟩
    unfold runV at e
    split at e
    case isFalse => cases e
    rename_i l
    obtain ⟨o, e1, e⟩ := Option.bind_eq_some_iff.mp e
    refine ⟨P', H, _, o, start_st (N := N) hd r (by rw [l]; exact ho), e1, ?_⟩
    cases o with
    | nx env' =>
      cases e
      exact fun σ' H' hs f => q _ H' hs.base .non
    | rt y =>
      cases e
      exact fun v H' s r => q v H' s r
    | bk env' => cases e
    | ct env' => cases e
end
end Up

namespace Up
open PySem PySem.Spec PyProof.Rows L2
section
variable {cm : Cm} {P : Addr → Prop} {ow : List Nat} {H0 H H' : Hp} {env : En} {σ : L2.St}
theorem wipeE_set_in {env : En} {i : Nat} {o : Option Val} : ∀ {vs : List Nat}, i ∈ vs → wipeE (env.set i o) vs = wipeE env vs
  | v :: vs, h => by
    show (wipeE (env.set i o) vs).set v none = (wipeE env vs).set v none
    by_cases c : i ∈ vs
    · rw [wipeE_set_in c]
    · rcases List.mem_cons.mp h with z | z
      · subst z
        rw [wipeE_set c, List.set_set]
      · exact absurd z c
theorem Top.move {P' : Addr → Prop} {a : Addr} {x : Val} (s : ∀ b, P' b → P b ∨ H b = none) (kp : Keep P H H') (e : ∀ o, H a = some o → H' a = some o) (t : Top cm P H a x) : Top cm P' H' a x := by
  cases t with
  | lst h r => exact .lst (e _ h) (Rep.move s kp r)
  | set h h1 h2 => exact .set (e _ h) h1 h2
  | dct h l1 l2 g1 g2 r => exact .dct (e _ h) l1 l2 g1 g2 (Rep.move s kp r)
theorem Top.less {P' : Addr → Prop} {a : Addr} {x : Val} (s : ∀ b, P' b → P b) (t : Top cm P H a x) : Top cm P' H a x := by
  cases t with
  | lst h r => exact .lst h (r.less s)
  | set h h1 h2 => exact .set h h1 h2
  | dct h l1 l2 g1 g2 r => exact .dct h l1 l2 g1 g2 (r.less s)
/-- a new thing of one's own -/
theorem StV.newO (h : StV cm P ow H0 env σ H) {i : Nat} (hi : i ∈ ow) (lt : i < env.length) {p : Addr} (np : H p = none) (s : Same H H') {x : Val} (t : Top cm (fun b => Ow P ow env σ b ∨ b = p) H' p x) :
    StV cm P ow H0 (env.set i (some x)) (σ.set i (some (.ref p))) H' ∧ Fr P ow env σ H (env.set i (some x)) (σ.set i (some (.ref p))) H' := by
  have nPp : ¬ Ow P ow env σ p := fun c => h.sl.hid.new np c
  have ll : i < σ.length := by
    rw [h.len]
    exact lt
  have k1 : ∀ a, Ow P ow (env.set i (some x)) (σ.set i (some (.ref p))) a → Ow P ow env σ a ∨ a = p := by
    rintro a (c | ⟨j, hj, ⟨y, hy⟩, hs⟩)
    · exact .inl (.inl c)
    · by_cases e : i = j
      · subst e
        rw [List.getElem?_set_self ll] at hs
        cases hs
        exact .inr rfl
      · rw [List.getElem?_set_ne e] at hy hs
        exact .inl (.inr ⟨j, hj, ⟨y, hy⟩, hs⟩)
  have k2 : ∀ a, Ow P ow (env.set i (some x)) (σ.set i (some (.ref p))) a → Ow P ow env σ a ∨ H a = none := fun a c => (k1 a c).imp id fun z => by rw [z]; exact np
  refine ⟨⟨⟨?_, fun j y e => ?_, fun a c => ?_⟩, fun j hj y e => ?_, fun j hj l hl a x1 x2 e3 e4 => ?_, by rw [List.length_set, List.length_set]; exact h.len, h.base.trans s⟩, .of s, k2, fun a n => n.same s⟩
  · rw [wipeE_set_in hi, List.length_set]
    exact h.sl.len
  · rw [wipeE_set_in hi] at e
    have n : i ≠ j := fun z => wipeE_in hi y (by rw [z]; exact e)
    obtain ⟨v, h1, h2⟩ := h.sl.at_ j y e
    exact ⟨v, by rw [List.getElem?_set_ne n]; exact h1, h2.move k2 (.of s)⟩
  · rcases k1 a c with z | z
    · exact (h.sl.hid.same s) a z
    · rw [z]
      exact t.no
  · by_cases e1 : i = j
    · subst e1
      rw [List.getElem?_set_self lt] at e
      cases e
      exact ⟨p, List.getElem?_set_self ll, fun c => nPp (.inl c), h.base.free np, t.less k1⟩
    · rw [List.getElem?_set_ne e1] at e
      obtain ⟨a, h2, h4, h5, h6⟩ := h.own j hj y e
      exact ⟨a, by rw [List.getElem?_set_ne e1]; exact h2, h4, h5, h6.move k2 (.of s) fun o eo => s _ _ eo⟩
  · have no : ∀ l, l ∈ ow → i ≠ l → (∃ y, env[l]? = some (some y)) → σ[l]? = some (some (.ref p)) → False := fun l hl n ⟨y, hy⟩ e => by
      obtain ⟨a, h2, _, _, h6⟩ := h.own l hl y hy
      rw [e] at h2
      cases h2
      obtain ⟨o, eo, _⟩ := h6.no
      rw [np] at eo
      cases eo
    by_cases n1 : i = j
    · by_cases n2 : i = l
      · exact n1.symm.trans n2
      · subst n1
        rw [List.getElem?_set_self ll] at e3
        cases e3
        rw [List.getElem?_set_ne n2] at x2 e4
        exact (no l hl n2 x2 e4).elim
    · by_cases n2 : i = l
      · subst n2
        rw [List.getElem?_set_self ll] at e4
        cases e4
        rw [List.getElem?_set_ne n1] at x1 e3
        exact (no j hj n1 x1 e3).elim
      · rw [List.getElem?_set_ne n1] at x1 e3
        rw [List.getElem?_set_ne n2] at x2 e4
        exact h.dis j hj l hl a x1 x2 e3 e4
/-- a thing of one's own is changed -/
theorem StV.putO (h : StV cm P ow H0 env σ H) {i : Nat} (hi : i ∈ ow) {a : Addr} {y : Val} (ex : env[i]? = some (some y)) (hσ : σ[i]? = some (some (.ref a))) {o : HO} {x : Val} (t : Top cm (Ow P ow env σ) (upd H a o) a x) :
    StV cm P ow H0 (env.set i (some x)) σ (upd H a o) ∧ Fr P ow env σ H (env.set i (some x)) σ (upd H a o) := by
  have lt := (List.getElem?_eq_some_iff.mp ex).1
  obtain ⟨a', h2, nP, h5, _⟩ := h.own i hi y ex
  rw [hσ] at h2
  cases h2
  have oa : Ow P ow env σ a := .inr ⟨i, hi, ⟨y, ex⟩, hσ⟩
  have as : ∀ j, (∃ z, (env.set i (some x))[j]? = some (some z)) ↔ ∃ z, env[j]? = some (some z) := fun j => by
    by_cases e : i = j
    · subst e
      exact ⟨fun _ => ⟨y, ex⟩, fun _ => ⟨x, List.getElem?_set_self lt⟩⟩
    · rw [List.getElem?_set_ne e]
  have eo : Ow P ow (env.set i (some x)) σ = Ow P ow env σ := funext fun b => propext ⟨fun c => c.imp id fun ⟨j, hj, hy, hs⟩ => ⟨j, hj, (as j).mp hy, hs⟩, fun c => c.imp id fun ⟨j, hj, hy, hs⟩ => ⟨j, hj, (as j).mpr hy, hs⟩⟩
  have kp : Keep (Ow P ow env σ) H (upd H a o) := fun b u e n => by
    rw [upd_ne fun z => n (by rw [z]; exact oa)]
    exact e
  have st : ∀ b, NT H b → NT (upd H a o) b := fun b n => by
    by_cases z : b = a
    · rw [z]
      exact t.no
    · obtain ⟨u, eu, nu⟩ := n
      exact ⟨u, by rw [upd_ne z]; exact eu, nu⟩
  refine ⟨⟨?_, fun j hj z e => ?_, fun j hj l hl b x1 x2 e3 e4 => h.dis j hj l hl b ((as j).mp x1) ((as l).mp x2) e3 e4, by rw [List.length_set]; exact h.len, fun b u e => ?_⟩, kp, fun b c => .inl (by rw [← eo]; exact c), st⟩
  · rw [eo, wipeE_set_in hi]
    exact h.sl.keep kp fun b c => st b (h.sl.hid b c)
  · rw [eo]
    by_cases e1 : i = j
    · subst e1
      rw [List.getElem?_set_self lt] at e
      cases e
      exact ⟨a, hσ, nP, h5, t⟩
    · rw [List.getElem?_set_ne e1] at e
      obtain ⟨b, k2, k4, k5, k6⟩ := h.own j hj z e
      refine ⟨b, k2, k4, k5, k6.keep (fun u eu => ?_) kp⟩
      rw [upd_ne]
      · exact eu
      · intro z
        exact e1 (h.dis i hi j hj a ⟨_, ex⟩ ⟨_, e⟩ hσ (by rw [← z]; exact k2))
  · rw [upd_ne (ne_of_none e h5)]
    exact h.base _ _ e
end
section
variable {X : Cx} {cm : Cm} {ow : List Nat} {a b c e : Expr} {es : List Expr} {f g h : En → Option Val} {pos : Pos} {st : Stmt} {rest : List Stmt}
/-! ### new lists -/
theorem vn_lst {k : En → Option (List Val)} (h : VA X cm es k) : VN X cm (.List es pos) (fun env => (k env).bind fun xs => if xs.length ≤ most then some xs else none) := (pe_lst h).weak fun σ H Q ⟨P, env, z, hs, hf, q⟩ => by
  obtain ⟨xs, ex, hf⟩ := Option.bind_eq_some_iff.mp hf
  split at hf
  · rename_i l
    cases hf
    refine ⟨P, env, _, hs, ex, fun vs H1 s1 r1 => ⟨by rw [Res.length r1]; exact Nat.le_of_lt (most_line l), fun p np => ?_⟩⟩
    have s2 : Same H1 (upd H1 p (.lst vs)) := fun b o eb => by rw [upd_ne (ne_of_none eb np)]; exact eb
    exact q p vs _ (s1.trans s2) (s1.free np) upd_same (r1.move (fun b c => c.imp id fun z => by rw [z]; exact np) (.of s2)) l
  · cases hf
theorem vn_list {k : En → Option Val} {x : Str} {p : Pos} (hg : Gl X x) (hm : X.mg x = none) (hv : bootBuiltins x = some (.type "list")) (ha : VE X cm e k)
    (hn : x ≠ "__name__" := by decide) (hdb : (x == ("__debug__" : Str)) = false := by decide) (he : starEach [e] X.env = (false, eval e X.env) :: starEach [] X.env := by rfl) (hpl : (backTo pos (starEach [] X.env)).any (·.1) = false := by rfl) :
    VN X cm (.Call (.Name x p) [e] [] pos) (fun env => (k env).bind fun y => (itemsOf y).bind fun xs => if xs.length ≤ most then some xs else none) :=
  (pe_callTy call_list_of hg hm hv (pa_cons ha pa_nil he) hn hdb he hpl).weak fun σ H Q ⟨P, env, z, hs, hf, q⟩ => by
    obtain ⟨y, ey, h1⟩ := Option.bind_eq_some_iff.mp hf
    obtain ⟨xs, ex, h2⟩ := Option.bind_eq_some_iff.mp h1
    split at h2
    · rename_i l
      cases h2
      refine ⟨P, env, y, hs, ey, fun v H1 s1 r1 => ?_⟩
      obtain ⟨p, vs, rfl, hsq, rs⟩ := itemsOf_re (K := X.K) r1 ex
      refine ⟨p, vs, rfl, hsq, fun l np => ?_⟩
      have s2 : Same H1 (upd H1 l (.lst vs)) := fun b o eb => by rw [upd_ne (ne_of_none eb np)]; exact eb
      exact q l vs _ (s1.trans s2) (s1.free np) upd_same (Rep.move (fun b c => c.imp id fun z => by rw [z]; exact np) (.of s2) rs) (by assumption)
    · cases h2
/-- [c] * n -/
theorem rep_len (x : V) : ∀ n : Nat, (List.replicate n [x]).flatten = List.replicate n x
  | 0 => rfl
  | n + 1 => by
    rw [List.replicate_succ, List.flatten_cons, rep_len x n, List.replicate_succ]
    rfl
theorem Res.rep {P : Addr → Prop} {H : Hp} {v : V} {x : Val} (r : Re cm P H v x) : ∀ n : Nat, Res cm P H (List.replicate n v) (List.replicate n x)
  | 0 => .nil
  | n + 1 => .cons r (Res.rep r n)
def repN (f g : En → Option Val) : En → Option (List Val) := fun env => (f env).bind fun x => (g env).bind fun y => match y with
  | .int n => if n ≤ 100000 ∧ -100000 ≤ n then some (List.replicate n.toNat x) else none
  | _ => none
theorem vn_rep {p1 : Pos} (ha : VE X cm a f) (hb : VE X cm b g) (hs : starEach [a] X.env = (false, eval a X.env) :: starEach [] X.env := by rfl) : VN X cm (.BinOp (.List [a] p1) .Mult b pos) (repN f g) :=
  (pe_op op_rep (pe_lst (pa_cons ha pa_nil hs)) hb).weak fun σ H Q ⟨P, env, z, hs, hf, q⟩ => by
    unfold repN at hf
    obtain ⟨x, ex, h1⟩ := Option.bind_eq_some_iff.mp hf
    obtain ⟨y, ey, h2⟩ := Option.bind_eq_some_iff.mp h1
    split at h2
    · split at h2
      · rename_i n c
        cases h2
        refine ⟨P, env, x, hs, ex, fun v H1 s1 r1 => ⟨by show 1 ≤ sizeLine; rw [sizeLine_eq]; omega, fun p np => ?_⟩⟩
        have s2 : Same H1 (upd H1 p (.lst [v])) := fun b o eb => by rw [upd_ne (ne_of_none eb np)]; exact eb
        refine ⟨P, env, .int n, (hs.same s1).same s2, ey, fun u H3 s3 r3 => ?_⟩
        cases r3.int_
        have ln : n.toNat ≤ most := by
          unfold most
          omega
        refine ⟨p, n, [v], rfl, rfl, s3 _ _ upd_same, by omega, by omega, ?_, fun l nl => ?_⟩
        · show 1 * n.toNat ≤ sizeLine
          rw [Nat.one_mul]
          exact Nat.le_of_lt (most_line ln)
        · have s4 : Same H3 (upd H3 l (.lst (List.replicate n.toNat [v]).flatten)) := fun b o eb => by rw [upd_ne (ne_of_none eb nl)]; exact eb
          have s14 := s1.trans (s2.trans (s3.trans s4))
          refine q l (List.replicate n.toNat v) _ s14 (s1.free (s2.free (s3.free nl))) (by rw [upd_same, rep_len]) ?_ (by rw [List.length_replicate]; exact ln)
          exact Res.rep (r1.move (fun b c => c.imp id fun z => by rw [z]; exact s2.free (s3.free nl)) (.of (s2.trans (s3.trans s4)))) _
      · cases h2
    · cases h2
/-! ### lists of one's own -/
def SnV (cm : Cm) (ow : List Nat) (r : En → Option (List Val)) (t : TE) : Prop := ∀ (P : Addr → Prop) (H0 H : Hp) (env : En) (σ : L2.St) (xs : List Val) (Q : VK), StV cm P ow H0 env σ H → r env = some xs → (∀ a vs H', Same H H' → H a = none → H' a = some (.lst vs) → Res cm (fun b => Ow P ow env σ b ∨ b = a) H' vs xs → Q (.ref a) H') → t σ H Q
def stN (ow : List Nat) (f : En → Option (List Val)) : En → Option (List Val) := fun env => f (wipeE env ow)
def boN (f : En → Option (List Val)) : En → Option (List Val) := fun env => (f env).bind fun xs => if imm.imms xs = true then some xs else none
theorem sn_st {k : En → Option (List Val)} : SnV cm ow (stN ow k) (tN cm k) := fun P H0 H env σ xs Q hs e q => ⟨_, wipeE env ow, xs, hs.sl, e, fun a vs H' s na ha r _ => q a vs H' s na ha r⟩
theorem sn_bo {k : En → Option (List Val)} : SnV cm ow (boN k) (tN cm k) := fun P H0 H env σ xs Q hs e q => by
  unfold boN at e
  obtain ⟨y, ey, e⟩ := Option.bind_eq_some_iff.mp e
  split at e
  case isFalse => cases e
  rename_i ci
  cases e
  refine ⟨P, env, _, hs.view, ey, fun a vs H' s na ha r _ => q a vs H' s na ha ?_⟩
  refine (Rep.imm (fun b c => ?_) r).2 rfl ci
  rcases c with c | c
  · rcases (hs.same s).owl b c with z | z
    · exact .inl (.inl z)
    · exact .inr z
  · exact .inl (.inr c)
def newG (i : Nat) (r : En → Option (List Val)) : En → Option Out := fun env => if i < env.length then (r env).map fun xs => .nx (env.set i (some (.lst xs))) else none
theorem sv_new0 {r : En → Option (List Val)} {t : TE} {i : Nat} {hst : PS X st (tAsg t (gName i))} (ho : i ∈ ow) (sn : SnV cm ow r t) : SV X cm ow st (newG i r) := hst.weak fun D σ H ⟨P, H0, env, o, hs, hg, q⟩ => by
  unfold newG at hg
  split at hg
  case isFalse => cases hg
  rename_i lt
  obtain ⟨xs, ey, rfl⟩ := Option.map_eq_some_iff.mp hg
  refine sn P H0 H env σ xs _ hs ey fun a vs H' s na ha rs => ?_
  obtain ⟨h1, h2⟩ := hs.newO ho lt na s (.lst ha rs)
  exact q _ H' h1 h2
theorem sv_new {r k : En → Option (List Val)} {i : Nat} {x : Str} {pos' : Pos} (hN : X.N.Nodup) (hi : X.N[i]? = some x) (hx : Loc X.env.scope x) (ho : i ∈ ow) (he : VN X cm e k) (sn : SnV cm ow r (tN cm k)) (hs : swapsWith e (some (.Name x pos')) pos.line X.env = pure false := by rfl) (hf : X.fn x = true ∨ X.env.scope.names.lookup x = some .local := by first | exact .inl rfl | exact .inr rfl | assumption) :
    SV X cm ow (.Assign [.Name x pos'] e pos) (newG i r) := sv_new0 (hst := ps_set hN hi hx he hs hf) ho sn
/-- x.append(e) -/
def appG (i : Nat) (r : En → Option Val) : En → Option Out := fun env => match env[i]? with
  | some (some (.lst xs)) => if xs.length ≤ most then (r env).map fun y => .nx (env.set i (some (.lst (xs ++ [y])))) else none
  | _ => none
theorem sv_app0 {r : En → Option Val} {t : TE} {i : Nat} (hst : PS X st (tDrop (tBM X.K "list" rAppend (tVar i) (tCons t tNil)))) (ho : i ∈ ow) (sr : SrV cm ow r t) : SV X cm ow st (appG i r) := hst.weak fun D σ H ⟨P, H0, env, o, hs, hg, q⟩ => by
  unfold appG at hg
  split at hg
  case h_2 => cases hg
  rename_i xs ex
  split at hg
  case isFalse => cases hg
  rename_i lm
  obtain ⟨y, ey, rfl⟩ := Option.map_eq_some_iff.mp hg
  obtain ⟨a, hσ, nP, h0, tp⟩ := hs.own i ho _ ex
  cases tp with
  | @lst vs0 _ ha ra =>
    refine ⟨_, hσ, .inl ⟨rfl, _, .inl (.inl ha)⟩, sr P H0 H env σ y _ hs ey fun v H1 s1 r1 => ?_⟩
    refine ⟨a, _, v, rfl, rfl, s1 _ _ ha, most_line (by rw [Res.length ra]; exact lm), ?_⟩
    have hs1 := hs.same s1
    have oa : Ow P ow env σ a := .inr ⟨i, ho, ⟨_, ex⟩, hσ⟩
    have kp : Keep (Ow P ow env σ) H1 (upd H1 a (.lst (vs0 ++ [v]))) := fun b o e n => by
      rw [upd_ne fun z => n (by rw [z]; exact oa)]
      exact e
    obtain ⟨h1, h2⟩ := hs1.putO ho ex hσ (.lst upd_same (Res.snoc (Rep.keep kp (Rep.same s1 ra)) (r1.keep kp)))
    exact q _ _ h1 (Fr.trans (.same s1) h2)
/-- x[k] = e -/
def putG (i : Nat) (f : En → Option Val) (r : En → Option Val) : En → Option Out := fun env => match env[i]? with
  | some (some (.lst xs)) => (r env).bind fun y => (f env).bind fun k => match k with
    | .int j => (ixN xs.length j).map fun n => .nx (env.set i (some (.lst (xs.set n y))))
    | _ => none
  | _ => none
theorem Res.set {P : Addr → Prop} {H : Hp} {v : V} {x : Val} (r : Re cm P H v x) : ∀ {vs : List V} {xs : List Val} (n : Nat), Res cm P H vs xs → Res cm P H (vs.set n v) (xs.set n x)
  | _, _, _, .nil => .nil
  | _, _, 0, .cons _ t => .cons r t
  | _, _, n + 1, .cons q t => .cons q (Res.set r n t)
theorem sv_put0 {r : En → Option Val} {t : TE} {i : Nat} (hst : PS X st (tAsg t (gSub (tVar i) (tV cm f) rSetL))) (ho : i ∈ ow) (sr : SrV cm ow r t) : SV X cm ow st (putG i f r) := hst.weak fun D σ H ⟨P, H0, env, o, hs, hg, q⟩ => by
  unfold putG at hg
  split at hg
  case h_2 => cases hg
  rename_i xs ex
  obtain ⟨y, ey, hg⟩ := Option.bind_eq_some_iff.mp hg
  obtain ⟨k, ek, hg⟩ := Option.bind_eq_some_iff.mp hg
  split at hg
  case h_2 => cases hg
  rename_i j
  obtain ⟨n, en, rfl⟩ := Option.map_eq_some_iff.mp hg
  obtain ⟨a, hσ, nP, h0, tp⟩ := hs.own i ho _ ex
  cases tp with
  | @lst vs0 _ ha ra =>
    refine sr P H0 H env σ y _ hs ey fun v H1 s1 r1 => ⟨_, hσ, ⟨P, env, .int j, (hs.same s1).view, ek, fun u H2 s2 r2 => ?_⟩⟩
    cases r2.int_
    have s12 := s1.trans s2
    refine ⟨a, _, j, n, rfl, rfl, s12 _ _ ha, by rw [Res.length ra]; exact en, ?_⟩
    have hs2 := hs.same s12
    have oa : Ow P ow env σ a := .inr ⟨i, ho, ⟨_, ex⟩, hσ⟩
    have kp : Keep (Ow P ow env σ) H2 (upd H2 a (.lst (vs0.set n v))) := fun b o e n => by
      rw [upd_ne fun z => n (by rw [z]; exact oa)]
      exact e
    obtain ⟨h1, h2⟩ := hs2.putO ho ex hσ (.lst upd_same (Res.set ((r1.same s2).keep kp) n (Rep.keep kp (Rep.same s12 ra))))
    exact q _ _ h1 (Fr.trans (.same s12) h2)
end
end Up

namespace Up
open PySem PySem.Spec PyProof.Rows L2
/-- a def of the text under its name -/
structure Dd (K : PySem.W.Frag) (mg : Str → Option Value) (x : Str) (st : Stmt) (ps : List Str) (f : Addr) (fd : FuncData) : Prop where
  fn : Fun K x x st f fd
  at_ : mg x = some (.ref f)
  bd : Binds K fd ps []
/-- a def that is a function of its arguments' trees, under its name, to be called at level k -/
structure Df (P : Program) (w : World) (K : PySem.W.Frag) (mg : Str → Option Value) (base : Heap) (cm : Cm) (x : Str) (k : Nat) (ps : List Str) (F : List Val → Option Val) (f : Addr) (fd : FuncData) : Prop where
  ok : FnOk P w K mg base CX0 k f fd ps (spV cm F)
  at_ : mg x = some (.ref f)
  kp : PySem.W.keepIn K (.ref f) = true
  bd : Binds K fd ps []
theorem Df.mono {P : Program} {w : World} {K : PySem.W.Frag} {mg : Str → Option Value} {base : Heap} {cm : Cm} {x : Str} {k j : Nat} {ps : List Str} {F : List Val → Option Val} {f : Addr} {fd : FuncData} (d : Df P w K mg base cm x k ps F f fd) (h : k ≤ j) : Df P w K mg base cm x j ps F f fd := ⟨d.ok.mono h, d.at_, d.kp, d.bd⟩
theorem spV.imp {cm : Cm} {F G : List Val → Option Val} (h : ∀ xs z, G xs = some z → F xs = some z) (vs : List V) (H : Hp) (Q : VK) (E : XK) : spV cm G vs H Q E → spV cm F vs H Q E := fun ⟨P', xs, z, a, b, c, q⟩ => ⟨P', xs, z, a, b, h _ _ c, q⟩
section
variable {X : Cx} {cm : Cm} {a b c e : Expr} {es : List Expr} {f g h : En → Option Val} {pos : Pos}
theorem vv (i : Nat) {x : Str} (hN : X.N[i]? = some x := by rfl) (hv : Vis X.env.scope x := by first | exact Or.inl rfl | exact Or.inr (Or.inl rfl) | exact Or.inr (Or.inr rfl)) (hd : (x == ("__debug__" : Str)) = false := by decide)
    (hcd : (x == ("__classdict__" : Str)) = false := by decide) : VE X cm (.Name x pos) (getE i) := ve_var hN hv hd hcd
theorem ve_callD {k : Nat} {ps : List Str} {F : List Val → Option Val} {x : Str} {p : Pos} {t : En → Option (List Val)} {fa : Addr} {fd : FuncData} (d : Df X.prog X.w X.K X.mg X.base cm x k ps F fa fd) (hr : Room k X.A) (hg : Gl X x) (ha : VA X cm (e :: es) t) (hdb : (x == ("__debug__" : Str)) = false := by decide)
    (he : starEach (e :: es) X.env = (false, eval e X.env) :: starEach es X.env := by rfl) (hpl : (backTo pos (starEach es X.env)).any (·.1) = false := by rfl) : VE X cm (.Call (.Name x p) (e :: es) [] pos) (appF F t) := ve_call d.ok hr hg d.at_ d.kp d.bd pass0 ha hdb he hpl
def negF (f : En → Option Val) : En → Option Val := fun env => (f env).bind fun x => match x with
  | .int i => some (.int (-i))
  | _ => none
theorem ve_neg (ha : VE X cm a f) : VE X cm (.UnaryOp .USub a pos) (negF f) := (pe_un un_neg ha).weak fun σ H Q ⟨P, env, z, hs, hf, q⟩ => by
  unfold negF at hf
  obtain ⟨x, ex, hf⟩ := Option.bind_eq_some_iff.mp hf
  refine ⟨P, env, x, hs, ex, fun v H1 s1 r1 => ?_⟩
  split at hf
  · cases hf
    cases r1.int_
    exact ⟨_, rfl, q _ H1 s1 (.int _)⟩
  · cases hf
/-- 0 <= x < n -/
def chainF (p r : Int → Int → Bool) (f g h : En → Option Val) : En → Option Val := fun env => (f env).bind fun x => (g env).bind fun y => match x, y with
  | .int i, .int j => if p i j = true then (h env).bind fun z => match z with
    | .int k => some (.bl (r j k))
    | _ => none
    else some (.bl false)
  | _, _ => none
theorem chain_go {p r : Int → Int → Bool} {σ : L2.St} {H : Hp} {Q : VK} (t : tV cm (chainF p r f g h) σ H Q) : tChain (rI0 fun i j => .bl (p i j)) (rI0 fun i j => .bl (r i j)) (tV cm f) (tV cm g) (tV cm h) σ H Q := by
  obtain ⟨P, env, z, hs, hf, q⟩ := t
  unfold chainF at hf
  obtain ⟨x, ex, h1⟩ := Option.bind_eq_some_iff.mp hf
  obtain ⟨y, ey, h2⟩ := Option.bind_eq_some_iff.mp h1
  split at h2
  case h_2 => cases h2
  rename_i i j
  refine ⟨P, env, _, hs, ex, fun v H1 s1 r1 => ⟨P, env, _, hs.same s1, ey, fun u H2 s2 r2 => ?_⟩⟩
  cases r1.int_
  cases r2.int_
  refine ⟨i, j, rfl, rfl, p i j, rfl, ?_⟩
  by_cases c : p i j = true
  · rw [if_pos c] at h2 ⊢
    obtain ⟨w, ew, h3⟩ := Option.bind_eq_some_iff.mp h2
    refine ⟨P, env, w, (hs.same s1).same s2, ew, fun t H3 s3 r3 => ?_⟩
    split at h3
    · cases h3
      cases r3.int_
      exact ⟨_, _, rfl, rfl, q _ H3 (s1.trans (s2.trans s3)) (.bl _)⟩
    · cases h3
  · rw [if_neg c] at h2 ⊢
    cases h2
    exact q _ H2 (s1.trans s2) (.bl _)
theorem ve_chain {op op' : CmpOp} {p r : Int → Int → Bool} (ho : OpR X (compareOp op) (rI0 fun i j => .bl (p i j))) (ho' : OpR X (compareOp op') (rI0 fun i j => .bl (r i j))) (ha : VE X cm a f) (hb : VE X cm b g) (hc : VE X cm c h)
    (hm : lastMarks [op, op'] [b, c] = false := by with_unfolding_all rfl) : VE X cm (.Compare a [op, op'] [b, c] pos) (chainF p r f g h) := (pe_chain ho ho' ha hb hc hm).weak fun σ H Q q => chain_go q
theorem vt_chain {op op' : CmpOp} {p r : Int → Int → Bool} (ho : OpR X (compareOp op) (rI0 fun i j => .bl (p i j))) (ho' : OpR X (compareOp op') (rI0 fun i j => .bl (r i j))) (ha : VE X cm a f) (hb : VE X cm b g) (hc : VE X cm c h)
    (hm : lastMarks [op, op'] [b, c] = false := by with_unfolding_all rfl) : VT X cm (.Compare a [op, op'] [b, c] pos) (tst (chainF p r f g h)) := (pt_chain ho ho' ha hb hc hm).weak fun σ H Q q => chain_go (tV_test σ H Q q _ fun k H' q => ⟨k, rfl, q⟩)
/-! + of tuples -/
def catTF : Val → Val → Option Val
  | .tup (x :: xs), .tup ys => if (x :: xs).length + ys.length ≤ most then some (.tup (x :: xs ++ ys)) else none
  | _, _ => none
theorem ov_catT {K : PySem.W.Frag} (P : Addr → Prop) (x y z : Val) (v u : V) (H : Hp) (Q : VK) (hd : Hid P H) (e : catTF x y = some z) (rx : Re cm P H v x) (ry : Re cm P H u y) (q : ∀ v' H', Same H H' → Re cm P H' v' z → Q v' H') : rCatT K v u H Q := by
  unfold catTF at e
  split at e
  case h_2 => cases e
  split at e
  case isFalse => cases e
  rename_i l
  cases e
  obtain ⟨a, vs, rfl, n1, h1, r1⟩ := rx.tup_
  obtain ⟨b, us, rfl, n2, h2, r2⟩ := ry.tup_
  have l1 := Res.length r1
  have l2 := Res.length r2
  refine ⟨a, b, vs, us, rfl, rfl, .inl (.inl h1), .inl (.inl h2), fun z => ?_, by rw [l1, l2]; exact Nat.le_of_lt (most_line l), fun z => ?_, fun z p np => ?_⟩
  · rw [z] at l1
    simp at l1
  · subst z
    cases r2
    rw [List.append_nil] at q
    exact q _ H (Same.refl H) (.tup n1 h1 r1)
  · have s2 : Same H (upd H p (.tup (vs ++ us))) := fun b o eb => by rw [upd_ne (ne_of_none eb np)]; exact eb
    exact q _ _ s2 (.tup (hd.new np) upd_same ((Res.append r1 r2 : Res cm P H _ _).same s2))
theorem ve_catT (ha : VE X cm a f) (hb : VE X cm b g) : VE X cm (.BinOp a .Add b pos) (bin2 catTF f g) := (pe_op op_catT ha hb).weak fun σ H Q q => by
  obtain ⟨P, env, z, hs, hf, q⟩ := q
  unfold bin2 at hf
  obtain ⟨x, ex, h1⟩ := Option.bind_eq_some_iff.mp hf
  obtain ⟨y, ey, h2⟩ := Option.bind_eq_some_iff.mp h1
  refine ⟨P, env, x, hs, ex, fun v H1 s1 r1 => ⟨P, env, y, hs.same s1, ey, fun u H2 s2 r2 => ?_⟩⟩
  exact ov_catT P x y z v u H2 Q ((hs.hid.same s1).same s2) h2 (r1.same s2) r2 fun v' H3 s3 r3 => q v' H3 (s1.trans (s2.trans s3)) r3
end
section
variable {X : Cx} {cm : Cm} {ow : List Nat} {a b c e : Expr} {es : List Expr} {f g h : En → Option Val} {pos : Pos} {st : Stmt}
theorem sv_set0 {r : En → Option Val} {t : TE} {i : Nat} (hst : PS X st (tAsg t (gName i))) (ho : i ∉ ow) (sr : SrV cm ow r t) : SV X cm ow st (setG i r) := hst.weak fun D σ H ⟨P, H0, env, o, hs, hg, q⟩ => by
  obtain ⟨y, ey, rfl⟩ := Option.map_eq_some_iff.mp hg
  exact sr P H0 H env σ y _ hs ey fun v H1 s1 r1 => q _ H1 ((hs.same s1).set ho r1) (Fr.set ho s1)
theorem sr_sn {r : En → Option (List Val)} {t : TE} (sn : SnV cm ow r t) : SrV cm ow (fun env => (r env).map .lst) t := fun P H0 H env σ x Q hs e q => by
  obtain ⟨xs, ex, rfl⟩ := Option.map_eq_some_iff.mp e
  exact sn P H0 H env σ xs Q hs ex fun a vs H' s na ha rs => q _ H' s (.lst (fun c => hs.sl.hid.new na c) ha (rs.less fun b c => .inl c))
theorem SnV.weak {r : En → Option (List Val)} {t t' : TE} (sn : SnV cm ow r t') (k : ∀ σ H Q, t' σ H Q → t σ H Q) : SnV cm ow r t := fun P H0 H env σ xs Q hs e q => k σ H Q (sn P H0 H env σ xs Q hs e q)
theorem sv_setLc {i : Nat} {y : Str} {py : Pos} {elt tg iter : Expr} {ifs : List Expr} {scope : Scope} {own : List (Str × Nat)} {spos : Pos} {gt : TG} {tt : TT} {fi : En → Option (List Val)} {bnd : Val → Option (List (Nat × Val))} {ft : En → Option Bool} {fe : En → Option Val} {is : List Nat} {r : En → Option (List Val)} (hc : X.calm = true) (hN : X.N.Nodup) (hy : X.N[i]? = some y) (hyl : X.env.scope.names.lookup y = some .local)
    (hsw : swapsWith (.ListComp elt [⟨tg, iter, ifs, 0⟩] scope pos) (some (.Name y py)) spos.line X.env = pure true) (hi : VI X cm tg iter fi) (ok : BlkOk X.N X.env.scope scope own)
    (hg : ∀ (s : Shared) (H : Hp) (C : Addr) (cl : List (Str × Addr)) (fp : List Addr), PG (X.blk s H scope (compEnvC scope cl C X.env) fp) tg gt) (ht : ∀ (s : Shared) (H : Hp) (C : Addr) (cl : List (Str × Addr)) (fp : List Addr), PTs (X.blk s H scope (compEnvC scope cl C X.env) fp) ifs tt)
    (he : ∀ (s : Shared) (H : Hp) (C : Addr) (cl : List (Str × Addr)) (fp : List Addr), VE (X.blk s H scope (compEnvC scope cl C X.env) fp) cm elt fe) (tg_ : TgV cm gt bnd is) (hi2 : ∀ i ∈ is, i ∈ own.map (·.2)) (tt_ : TtV cm tt ft) (ho : i ∉ ow) (sn : SnV cm ow r (tN cm (lcF fi bnd ft fe (own.map (·.2))))) (hs : ∀ x, foldedSetIterable iter X.env x = pure x := by intro _; rfl) :
    SV X cm ow (.Assign [.Name y py] (.ListComp elt [⟨tg, iter, ifs, 0⟩] scope pos) spos) (setG i (fun env => (r env).map .lst)) :=
  sv_set0 (ps_setLc hc hN hy hyl hsw hi ok hg ht he hs) ho (sr_sn (sn.weak (tLc_of tg_ hi2 tt_)))
theorem sv_newLc {i : Nat} {y : Str} {py : Pos} {elt tg iter : Expr} {ifs : List Expr} {scope : Scope} {own : List (Str × Nat)} {spos : Pos} {gt : TG} {tt : TT} {fi : En → Option (List Val)} {bnd : Val → Option (List (Nat × Val))} {ft : En → Option Bool} {fe : En → Option Val} {is : List Nat} {r : En → Option (List Val)} (hc : X.calm = true) (hN : X.N.Nodup) (hy : X.N[i]? = some y) (hyl : X.env.scope.names.lookup y = some .local)
    (hsw : swapsWith (.ListComp elt [⟨tg, iter, ifs, 0⟩] scope pos) (some (.Name y py)) spos.line X.env = pure true) (hi : VI X cm tg iter fi) (ok : BlkOk X.N X.env.scope scope own)
    (hg : ∀ (s : Shared) (H : Hp) (C : Addr) (cl : List (Str × Addr)) (fp : List Addr), PG (X.blk s H scope (compEnvC scope cl C X.env) fp) tg gt) (ht : ∀ (s : Shared) (H : Hp) (C : Addr) (cl : List (Str × Addr)) (fp : List Addr), PTs (X.blk s H scope (compEnvC scope cl C X.env) fp) ifs tt)
    (he : ∀ (s : Shared) (H : Hp) (C : Addr) (cl : List (Str × Addr)) (fp : List Addr), VE (X.blk s H scope (compEnvC scope cl C X.env) fp) cm elt fe) (tg_ : TgV cm gt bnd is) (hi2 : ∀ i ∈ is, i ∈ own.map (·.2)) (tt_ : TtV cm tt ft) (ho : i ∈ ow) (sn : SnV cm ow r (tN cm (lcF fi bnd ft fe (own.map (·.2))))) (hs : ∀ x, foldedSetIterable iter X.env x = pure x := by intro _; rfl) :
    SV X cm ow (.Assign [.Name y py] (.ListComp elt [⟨tg, iter, ifs, 0⟩] scope pos) spos) (newG i r) :=
  sv_new0 (hst := ps_setLc hc hN hy hyl hsw hi ok hg ht he hs) ho (sn.weak (tLc_of tg_ hi2 tt_))
/-! n += e, of ints -/
def augG (i : Nat) (op : Int → Int → Int) (f : En → Option Val) : En → Option Out := fun env => (getE i env).bind fun x => (f env).bind fun y => match x, y with
  | .int m, .int n => some (.nx (env.set i (some (.int (op m n)))))
  | _, _ => none
theorem sv_aug0 {i : Nat} {op : Int → Int → Int} (hst : PS X st (tAug i (tV cm f) (ipI op))) (ho : i ∉ ow) : SV X cm ow st (augG i op f) := hst.weak fun D σ H ⟨P, H0, env, o, hs, hg, q⟩ => by
  unfold augG at hg
  obtain ⟨x, ex, h1⟩ := Option.bind_eq_some_iff.mp hg
  obtain ⟨y, ey, h2⟩ := Option.bind_eq_some_iff.mp h1
  split at h2
  case h_2 => cases h2
  rename_i m n
  cases h2
  have e2 : env[i]? = some (some (.int m)) := by
    unfold getE at ex
    cases e : env[i]? with
    | none => rw [e] at ex; cases ex
    | some o =>
      rw [e] at ex
      cases o with
      | none => cases ex
      | some z => cases ex; rfl
  obtain ⟨v, h3, h4⟩ := hs.view.at_ i _ e2
  cases h4.int_
  refine ⟨_, h3, P, env, .int n, hs.view, ey, fun u H1 s1 r1 => ?_⟩
  cases r1.int_
  exact ⟨m, n, rfl, rfl, q _ H1 ((hs.same s1).set ho (.int _)) (Fr.set ho s1)⟩
end
section
variable {P : Program} {w : World} {K : PySem.W.Frag} {mg : Str → Option Value} {base : Heap} {cm : Cm}
theorem okD {x : Str} {st : Stmt} {f : Addr} {fd : FuncData} {N ps : List Str} {k : Nat} (ow : List Nat) {g : En → Option Out} (D : Dd K mg x st ps f fd) (S : FnScope N ps (defScope st)) (ho : ∀ i ∈ ow, ps.length ≤ i)
    (hbody : ∀ (cdv : Value) (A : Around) (outer : List Env) (s : Shared) (H : Hp) (E : XK), Room k (A.deeper (envOfC x (defScope st) s.heap.objs.size f cdv)) → (A.deeper (envOfC x (defScope st) s.heap.objs.size f cdv)).units + 64 < cLine → SVs (cxOf CX0 P w K mg base N x (defScope st) f cdv A outer s H E).nox cm ow (defBody st) g) :
    Df P w K mg base cm x (k + 1) ps (runV N.length ps.length g) f fd :=
  ⟨okV ow D.fn S ho fun cdv A outer s H E hr => hbody cdv A outer s H E hr (by have := hr.un; omega), D.at_, D.fn.kp, D.bd⟩
end
end Up

namespace Up
open PySem PySem.Spec PyProof.Rows L2
theorem it_gen {J : It} {n : Nat} {G : Hp → Prop} {Y : Nat → Hp → V → Hp → Prop} (w : Walk J n G Y) {B : (Hp → Prop) → V → Hp → Prop} {Hs : Hp} {Qd : Hp → Prop} (Pv : Nat → Hp → Prop) (h0 : Pv 0 Hs) (hG : ∀ i H, i ≤ n → Pv i H → G H)
    (hs : ∀ i x H H', i < n → Pv i H → Y i H x H' → B (Pv (i + 1)) x H') (hd : ∀ H, Pv n H → Qd H) :
    ∃ W : Nat → Nat → Hp → Prop, (∃ m, W 0 m Hs) ∧ ∀ i m H, W i m H → (J.stop i H ∧ Qd H) ∨ (J.go i H ∧ ∃ Nx : Hp → Prop, (∀ H', Nx H' → ∃ m', m' < m ∧ W (i + 1) m' H') ∧ ∀ x H', J.yld i H x H' → B Nx x H') := by
  refine ⟨fun i m H => m = n - i ∧ i ≤ n ∧ Pv i H, ⟨n, by simp, Nat.zero_le _, h0⟩, ?_⟩
  rintro i m H ⟨rfl, hi, p⟩
  have q := hG i H hi p
  by_cases hlt : i < n
  · refine .inr ⟨w.goes i H hlt q, Pv (i + 1), fun H' p' => ⟨n - (i + 1), by omega, rfl, hlt, p'⟩, fun x H' y => hs i x H H' hlt p (w.yields i H x H' hlt q y)⟩
  · have e : i = n := by omega
    subst e
    exact .inl ⟨w.stops H q, hd H p⟩
def lc2Go (m : Val → Option (List (Nat × Val))) (ft : En → Option Bool) (fi1 : En → Option (List Val)) (m1 : Val → Option (List (Nat × Val))) (ft1 : En → Option Bool) (fe : En → Option Val) (vs1 : List Nat) (env : En) : List Val → Option (List Val)
  | [] => some []
  | x :: xs => (m x).bind fun ps => (ft (setE env ps)).bind fun k => if k = true then (fi1 (setE env ps)).bind fun ys => (lcGo m1 ft1 fe (wipeE (setE env ps) vs1) ys).bind fun zs => (lc2Go m ft fi1 m1 ft1 fe vs1 env xs).bind fun rest => some (zs ++ rest)
    else lc2Go m ft fi1 m1 ft1 fe vs1 env xs
def lc2F (fi : En → Option (List Val)) (m : Val → Option (List (Nat × Val))) (ft : En → Option Bool) (fi1 : En → Option (List Val)) (m1 : Val → Option (List (Nat × Val))) (ft1 : En → Option Bool) (fe : En → Option Val) (vs vs1 : List Nat) : En → Option (List Val) := fun env =>
  (fi env).bind fun xs => (lc2Go m ft fi1 m1 ft1 fe vs1 (wipeE env vs) xs).bind fun ys => if ys.length ≤ most then some ys else none
theorem tLc2_of {cm : Cm} {fi fi1 : En → Option (List Val)} {g g1 : TG} {m m1 : Val → Option (List (Nat × Val))} {is is1 vs vs1 : List Nat} {tt tt1 : TT} {ft ft1 : En → Option Bool} {fe : En → Option Val} (hg : TgV cm g m is) (hi : ∀ i ∈ is, i ∈ vs) (ht : TtV cm tt ft)
    (hg1 : TgV cm g1 m1 is1) (hi1 : ∀ i ∈ is1, i ∈ vs1) (ht1 : TtV cm tt1 ft1) (σ : L2.St) (H : Hp) (Q : VK) (q : tN cm (lc2F fi m ft fi1 m1 ft1 fe vs vs1) σ H Q) :
    tLc2 (iV cm fi) g tt (iV cm fi1) g1 tt1 (tV cm fe) vs vs1 σ H Q := by
  obtain ⟨P, env, ys, hs, hf, q⟩ := q
  unfold lc2F at hf
  obtain ⟨xs, ex, hf⟩ := Option.bind_eq_some_iff.mp hf
  obtain ⟨ys', hf, hl⟩ := Option.bind_eq_some_iff.mp hf
  split at hl
  case isFalse => cases hl
  rename_i lm
  cases hl
  refine ⟨P, env, xs, hs, ex, fun J H1 s1 w D nD => ?_⟩
  have hs1 := hs.same s1
  have hidT : ∀ H2, Same H1 H2 → (∃ acc, H2 D = some (.lst acc)) → Hid (fun b => P b ∨ b = D) H2 := fun H2 s2 ⟨acc, hD⟩ a c => by
    rcases c with c | c
    · exact (hs1.hid.same s2) a c
    · exact ⟨.lst acc, by rw [c]; exact hD, fun vs z => nomatch z⟩
  have toD : ∀ a, (fun b => P b ∨ b = D) a → P a ∨ H1 a = none := fun a c => c.elim .inl fun z => .inr (by rw [z]; exact nD)
  have push : ∀ (H5 : Hp) (acc : List V) (dn : List Val) (u : V) (z : Val), H5 D = some (.lst acc) → Same H1 H5 → Res cm (fun b => P b ∨ b = D) H5 acc dn → Re cm (fun b => P b ∨ b = D) H5 u z →
      (upd H5 D (.lst (acc ++ [u]))) D = some (.lst (acc ++ [u])) ∧ Same H1 (upd H5 D (.lst (acc ++ [u]))) ∧ Res cm (fun b => P b ∨ b = D) (upd H5 D (.lst (acc ++ [u]))) (acc ++ [u]) (dn ++ [z]) := fun H5 acc dn u z hD s5 rs ru => by
    have kp : Keep (fun b => P b ∨ b = D) H5 (upd H5 D (.lst (acc ++ [u]))) := fun b o e n => by
      rw [upd_ne fun z => n (.inr z)]
      exact e
    refine ⟨upd_same, fun b o e => ?_, Res.snoc (Rep.keep kp rs) (ru.keep kp)⟩
    rw [upd_ne (ne_of_none e nD)]
    exact s5 _ _ e
  refine it_gen w (fun i H2 => ∃ (acc : List V) (dn rest : List Val), H2 D = some (.lst acc) ∧ Same H1 H2 ∧ Res cm (fun b => P b ∨ b = D) H2 acc dn ∧ lc2Go m ft fi1 m1 ft1 fe vs1 (wipeE env vs) (xs.drop i) = some rest ∧ dn ++ rest = ys) ⟨[], [], ys, upd_same, fun b o e => by rw [upd_ne (ne_of_none e nD)]; exact e, .nil, hf, rfl⟩ (fun i H2 _ ⟨_, _, _, _, s2, _⟩ => ⟨.of s2, hs1.hid.same s2⟩) ?_ ?_
  · rintro i x H2 H3 hi2 ⟨acc, dn, rest, hD, s2, rs, hr, hy⟩ ⟨s3, y, ey, ry⟩
    have ry2 := ry (fun b => P b ∨ b = D) toD (hidT H2 s2 ⟨_, hD⟩)
    have hs2 : Slots cm (fun b => P b ∨ b = D) H3 (L2.wipe σ vs) (wipeE env vs) := by
      have k : Slots cm (fun b => P b ∨ b = D) H2 σ env := ⟨hs.len, fun j z ez => by
        obtain ⟨v, h1, h2⟩ := hs1.at_ j z ez
        exact ⟨v, h1, h2.move toD (.of s2)⟩, hidT H2 s2 ⟨_, hD⟩⟩
      exact (k.same s3).wipe vs
    have dr : xs.drop i = y :: xs.drop (i + 1) := by
      obtain ⟨lt, eq⟩ := List.getElem?_eq_some_iff.mp ey
      rw [List.drop_eq_getElem_cons lt, eq]
    rw [dr] at hr
    unfold lc2Go at hr
    obtain ⟨ps, e1, hr⟩ := Option.bind_eq_some_iff.mp hr
    obtain ⟨k, e2, hr⟩ := Option.bind_eq_some_iff.mp hr
    obtain ⟨qs, pr, mem, go⟩ := hg.go _ H3 x y ps ry2 e1
    have hs3 := Slots.sets pr hs2
    refine go _ _ ⟨?_, ht _ _ k _ H3 _ hs3 e2 fun H4 s4 => ?_⟩
    · rw [wipe_setA fun q hq => hi _ (mem q hq), wipe_wipe fun _ h => h]
    · have hD4 := s4 _ _ (s3 _ _ hD)
      have s14 := s2.trans (s3.trans s4)
      have rs4 := Rep.same s4 (Rep.same s3 rs)
      by_cases c : k = true
      · rw [if_pos c] at hr ⊢
        obtain ⟨ys1, ey1, hr⟩ := Option.bind_eq_some_iff.mp hr
        obtain ⟨zs, ez, hr⟩ := Option.bind_eq_some_iff.mp hr
        obtain ⟨rest2, er, hr⟩ := Option.bind_eq_some_iff.mp hr
        cases hr
        refine ⟨_, _, ys1, hs3.same s4, ey1, fun J1 H5 s5 w1 => ?_⟩
        have hs5 := (hs3.same s4).same s5
        refine it_gen w1 (fun j H6 => ∃ (acc : List V) (dn1 rest1 : List Val), H6 D = some (.lst acc) ∧ Keep (fun b => P b ∨ b = D) H5 H6 ∧ Same H1 H6 ∧ Res cm (fun b => P b ∨ b = D) H6 acc dn1 ∧ lcGo m1 ft1 fe (wipeE (setE (wipeE env vs) ps) vs1) (ys1.drop j) = some rest1 ∧ dn1 ++ rest1 = dn ++ zs)
          ⟨acc, dn, zs, s5 _ _ hD4, .refl, s14.trans s5, Rep.same s5 rs4, ez, rfl⟩ (fun j H6 _ ⟨_, _, _, hz, kp, s6, _⟩ => ⟨kp, hidT H6 s6 ⟨_, hz⟩⟩) ?_ ?_
        · rintro j x1 H6 H7 hj ⟨acc1, dn1, rest1, hD6, kp6, s6, rs6, hr6, hy6⟩ ⟨s7, y1, ey7, ry7⟩
          have ry8 := ry7 (fun b => P b ∨ b = D) (fun a c => .inl c) (hidT H6 s6 ⟨_, hD6⟩)
          have hs7 : Slots cm (fun b => P b ∨ b = D) H7 (L2.wipe (setA (L2.wipe σ vs) qs) vs1) (wipeE (setE (wipeE env vs) ps) vs1) := ((hs5.keep kp6 (hidT H6 s6 ⟨_, hD6⟩)).same s7).wipe vs1
          have dr1 : ys1.drop j = y1 :: ys1.drop (j + 1) := by
            obtain ⟨lt, eq⟩ := List.getElem?_eq_some_iff.mp ey7
            rw [List.drop_eq_getElem_cons lt, eq]
          rw [dr1] at hr6
          unfold lcGo at hr6
          obtain ⟨ps1, e3, hr6⟩ := Option.bind_eq_some_iff.mp hr6
          obtain ⟨k1, e4, hr6⟩ := Option.bind_eq_some_iff.mp hr6
          obtain ⟨qs1, pr1, mem1, go1⟩ := hg1.go _ H7 x1 y1 ps1 ry8 e3
          have hs8 := Slots.sets pr1 hs7
          refine go1 _ _ ⟨?_, ht1 _ _ k1 _ H7 _ hs8 e4 fun H8 s8 => ?_⟩
          · rw [wipe_setA fun q hq => hi1 _ (mem1 q hq), wipe_wipe fun _ h => h]
          · have hD8 := s8 _ _ (s7 _ _ hD6)
            have s18 := s6.trans (s7.trans s8)
            have rs8 := Rep.same s8 (Rep.same s7 rs6)
            have kp8 : Keep (fun b => P b ∨ b = D) H5 H8 := kp6.trans ((Keep.of s7).trans (.of s8))
            by_cases c1 : k1 = true
            · rw [if_pos c1] at hr6 ⊢
              obtain ⟨z, e5, hr6⟩ := Option.bind_eq_some_iff.mp hr6
              obtain ⟨rest3, e6, hr6⟩ := Option.bind_eq_some_iff.mp hr6
              cases hr6
              refine ⟨_, _, z, hs8.same s8, e5, fun u H9 s9 ru => ⟨acc1, s9 _ _ hD8, ?_, ?_⟩⟩
              · have h1 := Res.length rs8
                have h2 := congrArg List.length hy6
                have h3 := congrArg List.length hy
                simp only [List.length_append, List.length_cons] at h2 h3
                exact most_line (by omega)
              · obtain ⟨p1, p2, p3⟩ := push H9 acc1 dn1 u z (s9 _ _ hD8) (s18.trans s9) (Rep.same s9 rs8) ru
                refine ⟨_, dn1 ++ [z], rest3, p1, fun b o e n => ?_, p2, p3, e6, by rw [List.append_assoc]; exact hy6⟩
                rw [upd_ne fun z => n (.inr z)]
                exact s9 _ _ (kp8 b o e n)
            · rw [if_neg c1] at hr6 ⊢
              exact ⟨acc1, dn1, rest1, hD8, kp8, s18, rs8, hr6, hy6⟩
        · rintro H6 ⟨acc1, dn1, rest1, hD6, kp6, s6, rs6, hr6, hy6⟩
          rw [List.drop_length] at hr6
          cases hr6
          rw [List.append_nil] at hy6
          subst hy6
          exact ⟨acc1, _, rest2, hD6, s6, rs6, er, by rw [List.append_assoc]; exact hy⟩
      · rw [if_neg c] at hr ⊢
        exact ⟨acc, dn, rest, hD4, s14, rs4, hr, hy⟩
  · rintro H2 ⟨acc, dn, rest, hD, s2, rs, hr, hy⟩
    rw [List.drop_length] at hr
    cases hr
    rw [List.append_nil] at hy
    subst hy
    exact q D acc H2 (s1.trans s2) (s1.free nD) hD rs lm
/-! isinstance(x, (T1, T2)) -/
section
variable {X : Cx} {cm : Cm} {a b c e : Expr} {f g h : En → Option Val} {pos : Pos}
def isi2F (T1 T2 : String) (f : En → Option Val) : En → Option Val := fun env => (f env).bind fun x => (tyOf x).bind fun t => (kitB t T1).bind fun b1 => (kitB t T2).map fun b2 => .bl (b1 || b2)
theorem kitAny2 {K : PySem.W.Frag} {t T1 T2 : String} {b1 b2 : Bool} (h1 : kitB t T1 = some b1) (h2 : kitB t T2 = some b2) : PySem.W.kitAny K (.type t) [.type T1, .type T2] = some (b1 || b2) := by
  unfold PySem.W.kitAny
  rw [kit_ty h1]
  cases b1
  · show PySem.W.kitAny K (.type t) [.type T2] = some (false || b2)
    unfold PySem.W.kitAny
    rw [kit_ty h2]
    cases b2 <;> rfl
  · rfl
theorem ve_isi2 {T1 T2 : String} {x1 x2 : Str} {p p1 p2 p3 : Pos} {kk : Nat} (g1 : Gl X x1) (m1 : X.mg x1 = none) (v1 : bootBuiltins x1 = some (.type T1)) (g2 : Gl X x2) (m2 : X.mg x2 = none) (v2 : bootBuiltins x2 = some (.type T2)) (hg : Gl X "isinstance") (hm : X.mg "isinstance" = none) (hv : bootBuiltins "isinstance" = some (.builtin "isinstance")) (ha : VE X cm e f)
    (n1 : x1 ≠ "__name__" := by decide) (d1 : (x1 == ("__debug__" : Str)) = false := by decide) (n2 : x2 ≠ "__name__" := by decide) (d2 : (x2 == ("__debug__" : Str)) = false := by decide)
    (s1 : starEach [.Name x1 p1, .Name x2 p2] X.env = (false, eval (.Name x1 p1) X.env) :: starEach [.Name x2 p2] X.env := by rfl) (s2 : starEach [.Name x2 p2] X.env = (false, eval (.Name x2 p2) X.env) :: starEach [] X.env := by rfl)
    (he : starEach [e, .Tuple [.Name x1 p1, .Name x2 p2] kk p3] X.env = (false, eval e X.env) :: starEach [.Tuple [.Name x1 p1, .Name x2 p2] kk p3] X.env := by rfl) (he2 : starEach [.Tuple [.Name x1 p1, .Name x2 p2] kk p3] X.env = (false, eval (.Tuple [.Name x1 p1, .Name x2 p2] kk p3) X.env) :: starEach [] X.env := by rfl) (hpl : (backTo pos (starEach [.Tuple [.Name x1 p1, .Name x2 p2] kk p3] X.env)).any (·.1) = false := by rfl) :
    VE X cm (.Call (.Name "isinstance" p) [e, .Tuple [.Name x1 p1, .Name x2 p2] kk p3] [] pos) (isi2F T1 T2 f) :=
  (pe_callB call_isiT hg hm hv (pa_cons ha (pa_cons (pe_tup (pa_cons (pe_bltn (v := .ty T1) g1 m1 v1 rfl n1 d1) (pa_cons (pe_bltn (v := .ty T2) g2 m2 v2 rfl n2 d2) pa_nil s2) s1)) pa_nil he2) he) (by decide) (by decide) he hpl).weak fun σ H Q ⟨P, env, z, hs, hf, q⟩ => by
    unfold isi2F at hf
    obtain ⟨x, ex, h1⟩ := Option.bind_eq_some_iff.mp hf
    obtain ⟨t, et, h2⟩ := Option.bind_eq_some_iff.mp h1
    obtain ⟨b1, e1, h3⟩ := Option.bind_eq_some_iff.mp h2
    obtain ⟨b2, e2, rfl⟩ := Option.map_eq_some_iff.mp h3
    refine ⟨P, env, x, hs, ex, fun v H1 s1 r1 => ⟨by show 2 ≤ sizeLine; rw [sizeLine_eq]; omega, fun p np => ?_⟩⟩
    have s2 : Same H1 (upd H1 p (.tup [.ty T1, .ty T2])) := fun b o eb => by rw [upd_ne (ne_of_none eb np)]; exact eb
    exact ⟨v, p, _, .type t, _, b1 || b2, rfl, upd_same, .cons (.ty T1) (.cons (.ty T2) .nil), tyOf_re (r1.same s2) et, kitAny2 e1 e2, q _ _ (s1.trans s2) (.bl _)⟩
end
/-! any slice, any sum of tuples -/
section
variable {X : Cx} {cm : Cm} {a b c e : Expr} {f g h : En → Option Val} {pos : Pos}
def cutTA : Val → Option Int → Option Int → Option Val
  | .tup xs, lo, hi => some (.tup (cutG xs lo hi))
  | _, _, _ => none
theorem cutG_whole {xs : List Val} {lo hi : Option Int} (h1 : HT.sIx xs.length 0 lo = 0) (h2 : HT.sIx xs.length xs.length hi = xs.length) : cutG xs lo hi = xs := by
  unfold cutG
  rw [h1, h2, List.drop_zero, Nat.sub_zero, List.take_length]
theorem vs_tupA (P : Addr → Prop) (x z : Val) (i j : Option Int) (v : V) (H : Hp) (Q : VK) (hd : Hid P H) (e : cutTA x i j = some z) (r : Re cm P H v x) (q : ∀ v' H', Same H H' → Re cm P H' v' z → Q v' H') : rSlA X.K v i j H Q := by
  unfold cutTA at e
  split at e
  · cases e
    obtain ⟨a, vs, rfl, n, hh, rs⟩ := r.tup_
    refine ⟨a, vs, rfl, .inl (.inl hh), fun h12 => ?_, fun c p np => ?_⟩
    · rw [Res.length rs] at h12
      rw [cutG_whole h12.1 h12.2] at q
      exact q _ H (Same.refl H) (.tup n hh rs)
    · have s2 : Same H (upd H p (.tup (cutV vs i j))) := fun b o eb => by rw [upd_ne (ne_of_none eb np)]; exact eb
      exact q _ _ s2 (.tup (hd.new np) upd_same (Rep.same s2 (cutG_re rs)))
  · cases e
def catTA : Val → Val → Option Val
  | .tup xs, .tup ys => if xs.length + ys.length ≤ most then some (.tup (xs ++ ys)) else none
  | _, _ => none
theorem ve_catTA (ha : VE X cm a f) (hb : VE X cm b g) : VE X cm (.BinOp a .Add b pos) (bin2 catTA f g) := (pe_op op_catA ha hb).weak fun σ H Q q => by
  obtain ⟨P, env, z, hs, hf, q⟩ := q
  unfold bin2 at hf
  obtain ⟨x, ex, h1⟩ := Option.bind_eq_some_iff.mp hf
  obtain ⟨y, ey, h2⟩ := Option.bind_eq_some_iff.mp h1
  refine ⟨P, env, x, hs, ex, fun v H1 s1 r1 => ⟨P, env, y, hs.same s1, ey, fun u H2 s2 r2 => ?_⟩⟩
  have hd := (hs.hid.same s1).same s2
  have r1 : Re cm P H2 v x := r1.same s2
  unfold catTA at h2
  split at h2
  case h_2 => cases h2
  split at h2
  case isFalse => cases h2
  rename_i l
  cases h2
  obtain ⟨a, vs, rfl, n1, ha1, k1⟩ := r1.tup_
  obtain ⟨b, us, rfl, n2, hb2, k2⟩ := r2.tup_
  have l1 := Res.length k1
  have l2 := Res.length k2
  have s12 := s1.trans s2
  refine ⟨a, b, vs, us, rfl, rfl, .inl (.inl ha1), .inl (.inl hb2), by rw [l1, l2]; exact Nat.le_of_lt (most_line l), fun z => ?_, fun _ z => ?_, fun _ _ p np => ?_⟩
  · subst z
    cases k1
    exact q _ H2 s12 (.tup n2 hb2 k2)
  · subst z
    cases k2
    rw [List.append_nil] at q
    exact q _ H2 s12 (.tup n1 ha1 k1)
  · have s3 : Same H2 (upd H2 p (.tup (vs ++ us))) := fun b o eb => by rw [upd_ne (ne_of_none eb np)]; exact eb
    exact q _ _ (s12.trans s3) (.tup (hd.new np) upd_same (Rep.same s3 (Res.append k1 k2)))
end
section
variable {X : Cx} {cm : Cm} {ow : List Nat} {a b c e : Expr} {es : List Expr} {f g h : En → Option Val} {pos : Pos} {st : Stmt}
theorem vn_lc2 {elt tg iter tg1 iter1 : Expr} {ifs ifs1 : List Expr} {scope : Scope} {own : List (Str × Nat)} {vs1 : List Nat} {gt gt1 : TG} {tt tt1 : TT} {fi fi1 : En → Option (List Val)} {m m1 : Val → Option (List (Nat × Val))} {ft ft1 : En → Option Bool} {fe : En → Option Val} {is is1 : List Nat} (hc : X.calm = true) (hN : X.N.Nodup) (hi : VI X cm tg iter fi) (ok : BlkOk X.N X.env.scope scope own) (hv : ∀ i ∈ vs1, i ∈ own.map (·.2))
    (hg : ∀ (s : Shared) (H : Hp) (C : Addr) (cl : List (Str × Addr)) (fp : List Addr), PG (X.blk s H scope (compEnvC scope cl C X.env) fp) tg gt) (ht : ∀ (s : Shared) (H : Hp) (C : Addr) (cl : List (Str × Addr)) (fp : List Addr), PTs (X.blk s H scope (compEnvC scope cl C X.env) fp) ifs tt)
    (hi1 : ∀ (s : Shared) (H : Hp) (C : Addr) (cl : List (Str × Addr)) (fp : List Addr), VI (X.blk s H scope (compEnvC scope cl C X.env) fp) cm tg1 iter1 fi1)
    (hg1 : ∀ (s : Shared) (H : Hp) (C : Addr) (cl : List (Str × Addr)) (fp : List Addr), PG (X.blk s H scope (compEnvC scope cl C X.env) fp) tg1 gt1) (ht1 : ∀ (s : Shared) (H : Hp) (C : Addr) (cl : List (Str × Addr)) (fp : List Addr), PTs (X.blk s H scope (compEnvC scope cl C X.env) fp) ifs1 tt1)
    (he : ∀ (s : Shared) (H : Hp) (C : Addr) (cl : List (Str × Addr)) (fp : List Addr), VE (X.blk s H scope (compEnvC scope cl C X.env) fp) cm elt fe) (tg_ : TgV cm gt m is) (hi2 : ∀ i ∈ is, i ∈ own.map (·.2)) (tt_ : TtV cm tt ft) (tg1_ : TgV cm gt1 m1 is1) (hi3 : ∀ i ∈ is1, i ∈ vs1) (tt1_ : TtV cm tt1 ft1)
    (hs : ∀ x, foldedSetIterable iter X.env x = pure x := by intro _; rfl) (hs1 : ∀ env x, foldedSetIterable iter1 env x = pure x := by intro _ _; rfl) :
    VN X cm (.ListComp elt [⟨tg, iter, ifs, 0⟩, ⟨tg1, iter1, ifs1, 0⟩] scope pos) (lc2F fi m ft fi1 m1 ft1 fe (own.map (·.2)) vs1) := (pe_lc2 hc hN hi ok hv hg ht hi1 hg1 ht1 he hs hs1).weak (tLc2_of tg_ hi2 tt_ tg1_ hi3 tt1_)
theorem sv_setLc2 {i : Nat} {y : Str} {py : Pos} {elt tg iter tg1 iter1 : Expr} {ifs ifs1 : List Expr} {scope : Scope} {own : List (Str × Nat)} {vs1 : List Nat} {spos : Pos} {gt gt1 : TG} {tt tt1 : TT} {fi fi1 : En → Option (List Val)} {m m1 : Val → Option (List (Nat × Val))} {ft ft1 : En → Option Bool} {fe : En → Option Val} {is is1 : List Nat} {r : En → Option (List Val)} (hc : X.calm = true) (hN : X.N.Nodup) (hy : X.N[i]? = some y) (hyl : X.env.scope.names.lookup y = some .local)
    (hsw : swapsWith (.ListComp elt [⟨tg, iter, ifs, 0⟩, ⟨tg1, iter1, ifs1, 0⟩] scope pos) (some (.Name y py)) spos.line X.env = pure true) (hi : VI X cm tg iter fi) (ok : BlkOk X.N X.env.scope scope own) (hv : ∀ i ∈ vs1, i ∈ own.map (·.2))
    (hg : ∀ (s : Shared) (H : Hp) (C : Addr) (cl : List (Str × Addr)) (fp : List Addr), PG (X.blk s H scope (compEnvC scope cl C X.env) fp) tg gt) (ht : ∀ (s : Shared) (H : Hp) (C : Addr) (cl : List (Str × Addr)) (fp : List Addr), PTs (X.blk s H scope (compEnvC scope cl C X.env) fp) ifs tt)
    (hi1 : ∀ (s : Shared) (H : Hp) (C : Addr) (cl : List (Str × Addr)) (fp : List Addr), VI (X.blk s H scope (compEnvC scope cl C X.env) fp) cm tg1 iter1 fi1)
    (hg1 : ∀ (s : Shared) (H : Hp) (C : Addr) (cl : List (Str × Addr)) (fp : List Addr), PG (X.blk s H scope (compEnvC scope cl C X.env) fp) tg1 gt1) (ht1 : ∀ (s : Shared) (H : Hp) (C : Addr) (cl : List (Str × Addr)) (fp : List Addr), PTs (X.blk s H scope (compEnvC scope cl C X.env) fp) ifs1 tt1)
    (he : ∀ (s : Shared) (H : Hp) (C : Addr) (cl : List (Str × Addr)) (fp : List Addr), VE (X.blk s H scope (compEnvC scope cl C X.env) fp) cm elt fe) (tg_ : TgV cm gt m is) (hi2 : ∀ i ∈ is, i ∈ own.map (·.2)) (tt_ : TtV cm tt ft) (tg1_ : TgV cm gt1 m1 is1) (hi3 : ∀ i ∈ is1, i ∈ vs1) (tt1_ : TtV cm tt1 ft1) (ho : i ∉ ow) (sn : SnV cm ow r (tN cm (lc2F fi m ft fi1 m1 ft1 fe (own.map (·.2)) vs1)))
    (hs : ∀ x, foldedSetIterable iter X.env x = pure x := by intro _; rfl) (hs1 : ∀ env x, foldedSetIterable iter1 env x = pure x := by intro _ _; rfl) :
    SV X cm ow (.Assign [.Name y py] (.ListComp elt [⟨tg, iter, ifs, 0⟩, ⟨tg1, iter1, ifs1, 0⟩] scope pos) spos) (setG i (fun env => (r env).map .lst)) :=
  sv_set0 (ps_setLc2 hc hN hy hyl hsw hi ok hv hg ht hi1 hg1 ht1 he hs hs1) ho (sr_sn (sn.weak (tLc2_of tg_ hi2 tt_ tg1_ hi3 tt1_)))
end
end Up

namespace Up
open PySem PySem.Spec PyProof.Rows L2
section
variable {X : Cx} {cm : Cm} {ow : List Nat} {a b c e : Expr} {es : List Expr} {f g h : En → Option Val} {pos : Pos} {st : Stmt}
/-! (*way, letter) -/
def starC (f : En → Option Val) (g : En → Option (List Val)) : En → Option (List Val) := fun env => (f env).bind fun x => (itemsOf x).bind fun xs => (g env).bind fun ys => some (xs ++ ys)
theorem va_star {p : Pos} {k : En → Option (List Val)} (ha : VE X cm e f) (hr : VA X cm es k) (hs : starEach (.Starred e p :: es) X.env = (true, eval e X.env) :: starEach es X.env := by rfl) : VA X cm (.Starred e p :: es) (starC f k) :=
  (StX.pa_star ha hr hs).weak fun σ H Q ⟨P, env, z, hs, hf, q⟩ => by
    unfold starC at hf
    obtain ⟨x, ex, h1⟩ := Option.bind_eq_some_iff.mp hf
    obtain ⟨xs, exs, h2⟩ := Option.bind_eq_some_iff.mp h1
    obtain ⟨ys, ey, h3⟩ := Option.bind_eq_some_iff.mp h2
    cases h3
    refine ⟨P, env, x, hs, ex, fun v H1 s1 r1 => ?_⟩
    obtain ⟨p', vs, rfl, hsq, rs⟩ := itemsOf_re (K := X.K) r1 exs
    exact ⟨p', vs, rfl, hsq.symm, P, env, ys, hs.same s1, ey, fun us H2 s2 r2 => q _ H2 (s1.trans s2) (Res.append (Rep.same s2 rs) r2)⟩
/-! {x}, s.add(x), x in s, x not in s -/
theorem setAdd_R {prog : Program} {w : World} {A : Around} {E : Value → Shared → Prop} {s : Shared} {a : Addr} {S : Int → Bool} {n : Nat} {k : Int} {tk : Tok} {Q : Bool → Shared → Prop} (R : SetR w s.heap a S n) (room : n + 1 < scanBound)
    (hQ : ∀ h', Heap.SameBut a s.heap h' → SetR w h' a (fun j => S j || decide (j = k)) (if S k = true then n else n + 1) → ∀ b, Q b { s with heap := h', toks := s.toks + 1 }) :
    wpAny (model prog w) A (setAdd a (.int k tk)) Q E s := by
  unfold setAdd
  refine wpAny_holding (wpAny_bind ((intKind prog w).pyHash (intKind_is prog w k tk) ?_))
  exact setR_add_hashed (P := prog) (s := { s with toks := s.toks + 1 }) R room fun h' sb r => hQ h' sb r _
def tSet1 (w : World) (te : TE) : TE := fun σ H Q => ∀ p, H p = none → te σ (upd H p (SetO w p (fun _ => false) 0)) fun x H1 => ∃ k, x = .int k ∧ H1 p = some (SetO w p (fun _ => false) 0) ∧ Q (.ref p) (upd H1 p (SetO w p (fun j => false || decide (j = k)) 1))
theorem pe_set1 {te : TE} (hc : PySem.W.kdsCode X.K X.env.code = true) (he : PE X e te) (hp : PySem.W.kdsPlain e = true := by rfl) : PE X (.Set [e] 0 pos) (tSet1 X.w te) := by
  refine ⟨fun pins s σ H Q I h => ?_⟩
  rw [arm_eval_Set]
  refine wpAny_bind (wpAny_standAt (wpAny_bind (PySem.W.kds_main I.kIn hc fun b => ?_)))
  rw [PySem.W.kds_star [e] (by rw [List.all_cons, hp]; rfl), List.map_map]
  have hn : H s.heap.objs.size = none := I.hok.fresh (Nat.le_refl _)
  unfold setDisplay
  have hr : (displayRoad 0 [e] == DisplayRoad.constants) = false := rfl
  have hu : (displayRoad 0 [e] == DisplayRoad.unsure) = false := rfl
  rw [hr, hu]
  simp only [Bool.false_eq_true, if_false]
  refine wpAny_bind (PySem.wpAny_newSet_raw fun led hl => ?_)
  subst hl
  have R0 := setR_fresh (h := s.heap) X.w
  have I1 : Inv X pins σ (upd H s.heap.objs.size (SetO X.w s.heap.objs.size (fun _ => false) 0)) { s with heap := s.heap.push { cls := .type "set", dict := none, data := .set #[] 0 (.fresh 0 0 (!X.w.params.followText "set-order")) } } :=
    I.laid (t' := s.toks) (fun b u e => Heap.get?_push_of_some _ e) (Nat.le_refl _) (setO_new R0)
  dsimp only
  refine wpAny_bind (wpAny_holding ?_)
  show wpAny _ _ ((evalAll [do let v ← eval e X.env; standAt pos; pure v]) >>= _) _ _ _
  refine wpAny_bind (wpAny_bind (wpAny_bind (thn (he.run pins _ σ _ _ I1 (h _ hn)) fun v s1 ⟨x, H1, I2, rx, k, ex, hp1, q⟩ => ?_)))
  subst ex
  obtain ⟨tk, rfl⟩ := rx
  refine wpAny_bind (wpAny_standAt (wpAny_pure ?_))
  refine wpAny_bind (wpAny_holding (wpAny_pure (wpAny_pure ?_)))
  refine wpAny_bind (wpAny_holding ?_)
  rw [List.forIn_cons]
  have R2 := setO_get I2 hp1
  refine wpAny_bind (wpAny_bind (wpAny_bind (setAdd_R R2 (by decide) fun h' sb R3 b => ?_)))
  have he' : ∃ u, h'.get? s.heap.objs.size = some u := by
    have ⟨o, _, _, _, ho, _⟩ := R3
    exact ⟨o, ho⟩
  have I3 : Inv X pins σ (upd H1 s.heap.objs.size (SetO X.w s.heap.objs.size (fun j => false || decide (j = k)) 1)) { s1 with heap := h', toks := s1.toks + 1 } :=
    I2.write (e := s.heap.objs.size) (t' := s1.toks + 1) (by rw [hp1]; trivial) (.inl rfl) (fun b u hb hu => (sb.2 b hb).trans hu) he' (setO_new R3)
  refine wpAny_pure ?_
  dsimp only
  rw [List.forIn_nil]
  refine wpAny_pure (wpAny_pure ?_)
  refine wpAny_bind ?_
  have dr : ∀ (ys : List (Bool × Sem Value)) (n : Nat) (g : Bool × Sem Value → PUnit → Sem (ForInStep PUnit)) (Q' : PUnit → Shared → Prop) (s' : Shared), ys.length ≤ n → Q' PUnit.unit s' → wpAny (model X.prog X.w) X.A (forIn (ys.drop n) PUnit.unit g) Q' X.xe s' := fun ys n g Q' s' hl hq => by
    rw [List.drop_of_length_le hl, List.forIn_nil]
    exact wpAny_pure hq
  refine dr _ _ _ _ _ (Nat.le_refl 1) ?_
  exact wpAny_pure (wpAny_pure ⟨.ref _, _, I3, rfl, q⟩)
def newSG (i : Nat) (f : En → Option Val) : En → Option Out := fun env => if i < env.length then (f env).bind fun x => match x with
  | .int k => some (.nx (env.set i (some (.set [k]))))
  | _ => none
  else none
theorem sv_newS {i : Nat} {x : Str} {pos' : Pos} {k : Nat} (hc : PySem.W.kdsCode X.K X.env.code = true) (hw : cm.w = X.w) (hN : X.N.Nodup) (hi : X.N[i]? = some x) (hx : Loc X.env.scope x) (ho : i ∈ ow) (he : VE X cm e f) (hp : PySem.W.kdsPlain e = true := by rfl) (hk : k = 0 := by rfl) (hs : swapsWith (.Set [e] k pos) (some (.Name x pos')) pos.line X.env = pure false := by rfl) (hf : X.fn x = true ∨ X.env.scope.names.lookup x = some .local := by first | exact .inl rfl | exact .inr rfl | assumption) {spos : Pos}
    (hs2 : swapsWith (.Set [e] k pos) (some (.Name x pos')) spos.line X.env = pure false := by rfl) :
    SV X cm ow (.Assign [.Name x pos'] (.Set [e] k pos) spos) (newSG i f) := by
  subst hk
  refine (ps_set hN hi hx (pe_set1 (X := X) (pos := pos) hc he hp) hs2 hf).weak fun D σ H ⟨P, H0, env, o, hs, hg, q⟩ => ?_
  unfold newSG at hg
  split at hg
  case isFalse => cases hg
  rename_i lt
  obtain ⟨y, ey, hg⟩ := Option.bind_eq_some_iff.mp hg
  split at hg
  case h_2 => cases hg
  rename_i m
  cases hg
  intro p np
  have s1 : Same H (upd H p (SetO X.w p (fun _ => false) 0)) := fun b o eb => by rw [upd_ne (ne_of_none eb np)]; exact eb
  refine ⟨P, env, _, hs.view.same s1, ey, fun v H1 s2 r2 => ?_⟩
  cases r2.int_
  refine ⟨m, rfl, s2 _ _ upd_same, ?_⟩
  have s3 : Same H (upd H1 p (SetO X.w p (fun j => false || decide (j = m)) 1)) := fun b o eb => by
    rw [upd_ne (ne_of_none eb np)]
    exact s2 _ _ (s1 _ _ eb)
  obtain ⟨h1, h2⟩ := hs.newO ho lt np s3 (x := .set [m]) (.set (S := fun j => false || decide (j = m)) (n := 1) (by rw [hw]; exact upd_same) (fun j => by simp) rfl)
  exact q _ _ h1 h2
def addS (xs : List Int) (k : Int) : List Int := if k ∈ xs then xs else xs ++ [k]
def addG (i : Nat) (f : En → Option Val) : En → Option Out := fun env => match env[i]? with
  | some (some (.set xs)) => if xs.length ≤ 1000 then (f env).bind fun y => match y with
    | .int k => some (.nx (env.set i (some (.set (addS xs k)))))
    | _ => none
    else none
  | _ => none
theorem sv_add0 {i : Nat} (hst : PS X st (tDrop (tSAdd X.w (tVar i) (tCons (tV cm f) tNil)))) (hw : cm.w = X.w) (ho : i ∈ ow) : SV X cm ow st (addG i f) := hst.weak fun D σ H ⟨P, H0, env, o, hs, hg, q⟩ => by
  unfold addG at hg
  split at hg
  case h_2 => cases hg
  rename_i xs ex
  split at hg
  case isFalse => cases hg
  rename_i lm
  obtain ⟨y, ey, hg⟩ := Option.bind_eq_some_iff.mp hg
  split at hg
  case h_2 => cases hg
  rename_i k
  cases hg
  obtain ⟨a, hσ, nP, h0, tp⟩ := hs.own i ho _ ex
  cases tp with
  | @set S n _ ha hS hn =>
    rw [hw] at ha
    refine ⟨_, hσ, ⟨a, S, n, rfl, ha⟩, P, env, .int k, hs.view, ey, fun v H1 s1 r1 => ?_⟩
    cases r1.int_
    refine ⟨a, k, S, n, rfl, rfl, s1 _ _ ha, by rw [hn]; show xs.length + 1 < 4096; omega, ?_⟩
    have hs1 := hs.same s1
    obtain ⟨h1, h2⟩ := hs1.putO ho ex hσ (o := SetO X.w a (fun j => S j || decide (j = k)) (if S k = true then n else n + 1)) (x := .set (addS xs k)) (.set (S := fun j => S j || decide (j = k)) (n := if S k = true then n else n + 1) (by rw [hw]; exact upd_same) (fun j => by
      unfold addS
      rw [hS]
      by_cases c : k ∈ xs
      · rw [if_pos c]
        by_cases c2 : j = k
        · subst c2
          simp [c]
        · simp [c2]
      · rw [if_neg c, Bool.eq_iff_iff]
        simp) (by
      unfold addS
      rw [hS]
      by_cases c : k ∈ xs
      · rw [if_pos c, decide_eq_true c, if_pos rfl]
        exact hn
      · rw [if_neg c, decide_eq_false c, if_neg Bool.false_ne_true, List.length_append, hn]
        rfl))
    exact q _ _ h1 (Fr.trans (.same s1) h2)
def inSF (neg : Bool) : Val → Val → Option Val
  | .int k, .set xs => some (.bl (if neg then !decide (k ∈ xs) else decide (k ∈ xs)))
  | _, _ => none
theorem ov_sin {w : World} (hw : cm.w = w) : OpV cm (rSIn w) (inSF false) := fun P x y z v u H Q e rx ry q => by
  subst hw
  unfold inSF at e
  split at e
  · cases e
    cases rx.int_
    cases ry with
    | set n hh hS hn => exact ⟨_, _, _, _, rfl, rfl, hh, by rw [hS]; exact q _ H (Same.refl H) (.bl _)⟩
  · cases e
theorem ov_snotin {w : World} (hw : cm.w = w) : OpV cm (rSNotIn w) (inSF true) := fun P x y z v u H Q e rx ry q => by
  subst hw
  unfold inSF at e
  split at e
  · cases e
    cases rx.int_
    cases ry with
    | set n hh hS hn => exact ⟨_, _, _, _, rfl, rfl, hh, by rw [hS]; exact q _ H (Same.refl H) (.bl _)⟩
  · cases e
end
section
variable {P : Program} {w : World} {K : PySem.W.Frag} {mg : Str → Option Value} {base : Heap} {cm : Cm}
theorem kds_of {cd : Value} {q : Str} (h : PySem.W.codeIn K cd q = true) : PySem.W.kdsCode K cd = true := by
  unfold PySem.W.codeIn at h
  unfold PySem.W.kdsCode
  split at h
  · split at h
    · rename_i e
      simp only [e]
    · cases h
  · cases h
/-- okD, where the body may know that its code object stands -/
theorem okDC {x : Str} {st : Stmt} {f : Addr} {fd : FuncData} {N ps : List Str} {k : Nat} (ow : List Nat) {g : En → Option Out} (D : Dd K mg x st ps f fd) (S : FnScope N ps (defScope st)) (ho : ∀ i ∈ ow, ps.length ≤ i)
    (hbody : ∀ (cdv : Value) (A : Around) (outer : List Env) (s : Shared) (H : Hp) (E : XK), PySem.W.kdsCode K cdv = true → Room k (A.deeper (envOfC x (defScope st) s.heap.objs.size f cdv)) → (A.deeper (envOfC x (defScope st) s.heap.objs.size f cdv)).units + 64 < cLine → SVs (cxOf CX0 P w K mg base N x (defScope st) f cdv A outer s H E).nox cm ow (defBody st) g) :
    Df P w K mg base cm x (k + 1) ps (runV N.length ps.length g) f fd := by
  refine ⟨?_, D.at_, D.fn.kp, D.bd⟩
  obtain ⟨oc, od, kV, doc, pm, an, cdv, ct, osl, rfl, lk, hcd⟩ := D.fn.ex
  have lenS : ∀ (vs : List V) (H : Hp) (Q : VK) (E : XK), spV cm (runV N.length ps.length g) vs H Q E → vs.length = ps.length := fun vs H Q E ⟨P', xs, z, _, r, e, _⟩ => by
    unfold runV at e
    split at e
    · rename_i l
      rw [Res.length r]
      exact l
    · cases e
  refine fn_of lk hcd S lenS fun A outer s H vs Q E hr h => ?_
  obtain ⟨P', xs, z, hd, r, e, q⟩ := h
  refine ⟨_, (hbody cdv A outer s H E (kds_of hcd) hr (by have := hr.un; omega)).nox, ?_⟩
  unfold runV at e
  split at e
  case isFalse => cases e
  rename_i l
  obtain ⟨o, e1, e⟩ := Option.bind_eq_some_iff.mp e
  refine ⟨P', H, _, o, start_st (N := N) hd r (by rw [l]; exact ho), e1, ?_⟩
  cases o with
  | nx env' =>
    cases e
    exact fun σ' H' hs f => q _ H' hs.base .non
  | rt y =>
    cases e
    exact fun v H' s r => q v H' s r
  | bk env' => cases e
  | ct env' => cases e
end
end Up

namespace Up
open PySem PySem.Spec PyProof.Rows L2
/-! len(set(xs)), xs a tuple of ints -/
def ddI (ns : List Int) : List Int := ns.foldl addS []
theorem addS_mem {xs : List Int} {k j : Int} : j ∈ addS xs k ↔ j ∈ xs ∨ j = k := by
  unfold addS
  by_cases c : k ∈ xs
  · rw [if_pos c]
    constructor
    · exact .inl
    · rintro (h | h)
      · exact h
      · rw [h]
        exact c
  · rw [if_neg c, List.mem_append, List.mem_singleton]
theorem addS_nd {xs : List Int} {k : Int} (h : xs.Nodup) : (addS xs k).Nodup := by
  unfold addS
  by_cases c : k ∈ xs
  · rw [if_pos c]
    exact h
  · rw [if_neg c]
    refine List.nodup_append.mpr ⟨h, List.nodup_cons.mpr ⟨List.not_mem_nil, List.nodup_nil⟩, fun a ha b hb => ?_⟩
    rcases List.mem_cons.mp hb with e | e
    · rw [e]
      exact fun z => c (z ▸ ha)
    · cases e
theorem dd_go : ∀ (ns acc : List Int), acc.Nodup → (ns.foldl addS acc).Nodup ∧ ∀ j, j ∈ ns.foldl addS acc ↔ j ∈ acc ∨ j ∈ ns
  | [], acc, h => ⟨h, fun j => by simp⟩
  | n :: ns, acc, h => by
    obtain ⟨h1, h2⟩ := dd_go ns (addS acc n) (addS_nd h)
    refine ⟨h1, fun j => ?_⟩
    show j ∈ ns.foldl addS (addS acc n) ↔ _
    rw [h2, addS_mem, List.mem_cons]
    constructor
    · rintro ((a | a) | a)
      · exact .inl a
      · exact .inr (.inl a)
      · exact .inr (.inr a)
    · rintro (a | a | a)
      · exact .inl (.inl a)
      · exact .inl (.inr a)
      · exact .inr a
theorem len_same {α : Type} [DecidableEq α] {a b : List α} (ha : a.Nodup) (hb : b.Nodup) (h : ∀ x, x ∈ a ↔ x ∈ b) : a.length = b.length :=
  Nat.le_antisymm (nd_len ha fun x hx => (h x).mp hx) (nd_len hb fun x hx => (h x).mpr hx)
section
variable {X : Cx} {cm : Cm} {a b c e : Expr} {es : List Expr} {f g h : En → Option Val}
def tLenST (K : PySem.W.Frag) (ta : TE) : TE := fun σ H Q => ta σ H fun x H1 => ∃ (l : Addr) (ns : List Int), x = .ref l ∧ SqT K H1 l (ns.map V.int) ∧ ns.length ≤ 1000 ∧ Q (.int ((ddI ns).length : Nat)) H1
theorem pe_lenST {ta : TE} {p p2 q pos : Pos} (hc : X.calm = true) (hg : Gl X "len") (hm : X.mg "len" = none) (hg2 : Gl X "set") (hm2 : X.mg "set" = none) (ha : PE X a ta)
    (na : starEach [a] X.env = (false, eval a X.env) :: starEach [] X.env := by rfl) : PE X (.Call (.Name "len" p) [.Call (.Name "set" p2) [a] [] q] [] pos) (tLenST X.K ta) := by
  refine ⟨fun pins s σ H Q I h => ?_⟩
  refine Call_ (ld_blt I hg hm PySem.boot_len ?_)
  refine PyProof.Rows.callWith_builtin1 (PyProof.Rows.args_cons ?_ rfl) rfl rfl
  refine Call_ (ld_blt I hg2 hm2 PyProof.Rows.boot_set ?_)
  refine PyProof.Rows.callWith_type1 (PyProof.Rows.args_cons (thn (ha.run pins s σ H _ I h) fun v s1 ⟨x, H1, I1, r1, q1⟩ => PyProof.Rows.args_nil ?_) na) na rfl
  obtain ⟨l, ns, rfl, hq, h1, q1⟩ := q1
  cases r1
  obtain ⟨its, r, pl, hz⟩ := I1.tuple hq
  obtain ⟨tob, ho1, hc1, hn1, hd1⟩ := pl
  refine call_set_tupI ns (I1.ok.hd hc) ⟨tob, ho1, hc1, hn1, hd1⟩ (intsAre_of r) (by show ns.length + 1 < 4096; omega) fun h' tk c R hcl hk => ?_
  refine PyProof.Rows.args_nil ?_
  obtain ⟨o, es, ep, t, ho, hex, hd, g, nd, hmm, hb, hf, hn, hr, hl⟩ := R
  have I2 : Inv X pins σ H1 { s1 with heap := h', toks := tk } := I1.kept hk
  obtain ⟨k1, k2⟩ := dd_go ns [] List.nodup_nil
  have ec : c = (ddI ns).length := by
    have e1 := len_same nd k1 fun j => by
      rw [← hmm j]
      show decide (j ∈ ns) = true ↔ j ∈ ns.foldl addS []
      rw [k2, decide_eq_true_iff]
      simp
    rw [List.length_map, Array.length_toList] at e1
    rw [← hn, e1]
    rfl
  refine call_len_set ho hex hd hf (by rw [hn, ec]; have := nd_len k1 (fun x hx => ((k2 x).mp hx).resolve_left List.not_mem_nil); unfold ddI; omega) ⟨.int ((ddI ns).length : Nat), H1, I2.tok _, ⟨_, by rw [hn, ec]⟩, q1⟩
def intsOf : List Val → Option (List Int)
  | [] => some []
  | .int i :: xs => (intsOf xs).map (i :: ·)
  | _ :: _ => none
theorem intsOf_re {P : Addr → Prop} {H : Hp} : ∀ {vs : List V} {xs : List Val} {ns : List Int}, Res cm P H vs xs → intsOf xs = some ns → vs = ns.map V.int
  | _, _, _, .nil, e => by
    cases e
    rfl
  | _, _, _, .cons (x := x) r t, e => by
    cases x <;> try (cases e; done)
    unfold intsOf at e
    obtain ⟨ms, e1, rfl⟩ := Option.map_eq_some_iff.mp e
    cases Re.int_ r
    rw [intsOf_re t e1]
    rfl
def lenSF (f : En → Option Val) : En → Option Val := fun env => (f env).bind fun x => match x with
  | .tup xs => (intsOf xs).bind fun ns => if ns.length ≤ 1000 then some (.int ((ddI ns).length : Nat)) else none
  | _ => none
theorem ve_lenS {p p2 q pos : Pos} (hc : X.calm = true) (hg : Gl X "len") (hm : X.mg "len" = none) (hg2 : Gl X "set") (hm2 : X.mg "set" = none) (ha : VE X cm a f)
    (na : starEach [a] X.env = (false, eval a X.env) :: starEach [] X.env := by rfl) : VE X cm (.Call (.Name "len" p) [.Call (.Name "set" p2) [a] [] q] [] pos) (lenSF f) := (pe_lenST hc hg hm hg2 hm2 ha na).weak fun σ H Q ⟨P, env, z, hs, hf, q⟩ => by
  unfold lenSF at hf
  obtain ⟨x, ex, h1⟩ := Option.bind_eq_some_iff.mp hf
  split at h1
  case h_2 => cases h1
  obtain ⟨ns, en, h2⟩ := Option.bind_eq_some_iff.mp h1
  split at h2
  case isFalse => cases h2
  rename_i l
  cases h2
  refine ⟨P, env, _, hs, ex, fun v H1 s1 r1 => ?_⟩
  obtain ⟨p', vs, rfl, n1, hh, rs⟩ := r1.tup_
  exact ⟨p', ns, rfl, .inl (.inl (by rw [hh, intsOf_re rs en])), l, q _ H1 s1 (.int _)⟩
end
end Up

namespace Up
open PySem PySem.Spec PyProof.Rows L2
/-! ### calls by names alone -/
/-- what is passed by names comes the other way round -/
theorem kbn_rev {K : PySem.W.Frag} {x qual : Str} {st : Stmt} {f : Addr} {fd : FuncData} {ps ks : List Str} {n : Nat} (F : Fun K x qual st f fd)
    (h : ∀ (kV doc pm : Value) (an : Option Addr) (cdv ct : Value) (us ws : List Value), us.length = n → ws.length = ks.length → bindArgs (PySem.W.fnOf x qual (defArgs st) (defBody st) (defScope st) .none kV doc pm an cdv ct) ⟨us, ks.zip ws⟩ = pure (ps.zip (us ++ ws.reverse))) :
    KBn K fd ps n ks (fun us ws => us ++ ws.reverse) (fun us ws => us ++ ws.reverse) := by
  obtain ⟨oc, od, kV, doc, pm, an, cdv, ct, osl, rfl, lk, hcd⟩ := F.ex
  refine ⟨fun s us ws _ h1 h2 => .of_eq (h kV doc pm an cdv ct us ws h1 h2), fun {vs us zs ws} r1 r2 => r1.append ?_⟩
  have rev : ∀ {zs : List V} {ws : List Value}, Vals zs ws → Vals zs.reverse ws.reverse := fun {zs ws} r => by
    induction r with
    | nil => exact .nil
    | cons a t ih =>
      rw [List.reverse_cons, List.reverse_cons]
      exact ih.append (.cons a .nil)
  exact rev r2
section
variable {X : Cx} {CX : CXT} {k : Nat} {f C : Addr} {fd : FuncData} {ps ks : List Str} {sp : Sp} {E : XK} {x m : Str} {p pos apos : Pos} {o : Expr} {kws : List Keyword} {ta : TE} {tk : TA} {g : List Value → List Value → List Value} {gV : List V → List V → List V}
theorem run_kn {n : Nat} {pins : List (Addr × Obj)} {σ : L2.St} {H : Hp} {s : Shared} {Q : VK} {us ws : List Value} {vs zs : List V} (F : FnOk X.prog X.w X.K X.mg X.base CX k f fd ps sp) (hr : Room k X.A) (hb : KBn X.K fd ps n ks g gV) (hx : Passes CX X E)
    (I : Inv X pins σ H s) (r : Vals vs us) (rz : Vals zs ws) (h1 : vs.length = n) (h2 : zs.length = ks.length) (h : sp (gV vs zs) H Q E) : wpAny (model X.prog X.w) X.A (call (.ref f) us (ks.zip ws)) (EP X pins σ Q) X.xe s := by
  refine wpAny_call (codeAny_mono (F.run X.A X.stack s H ⟨us, ks.zip ws⟩ (g us ws) (gV vs zs) Q E hr I.env0 (hb.to s us ws I.kIn (by rw [← r.length]; exact h1) (by rw [← rz.length]; exact h2)) (hb.rel r rz) h) fun res st2 hq => ?_)
  match res, hq with
  | .error er, hq => exact hx pins σ H s er st2 I hq
  | .ok (.ret u), hq => exact I.after hq
def tCallK0 (m : Nat) (sp : Sp) (gV : List V → List V → List V) (E : XK) (tk : TA) : TE := fun σ H Q => tk σ H fun zs H1 => zs.length = m ∧ sp (gV [] zs) H1 Q E
theorem pe_callK0 (F : FnOk X.prog X.w X.K X.mg X.base CX k f fd ps sp) (hr : Room k X.A) (hg : Gl X x) (hm : X.mg x = some (.ref f)) (hk : PySem.W.keepIn X.K (.ref f) = true) (hb : KBn X.K fd ps 0 ks g gV) (hx : Passes CX X E) (hkw : PK X kws tk)
    (hall : (backToKw pos (keywordEach kws X.env)).all (·.1.isSome) = true := by rfl) (hks : (backToKw pos (keywordEach kws X.env)).filterMap (·.1) = ks := by rfl) (hdb : (x == ("__debug__" : Str)) = false := by decide)
    (hpl : ((backTo pos (starEach [] X.env)).any (·.1) || (backToKw pos (keywordEach kws X.env)).any (·.1.isNone)) = false := by rfl) :
    PE X (.Call (.Name x p) [] kws pos) (tCallK0 ks.length sp gV E tk) := by
  refine ⟨fun pins s σ H Q I h => wpAny_Call_Name_kw (ld_glob I hg hm ?_ hdb)⟩
  refine PySem.W.callWith_KW0 (h₀ := X.base) I.ok.mod.kin hk hall (thn (hkw.run pos pins s σ H _ I h) fun ws s2 ⟨zs, H2, I2, rz, l, q2⟩ => ⟨I2.kIn, ?_⟩) hpl
  rw [hks]
  exact run_kn (us := []) (vs := []) F hr hb hx I2 .nil rz rfl l q2
def tMethK0 (C : Addr) (m : Str) (n : Nat) (sp : Sp) (gV : List V → List V → List V) (E : XK) (ta : TE) (tk : TA) : TE := fun σ H Q => ta σ H fun x H1 => ∃ a dx fs, x = .ref a ∧ H1 a = some (.ins C dx fs) ∧ fs.lookup m = none ∧
  tk σ H1 fun zs H2 => zs.length = n ∧ sp (gV [x] zs) H2 Q E
theorem pe_methK0 {pl : Sem Bool} (he : PE X o ta) (c : Cls X.K C) (hm : Meth X.K C m f) (F : FnOk X.prog X.w X.K X.mg X.base CX k f fd ps sp) (hr : Room k X.A) (hb : KBn X.K fd ps 1 ks g gV) (hx : Passes CX X E) (hkw : PK X kws tk)
    (hall : (backToKw pos (keywordEach kws X.env)).all (·.1.isSome) = true := by rfl) (hks : (backToKw pos (keywordEach kws X.env)).filterMap (·.1) = ks := by rfl)
    (hpl : ((backTo pos (starEach [] X.env)).any (·.1) || (backToKw pos (keywordEach kws X.env)).any (·.1.isNone)) = false := by rfl)
    (ht : eval (.Call (.Attribute o m apos) [] kws pos) X.env = (do
      let ov ← eval o X.env
      standAt apos.atName
      let (f, first) ← holding [ov] (getMethod ov m pl)
      callWith pos f first (backTo pos (starEach [] X.env)) (backToKw pos (keywordEach kws X.env))) := by rfl) :
    PE X (.Call (.Attribute o m apos) [] kws pos) (tMethK0 C m ks.length sp gV E ta tk) := by
  refine ⟨fun pins s σ H Q I h => ?_⟩
  refine PySem.W.methodCall_KW (pl := pl) (thn (he.run pins s σ H _ I h) fun u s1 ⟨y, H1, I1, rx, a, dx, fs, ex, ea, l, q⟩ => ?_) ht
  subst ex
  obtain rfl : u = Value.ref a := rx
  refine getmeth_ok I1 ea c hm l ?_
  refine PySem.W.callWith_KW0 (first := [.ref a]) (h₀ := X.base) I.ok.mod.kin hm.kp hall (thn (hkw.run pos pins s1 σ H1 _ I1 q) fun ws s2 ⟨zs, H2, I2, rz, l2, q2⟩ => ⟨I2.kIn, ?_⟩) hpl
  rw [hks]
  exact run_kn (us := [.ref a]) (vs := [.ref a]) F hr hb hx I2 (.cons rfl .nil) rz rfl l2 q2
end
section
variable {X : Cx} {cm : Cm} {e o : Expr} {es : List Expr} {f g h : En → Option Val} {p pos apos : Pos} {x m : Str} {kws : List Keyword} {k : Nat} {ps ks : List Str} {F : List Val → Option Val} {fa : Addr} {fd : FuncData}
abbrev VK_ (X : Cx) (cm : Cm) (kws : List Keyword) (f : En → Option (List Val)) : Prop := PK X kws (tVA cm f)
theorem _root_.L2.PK.weak {t t' : TA} (h : PK X kws t) (k : ∀ σ H Q, t' σ H Q → t σ H Q) : PK X kws t' := ⟨fun pos pins s σ H Q I q => h.run pos pins s σ H Q I (k σ H Q q)⟩
theorem vk_nil : VK_ X cm [] noF := pk_nil.weak fun σ H Q ⟨P, env, z, hs, hf, q⟩ => by
  cases hf
  exact q [] H (Same.refl H) .nil
theorem vk_cons {nm : Option Str} {kpos : Pos} {r : En → Option (List Val)} (ha : VE X cm e f) (hr : VK_ X cm kws r) : VK_ X cm (⟨nm, e, kpos⟩ :: kws) (consF f r) := (pk_cons ha hr).weak fun σ H Q ⟨P, env, z, hs, hf, q⟩ => by
  unfold consF at hf
  obtain ⟨y, ey, h1⟩ := Option.bind_eq_some_iff.mp hf
  obtain ⟨ys, eys, h2⟩ := Option.bind_eq_some_iff.mp h1
  cases h2
  exact ⟨P, env, y, hs, ey, fun v H1 s1 r1 => ⟨P, env, ys, hs.same s1, eys, fun vs H2 s2 r2 => q (v :: vs) H2 (s1.trans s2) (.cons (r1.same s2) r2)⟩⟩
theorem Res.reverse {P : Addr → Prop} {H : Hp} : ∀ {vs : List V} {xs : List Val}, Res cm P H vs xs → Res cm P H vs.reverse xs.reverse
  | _, _, .nil => .nil
  | _, _, .cons r t => by
    rw [List.reverse_cons, List.reverse_cons]
    exact Res.snoc (Res.reverse t) r
def revF (F : List Val → Option Val) (n : Nat) (t : En → Option (List Val)) : En → Option Val := fun env => (t env).bind fun xs => if xs.length = n then F xs.reverse else none
theorem ve_callK (d : Df X.prog X.w X.K X.mg X.base cm x k ps F fa fd) (hr : Room k X.A) (hg : Gl X x) (hb : KBn X.K fd ps 0 ks (fun us ws => us ++ ws.reverse) (fun us ws => us ++ ws.reverse)) {t : En → Option (List Val)} (hkw : VK_ X cm kws t) {n : Nat} (hn : ks.length = n := by rfl)
    (hall : (backToKw pos (keywordEach kws X.env)).all (·.1.isSome) = true := by rfl) (hks : (backToKw pos (keywordEach kws X.env)).filterMap (·.1) = ks := by rfl) (hdb : (x == ("__debug__" : Str)) = false := by decide)
    (hpl : ((backTo pos (starEach [] X.env)).any (·.1) || (backToKw pos (keywordEach kws X.env)).any (·.1.isNone)) = false := by rfl) :
    VE X cm (.Call (.Name x p) [] kws pos) (revF F n t) := hn ▸ (pe_callK0 d.ok hr hg d.at_ d.kp hb pass0 hkw hall hks hdb hpl).weak fun σ H Q ⟨P, env, z, hs, hf, q⟩ => by
  unfold revF at hf
  obtain ⟨xs, ex, h1⟩ := Option.bind_eq_some_iff.mp hf
  split at h1
  case isFalse => cases h1
  rename_i l
  exact ⟨P, env, xs, hs, ex, fun vs H1 s1 r1 => ⟨by rw [Res.length r1]; exact l, P, xs.reverse, z, hs.hid.same s1, (show Res cm P H1 ([] ++ vs.reverse) xs.reverse from by rw [List.nil_append]; exact Res.reverse r1), h1, fun v H2 s2 r2 => q v H2 (s1.trans s2) r2⟩⟩
/-- a method that is a function of its arguments' trees -/
structure Dm (P : Program) (w : World) (K : PySem.W.Frag) (mg : Str → Option Value) (base : Heap) (cm : Cm) (c : Nat) (m : Str) (k : Nat) (ps : List Str) (F : List Val → Option Val) (f : Addr) (fd : FuncData) : Prop where
  ok : FnOk P w K mg base CX0 k f fd ps (spV cm F)
  cl : Cls K (cm.cls c)
  me : Meth K (cm.cls c) m f
  bd : Binds K fd ps []
def metF (c : Nat) (m : Str) (F : List Val → Option Val) (f : En → Option Val) (t : En → Option (List Val)) : En → Option Val := fun env => (f env).bind fun x => match x with
  | .ins c' ns _ => if c' = c ∧ m ∉ ns then (t env).bind fun xs => F (x :: xs) else none
  | _ => none
theorem look_none {m : Str} : ∀ {fs : List (Str × V)}, m ∉ fs.map (·.1) → fs.lookup m = none
  | [], _ => rfl
  | (n, v) :: fs, h => by
    have hb : (m == n) = false := beq_eq_false_iff_ne.mpr fun z => h (by rw [z]; exact List.mem_cons_self ..)
    simp only [List.lookup, hb]
    exact look_none fun z => h (List.mem_cons_of_mem _ z)
theorem ve_meth {c : Nat} (d : Dm X.prog X.w X.K X.mg X.base cm c m k ps F fa fd) (hr : Room k X.A) (ho : VE X cm o f) {t : En → Option (List Val)} (ha : VA X cm (e :: es) t) {pl : Sem Bool}
    (hst : starEach (e :: es) X.env = (false, eval e X.env) :: starEach es X.env := by rfl) (hpl : (backTo pos (starEach es X.env)).any (·.1) = false := by rfl)
    (ht : eval (.Call (.Attribute o m apos) (e :: es) [] pos) X.env = (do
      let ov ← eval o X.env
      standAt apos.atName
      let (f, first) ← holding [ov] (getMethod ov m pl)
      callWith pos f first (backTo pos (starEach (e :: es) X.env)) (backToKw pos (keywordEach [] X.env))) := by rfl) :
    VE X cm (.Call (.Attribute o m apos) (e :: es) [] pos) (metF c m F f t) := (pe_meth ho d.cl d.me d.ok hr d.bd .nil pass0 ha hst hpl ht).weak fun σ H Q ⟨P, env, z, hs, hf, q⟩ => by
  unfold metF at hf
  obtain ⟨y, ey, h1⟩ := Option.bind_eq_some_iff.mp hf
  split at h1
  case h_2 => cases h1
  split at h1
  case isFalse => cases h1
  rename_i hc
  obtain ⟨rfl, hn⟩ := hc
  obtain ⟨xs, ex, h2⟩ := Option.bind_eq_some_iff.mp h1
  refine ⟨P, env, _, hs, ey, fun v H1 s1 r1 => ?_⟩
  have r1' := r1
  cases r1 with
  | @ins a dx _ fs _ n hh r =>
    refine ⟨a, dx, fs, rfl, hh, look_none hn, P, env, xs, hs.same s1, ex, fun vs H2 s2 r2 => ?_⟩
    show spV cm F (.ref a :: (vs ++ [])) H2 Q _
    rw [List.append_nil]
    exact ⟨P, _, z, (hs.hid.same s1).same s2, .cons (r1'.same s2) r2, h2, fun v H3 s3 r3 => q v H3 (s1.trans (s2.trans s3)) r3⟩
def metKF (c : Nat) (m : Str) (n : Nat) (F : List Val → Option Val) (f : En → Option Val) (t : En → Option (List Val)) : En → Option Val := fun env => (f env).bind fun x => match x with
  | .ins c' ns _ => if c' = c ∧ m ∉ ns then (t env).bind fun xs => if xs.length = n then F (x :: xs.reverse) else none else none
  | _ => none
theorem ve_methK {c : Nat} (d : Dm X.prog X.w X.K X.mg X.base cm c m k ps F fa fd) (hr : Room k X.A) (ho : VE X cm o f) (hb : KBn X.K fd ps 1 ks (fun us ws => us ++ ws.reverse) (fun us ws => us ++ ws.reverse)) {t : En → Option (List Val)} (hkw : VK_ X cm kws t) {pl : Sem Bool} {n : Nat}
    (hall : (backToKw pos (keywordEach kws X.env)).all (·.1.isSome) = true := by rfl) (hks : (backToKw pos (keywordEach kws X.env)).filterMap (·.1) = ks := by rfl)
    (hpl : ((backTo pos (starEach [] X.env)).any (·.1) || (backToKw pos (keywordEach kws X.env)).any (·.1.isNone)) = false := by rfl)
    (ht : eval (.Call (.Attribute o m apos) [] kws pos) X.env = (do
      let ov ← eval o X.env
      standAt apos.atName
      let (f, first) ← holding [ov] (getMethod ov m pl)
      callWith pos f first (backTo pos (starEach [] X.env)) (backToKw pos (keywordEach kws X.env))) := by rfl) (hn : ks.length = n := by rfl) :
    VE X cm (.Call (.Attribute o m apos) [] kws pos) (metKF c m n F f t) := hn ▸ (pe_methK0 ho d.cl d.me d.ok hr hb pass0 hkw hall hks hpl ht).weak fun σ H Q ⟨P, env, z, hs, hf, q⟩ => by
  unfold metKF at hf
  obtain ⟨y, ey, h1⟩ := Option.bind_eq_some_iff.mp hf
  split at h1
  case h_2 => cases h1
  split at h1
  case isFalse => cases h1
  rename_i hc
  obtain ⟨rfl, hn⟩ := hc
  obtain ⟨xs, ex, h2⟩ := Option.bind_eq_some_iff.mp h1
  split at h2
  case isFalse => cases h2
  rename_i l
  refine ⟨P, env, _, hs, ey, fun v H1 s1 r1 => ?_⟩
  have r1' := r1
  cases r1 with
  | @ins a dx _ fs _ n hh r =>
    refine ⟨a, dx, fs, rfl, hh, look_none hn, P, env, xs, hs.same s1, ex, fun vs H2 s2 r2 => ⟨by rw [Res.length r2]; exact l, ?_⟩⟩
    exact ⟨P, _, z, (hs.hid.same s1).same s2, .cons (r1'.same s2) (Res.reverse r2), h2, fun v H3 s3 r3 => q v H3 (s1.trans (s2.trans s3)) r3⟩
end
section
variable {P : Program} {w : World} {K : PySem.W.Frag} {mg : Str → Option Value} {base : Heap} {cm : Cm}
/-- a method of the text -/
structure DdM (K : PySem.W.Frag) (cm : Cm) (c : Nat) (m qual : Str) (st : Stmt) (ps : List Str) (f : Addr) (fd : FuncData) : Prop where
  fn : Fun K m qual st f fd
  cl : Cls K (cm.cls c)
  me : Meth K (cm.cls c) m f
  bd : Binds K fd ps []
theorem okM {c : Nat} {m qual : Str} {st : Stmt} {f : Addr} {fd : FuncData} {N ps : List Str} {k : Nat} (ow : List Nat) {g : En → Option Out} (D : DdM K cm c m qual st ps f fd) (S : FnScope N ps (defScope st)) (ho : ∀ i ∈ ow, ps.length ≤ i)
    (hbody : ∀ (cdv : Value) (A : Around) (outer : List Env) (s : Shared) (H : Hp) (E : XK), Room k (A.deeper (envOfC qual (defScope st) s.heap.objs.size f cdv)) → (A.deeper (envOfC qual (defScope st) s.heap.objs.size f cdv)).units + 64 < cLine → SVs (cxOf CX0 P w K mg base N qual (defScope st) f cdv A outer s H E).nox cm ow (defBody st) g) :
    Dm P w K mg base cm c m (k + 1) ps (runV N.length ps.length g) f fd :=
  ⟨okV ow D.fn S ho fun cdv A outer s H E hr => hbody cdv A outer s H E hr (by have := hr.un; omega), D.cl, D.me, D.bd⟩
end
/-! is True, of truths -/
def isTV (neg : Bool) : Val → Val → Option Val
  | .bl a, .bl b => some (.bl (neg != decide (a = b)))
  | _, _ => none
theorem ov_isTB {cm : Cm} : OpV cm (fun x y H Q => ∃ a b, x = .bl a ∧ y = .bl b ∧ Q (.bl (decide (a = b))) H) (isTV false) := fun P x y z v u H Q e rx ry q => by
  unfold isTV at e
  split at e
  case h_2 => cases e
  rename_i a b
  cases e
  cases rx.bl_
  cases ry.bl_
  refine ⟨a, b, rfl, rfl, ?_⟩
  have k := q (.bl (false != decide (a = b))) H (Same.refl H) (.bl _)
  rwa [Bool.false_bne] at k
theorem ov_isnotTB {cm : Cm} : OpV cm (fun x y H Q => ∃ a b, x = .bl a ∧ y = .bl b ∧ Q (.bl (!decide (a = b))) H) (isTV true) := fun P x y z v u H Q e rx ry q => by
  unfold isTV at e
  split at e
  case h_2 => cases e
  rename_i a b
  cases e
  cases rx.bl_
  cases ry.bl_
  refine ⟨a, b, rfl, rfl, ?_⟩
  have k := q (.bl (true != decide (a = b))) H (Same.refl H) (.bl _)
  rwa [Bool.true_bne] at k
end Up

namespace Up
open PySem PySem.Spec PyProof.Rows L2
/-! ### talks as values -/
def dgV (g : Dg) : Val := .tup [.str g.word, .int (g.l : Int)]
def rowV (gs : List Dg) : Val := .tup (gs.map dgV)
def rowsV (gss : List (List Dg)) : Val := .tup (gss.map rowV)
def placeV (t : Pl) : Val := .tup [.int (t.2.1 : Int), .int (t.2.2 : Int)]
def ckV (Ck : Dg → List Int) (t : Pl) : Val := .tup ((Ck t.1).map .int)
def handsV (many : Nat) (S : Nat → Nat) : Val := .tup (((List.range many).map fun l => ((S l : Nat) : Int)).map .int)
def keysV (gss : List (List Dg)) : List (List Key) := (plAll 0 gss).map fun t => t.1.key
def talkV (gss : List (List Dg)) (many : Nat) (S G : Nat → Nat) (Ck : Dg → List Int) : Val :=
  .ins 0 ["rows", "places", "many", "senders", "getters", "clocks"] [rowsV gss, .dct (keysV gss) ((plAll 0 gss).map placeV), .int (many : Int), handsV many S, handsV many G, .dct (keysV gss) ((plAll 0 gss).map (ckV Ck))]
section
variable {cm : Cm} {P : Addr → Prop} {H : Hp}
theorem ints_re : ∀ ns : List Int, Res cm P H (iL ns) (ns.map .int)
  | [] => .nil
  | n :: ns => .cons (.int n) (ints_re ns)
theorem rows_re (hd : Hid P H) {r : Addr} {gss : List (List Dg)} (h : RowsD H r gss) : Re cm P H (.ref r) (rowsV gss) := by
  obtain ⟨ts, h1, h2, h3⟩ := h.ex
  refine .tup (hd.tup h1) h1 (Res.of (by rw [List.length_map, List.length_map]; exact h2) fun i v x e1 e2 => ?_)
  obtain ⟨t, et, rfl⟩ := map_get e1
  rw [List.getElem?_map] at e2
  obtain ⟨gs, eg, rfl⟩ := Option.map_eq_some_iff.mp e2
  obtain ⟨qs, k1, k2, k3⟩ := h3 i t gs et eg
  refine .tup (hd.tup k1) k1 (Res.of (by rw [List.length_map, List.length_map]; exact k2) fun j v x e3 e4 => ?_)
  obtain ⟨q, eq, rfl⟩ := map_get e3
  rw [List.getElem?_map] at e4
  obtain ⟨g, eg2, rfl⟩ := Option.map_eq_some_iff.mp e4
  have hq := k3 j q g eq eg2
  exact .tup (hd.tup hq) hq (.cons (.str _) (.cons (.int _) .nil))
theorem keys_nd {gss : List (List Dg)} (o : Once gss) : (keysV gss).Nodup := by
  unfold keysV
  have e : ((plAll 0 gss).map fun t => t.1.key) = ((plAll 0 gss).map (·.1)).map Dg.key := by
    rw [List.map_map]
    rfl
  rw [e]
  exact List.Pairwise.map _ (fun a b c z => c (Dg.key_inj z)) o
theorem places_re (hd : Hid P H) {p : Addr} {kvs : List (List Key × V)} {gss : List (List Dg)} (o : Once gss) (nP : ¬ P p) (hp : H p = some (.dT kvs)) (d : DictP H kvs (plAll 0 gss)) : Re cm P H (.ref p) (.dct (keysV gss) ((plAll 0 gss).map placeV)) := by
  have ks : kvs.map (·.1) = keysV gss := d.ks
  have nd := keys_nd o
  refine .dct (vs := kvs.map (·.2)) nP hp (by rw [← ks, List.length_map]) (by rw [← ks, List.length_map, List.length_map]) (fun i k v e1 e2 => ?_) (fun k hk => ?_) (Res.of (by rw [List.length_map, List.length_map]; exact d.len) fun i v x e1 e2 => ?_)
  · rw [List.getElem?_map] at e2
    obtain ⟨⟨k', v'⟩, e3, rfl⟩ := Option.map_eq_some_iff.mp e2
    have e4 : (kvs.map (·.1))[i]? = some k' := by rw [List.getElem?_map, e3]; rfl
    rw [ks, e1] at e4
    cases e4
    exact val_some (by rw [ks]; exact nd) e3
  · exact val_none (by rw [ks]; exact hk)
  · rw [List.getElem?_map] at e1 e2
    obtain ⟨⟨k', v'⟩, e3, rfl⟩ := Option.map_eq_some_iff.mp e1
    obtain ⟨⟨g, h, n⟩, e4, rfl⟩ := Option.map_eq_some_iff.mp e2
    obtain ⟨q, e5, hq⟩ := d.vs i g h n e4
    rw [e3] at e5
    cases e5
    exact .tup (hd.tup hq) hq (.cons (.int _) (.cons (.int _) .nil))
theorem clocks_re (hd : Hid P H) {c : Addr} {ckv : List (List Key × V)} {dn : List Dg} {Ck : Dg → List Int} {gss : List (List Dg)} (o : Once gss) (nP : ¬ P c) (hc : H c = some (.dT ckv)) (d : DictC Ck H ckv dn) (nd : dn.Nodup) (hdn : ∀ g, g ∈ dn ↔ g ∈ (plAll 0 gss).map (·.1)) :
    Re cm P H (.ref c) (.dct (keysV gss) ((plAll 0 gss).map (ckV Ck))) := by
  have pick : ∀ l : List Pl, (∀ t ∈ l, t.1 ∈ dn) → ∃ vs : List V, vs.length = l.length ∧ (∀ (i : Nat) (t : Pl) (v : V), l[i]? = some t → vs[i]? = some v → valV ckv t.1.key = some v) ∧ Res cm P H vs (l.map (ckV Ck)) := by
    intro l
    induction l with
    | nil => exact fun _ => ⟨[], rfl, (fun i t v e => by simp at e), .nil⟩
    | cons t l ih =>
      intro h
      obtain ⟨vs, h1, h2, h3⟩ := ih fun u hu => h u (List.mem_cons_of_mem _ hu)
      obtain ⟨q, e1, hq⟩ := d.get nd (h t (List.mem_cons_self ..))
      refine ⟨.ref q :: vs, by rw [List.length_cons, List.length_cons, h1], fun i u v e2 e3 => ?_, .cons (.tup (hd.tup hq) hq (ints_re _)) h3⟩
      cases i with
      | zero =>
        cases e2
        cases e3
        exact e1
      | succ i => exact h2 i u v (by simpa using e2) (by simpa using e3)
  obtain ⟨vs, h1, h2, h3⟩ := pick (plAll 0 gss) fun t ht => (hdn _).mpr (List.mem_map_of_mem (f := (·.1)) ht)
  have lk : (keysV gss).length = (plAll 0 gss).length := by
    unfold keysV
    rw [List.length_map]
  have e1 : ((plAll 0 gss).map (·.1)).length = (plAll 0 gss).length := List.length_map ..
  refine .dct (vs := vs) nP hc (by rw [d.len, lk, ← e1]; exact Nat.le_antisymm (nd_len nd fun g hg => (hdn g).mp hg) (nd_len o fun g hg => (hdn g).mpr hg)) (by rw [h1, lk]) (fun i k v e2 e3 => ?_) (fun k hk => ?_) h3
  · unfold keysV at e2
    rw [List.getElem?_map] at e2
    obtain ⟨t, e4, rfl⟩ := Option.map_eq_some_iff.mp e2
    exact h2 i t v e4 e3
  · refine val_none fun c => ?_
    rw [d.ks] at c
    obtain ⟨g, hg, e⟩ := List.mem_map.mp c
    obtain ⟨t, ht, rfl⟩ := List.mem_map.mp ((hdn g).mp hg)
    exact hk (List.mem_map.mpr ⟨t, ht, e⟩)
theorem talk_re {H0 : Hp} {x C : Addr} {gss : List (List Dg)} {many : Nat} {S G : Nat → Nat} {Ck : Dg → List Int} (hC : cm.cls 0 = C) (hd : Hid P H) (nx : ¬ P x) (hP : ∀ a, P a → H0 a ≠ none) (o : Once gss) (t : TalkAt H x C gss many S G Ck) (nw : TalkNw H0 H x C) :
    Re cm P H (.ref x) (talkV gss many S G Ck) := by
  obtain ⟨dx, r, p, s, g, c, kvs, ckv, dn, h1, h2, h3, h4, h5, h6, h7, h8, h9, h10⟩ := t.ex
  obtain ⟨dx', r', p', many', s', g', c', k1, k2, k3⟩ := nw
  rw [h1] at k1
  have e := Option.some.inj k1
  have e2 : tf r p many s g c = tf r' p' many' s' g' c' := by
    injection e
  unfold tf at e2
  simp only [List.cons.injEq, Prod.mk.injEq, V.ref.injEq, and_true, true_and] at e2
  obtain ⟨_, ep, _, _, _, ec⟩ := e2
  subst ep ec
  subst hC
  exact .ins (fs := tf r p many s g c) nx h1 (.cons (rows_re hd h2) (.cons (places_re hd o (fun z => hP _ z k2) h3 h4) (.cons (.int _) (.cons (.tup (hd.tup h5) h5 (ints_re _)) (.cons (.tup (hd.tup h6) h6 (ints_re _)) (.cons (clocks_re hd o (fun z => hP _ z k3) h7 h8 h9 h10) .nil))))))
/-! rows read from values -/
def dgOf : Val → Option Dg
  | .tup [.str w, .int l] => if 0 ≤ l then (if w = ("send" : Str) then some ⟨true, l.toNat⟩ else if w = ("get" : Str) then some ⟨false, l.toNat⟩ else none) else none
  | _ => none
def allO {α : Type} (f : Val → Option α) : List Val → Option (List α)
  | [] => some []
  | x :: xs => (f x).bind fun a => (allO f xs).bind fun as => some (a :: as)
theorem allO_get {α : Type} {f : Val → Option α} : ∀ {xs : List Val} {as : List α}, allO f xs = some as → xs.length = as.length ∧ ∀ (i : Nat) x a, xs[i]? = some x → as[i]? = some a → f x = some a
  | [], as, e => by
    cases e
    exact ⟨rfl, fun i x a e => by simp at e⟩
  | x :: xs, as, e => by
    unfold allO at e
    obtain ⟨a, e1, e⟩ := Option.bind_eq_some_iff.mp e
    obtain ⟨as', e2, e⟩ := Option.bind_eq_some_iff.mp e
    cases e
    obtain ⟨h1, h2⟩ := allO_get e2
    refine ⟨by rw [List.length_cons, List.length_cons, h1], fun i y b e3 e4 => ?_⟩
    cases i with
    | zero =>
      cases e3
      cases e4
      exact e1
    | succ i => exact h2 i y b (by simpa using e3) (by simpa using e4)
theorem dgOf_re {v : V} {x : Val} {g : Dg} (r : Re cm P H v x) (e : dgOf x = some g) : ∃ q, v = .ref q ∧ H q = some (.tup g.vs) := by
  unfold dgOf at e
  split at e
  · rename_i w l
    obtain ⟨q, vs, rfl, n, hh, rs⟩ := r.tup_
    obtain ⟨v1, v2, rfl, r1, r2⟩ := Res.two rs
    cases r1.str_
    cases r2.int_
    refine ⟨q, rfl, ?_⟩
    rw [hh]
    split at e
    · rename_i hl
      have el : ((l.toNat : Nat) : Int) = l := Int.toNat_of_nonneg hl
      split at e
      · rename_i hw
        cases e
        subst hw
        show _ = some (HO.tup [.str "send", .int ((l.toNat : Nat) : Int)])
        rw [el]
      · split at e
        · rename_i hw
          cases e
          subst hw
          show _ = some (HO.tup [.str "get", .int ((l.toNat : Nat) : Int)])
          rw [el]
        · cases e
    · cases e
  · cases e
theorem items_h {v : V} {x : Val} {xs : List Val} (h : Re cm P H v x) (e : itemsOf x = some xs) : ∃ p vs, v = .ref p ∧ (H p = some (.lst vs) ∨ H p = some (.tup vs)) ∧ Res cm P H vs xs := by
  cases h <;> cases e
  · exact ⟨_, _, rfl, .inl (by assumption), by assumption⟩
  · exact ⟨_, _, rfl, .inr (by assumption), by assumption⟩
def rowOf (x : Val) : Option (List Dg) := (itemsOf x).bind (allO dgOf)
def rowsOf (x : Val) : Option (List (List Dg)) := (itemsOf x).bind (allO rowOf)
def tupOf : Val → Option (List Val)
  | .tup xs => some xs
  | _ => none
def rowT (x : Val) : Option (List Dg) := (tupOf x).bind (allO dgOf)
def rowsT (x : Val) : Option (List (List Dg)) := (tupOf x).bind (allO rowT)
/-- addresses of what are refs -/
theorem refs_of : ∀ {vs : List V}, (∀ (i : Nat) v, vs[i]? = some v → ∃ a, v = .ref a) → ∃ as : List Addr, vs = as.map V.ref
  | [], _ => ⟨[], rfl⟩
  | v :: vs, h => by
    obtain ⟨a, rfl⟩ := h 0 v rfl
    obtain ⟨as, rfl⟩ := refs_of fun i v e => h (i + 1) v (by simpa using e)
    exact ⟨a :: as, rfl⟩
theorem dgs_of {vs : List V} {xs : List Val} {gs : List Dg} (r : Res cm P H vs xs) (e : allO dgOf xs = some gs) : ∃ qs : List Addr, vs = qs.map V.ref ∧ qs.length = gs.length ∧ ∀ (j : Nat) (q : Addr) (g : Dg), qs[j]? = some q → gs[j]? = some g → H q = some (.tup g.vs) := by
  obtain ⟨l, get⟩ := allO_get e
  have one : ∀ (i : Nat) v, vs[i]? = some v → ∃ a g, v = .ref a ∧ gs[i]? = some g ∧ H a = some (.tup g.vs) := fun i v ev => by
    obtain ⟨x, ex, rx⟩ := Res.getV r ev
    have lt := (List.getElem?_eq_some_iff.mp ex).1
    obtain ⟨g, eg⟩ : ∃ g, gs[i]? = some g := ⟨_, List.getElem?_eq_getElem (by omega)⟩
    obtain ⟨q, rfl, hq⟩ := dgOf_re rx (get i x g ex eg)
    exact ⟨q, g, rfl, eg, hq⟩
  obtain ⟨qs, rfl⟩ := refs_of fun i v ev => let ⟨a, g, h, _⟩ := one i v ev; ⟨a, h⟩
  refine ⟨qs, rfl, by rw [← l, ← Res.length r, List.length_map], fun j q g e1 e2 => ?_⟩
  obtain ⟨a, g', ha, eg, hq⟩ := one j (.ref q) (by rw [List.getElem?_map, e1]; rfl)
  cases ha
  rw [e2] at eg
  cases eg
  exact hq
theorem rowsG_of {v : V} {x : Val} {gss : List (List Dg)} (r : Re cm P H v x) (e : rowsOf x = some gss) : ∃ a, v = .ref a ∧ RowsG H a gss := by
  unfold rowsOf at e
  obtain ⟨xs, e1, e⟩ := Option.bind_eq_some_iff.mp e
  obtain ⟨p, vs, rfl, hp, rs⟩ := items_h r e1
  obtain ⟨l, get⟩ := allO_get e
  have one : ∀ (i : Nat) v, vs[i]? = some v → ∃ a gs, v = .ref a ∧ gss[i]? = some gs ∧ ∃ qs : List Addr, (H a = some (.lst (qs.map V.ref)) ∨ H a = some (.tup (qs.map V.ref))) ∧ qs.length = gs.length ∧ ∀ (j : Nat) (q : Addr) (g : Dg), qs[j]? = some q → gs[j]? = some g → H q = some (.tup g.vs) := fun i v ev => by
    obtain ⟨y, ey, ry⟩ := Res.getV rs ev
    have lt := (List.getElem?_eq_some_iff.mp ey).1
    obtain ⟨gs, eg⟩ : ∃ gs, gss[i]? = some gs := ⟨_, List.getElem?_eq_getElem (by omega)⟩
    have e2 := get i y gs ey eg
    unfold rowOf at e2
    obtain ⟨ys, e3, e4⟩ := Option.bind_eq_some_iff.mp e2
    obtain ⟨a, us, rfl, ha, ru⟩ := items_h ry e3
    obtain ⟨qs, rfl, k1, k2⟩ := dgs_of ru e4
    exact ⟨a, gs, rfl, eg, qs, ha, k1, k2⟩
  obtain ⟨ts, rfl⟩ := refs_of fun i v ev => let ⟨a, g, h, _⟩ := one i v ev; ⟨a, h⟩
  refine ⟨p, rfl, ts, hp, by rw [← l, ← Res.length rs, List.length_map], fun i t gs e5 e6 => ?_⟩
  obtain ⟨a, gs', ha, eg, qs, k0, k1, k2⟩ := one i (.ref t) (by rw [List.getElem?_map, e5]; rfl)
  cases ha
  rw [e6] at eg
  cases eg
  exact ⟨qs, k0, k1, k2⟩
theorem rowsD_of {v : V} {x : Val} {gss : List (List Dg)} (r : Re cm P H v x) (e : rowsT x = some gss) : ∃ a, v = .ref a ∧ RowsD H a gss := by
  unfold rowsT at e
  obtain ⟨xs, e1, e⟩ := Option.bind_eq_some_iff.mp e
  have ex : x = .tup xs := by
    cases x <;> cases e1
    rfl
  subst ex
  obtain ⟨p, vs, rfl, _, hp, rs⟩ := r.tup_
  obtain ⟨l, get⟩ := allO_get e
  have one : ∀ (i : Nat) v, vs[i]? = some v → ∃ a gs, v = .ref a ∧ gss[i]? = some gs ∧ ∃ qs : List Addr, H a = some (.tup (qs.map V.ref)) ∧ qs.length = gs.length ∧ ∀ (j : Nat) (q : Addr) (g : Dg), qs[j]? = some q → gs[j]? = some g → H q = some (.tup g.vs) := fun i v ev => by
    obtain ⟨y, ey, ry⟩ := Res.getV rs ev
    have lt := (List.getElem?_eq_some_iff.mp ey).1
    obtain ⟨gs, eg⟩ : ∃ gs, gss[i]? = some gs := ⟨_, List.getElem?_eq_getElem (by omega)⟩
    have e2 := get i y gs ey eg
    unfold rowT at e2
    obtain ⟨ys, e3, e4⟩ := Option.bind_eq_some_iff.mp e2
    have ey2 : y = .tup ys := by
      cases y <;> cases e3
      rfl
    subst ey2
    obtain ⟨a, us, rfl, _, ha, ru⟩ := ry.tup_
    obtain ⟨qs, rfl, k1, k2⟩ := dgs_of ru e4
    exact ⟨a, gs, rfl, eg, qs, ha, k1, k2⟩
  obtain ⟨ts, rfl⟩ := refs_of fun i v ev => let ⟨a, g, h, _⟩ := one i v ev; ⟨a, h⟩
  refine ⟨p, rfl, ts, hp, by rw [← l, ← Res.length rs, List.length_map], fun i t gs e5 e6 => ?_⟩
  obtain ⟨a, gs', ha, eg, qs, k0, k1, k2⟩ := one i (.ref t) (by rw [List.getElem?_map, e5]; rfl)
  cases ha
  rw [e6] at eg
  cases eg
  exact ⟨qs, k0, k1, k2⟩
end
/-! ### making talks, comparing them -/
/-- a function that tells talks of rows -/
def MkOk (F : List Val → Option Val) : Prop := ∀ xs z, F xs = some z → ∃ (rows : Val) (gss : List (List Dg)) (many : Nat) (S G : Nat → Nat) (Ck : Dg → List Int), xs = [rows] ∧ rowsOf rows = some gss ∧ Valid gss many S G Ck ∧ z = talkV gss many S G Ck
theorem _root_.L2.FnOk.any {P : Program} {w : World} {K : PySem.W.Frag} {mg : Str → Option Value} {base : Heap} {CX : CXT} {k : Nat} {f : Addr} {fd : FuncData} {ps : List Str} {α : Type} {sp : α → Sp} (F : ∀ a, FnOk P w K mg base CX k f fd ps (sp a)) : FnOk P w K mg base CX k f fd ps (fun vs H Q E => ∃ a, sp a vs H Q E) :=
  ⟨fun vs H Q E ⟨a, h⟩ => (F a).len vs H Q E h, fun A outer s H args us vs Q E hr he hb hv ⟨a, h⟩ => (F a).run A outer s H args us vs Q E hr he hb hv h⟩
section
variable {X : Cx} {cm : Cm} {e : Expr} {es : List Expr} {f g h : En → Option Val} {p pos : Pos} {kws : List Keyword} {C fI : Addr} {fd : FuncData} {x : Str}
theorem make_core {P : Addr → Prop} {H H1 : Hp} {F : List Val → Option Val} {xs : List Val} {z : Val} {Q : VK} {E : XK} {vs : List V} (hC : cm.cls 0 = C) (mk : MkOk F) (hd : Hid P H1) (s1 : Same H H1) (r : Res cm P H1 vs xs) (ez : F xs = some z) (q : ∀ v' H', Same H H' → Re cm P H' v' z → Q v' H') (y dx : Addr) (ny : H1 y = none) (ndx : H1 dx = none) (ne : dx ≠ y) :
    ∃ Ck, spTInit C Sl0 Ck (.ref y :: vs) (upd (upd H1 dx (.own y)) y (.ins C dx [])) (fun v H2 => v = .non ∧ Q (.ref y) H2) E := by
  obtain ⟨rows, gss, many, S, G, Ck, rfl, er, hV, rfl⟩ := mk xs z ez
  obtain ⟨v, rfl, r1⟩ := Res.one r
  obtain ⟨a, rfl, hG⟩ := rowsG_of r1 er
  have s2 : Same H1 (upd (upd H1 dx (.own y)) y (.ins C dx [])) := fun b o eb => by
    rw [upd_ne (ne_of_none eb ny), upd_ne (ne_of_none eb ndx)]
    exact eb
  refine ⟨Ck, y, dx, a, gss, many, S, G, rfl, upd_same, True.intro, hG.same s2, hV, fun H2 k t nw => ⟨rfl, ?_⟩⟩
  have s3 : Same H1 H2 := fun b o eb => k b o (s2 b o eb) (ne_of_none eb ny)
  exact q _ H2 (s1.trans s3) (talk_re hC (hd.same s3) (hd.new ny) (fun b pb => ((hd b pb).same s2).ne) hV.once t nw)
theorem ve_make {F : List Val → Option Val} {t : En → Option (List Val)} (hC : cm.cls 0 = C) (mk : MkOk F) (M : Mk X.K C fI) (GT : ∀ Ck, FnOk X.prog X.w X.K X.mg X.base CX0 5 fI fd ["self", "rows"] (spTInit C Sl0 Ck)) (bT : Binds X.K fd ["self", "rows"] []) (hr : Room (5 + 1) X.A) (hg : Gl X x) (hm : X.mg x = some (.ref C)) (ha : VA X cm (e :: es) t)
    (hdb : (x == ("__debug__" : Str)) = false := by decide) (he : starEach (e :: es) X.env = (false, eval e X.env) :: starEach es X.env := by rfl) (hpl : (backTo pos (starEach es X.env)).any (·.1) = false := by rfl) :
    VE X cm (.Call (.Name x p) (e :: es) [] pos) (appF F t) := (pe_make M (FnOk.any GT) hr hg hm bT .nil pass0 ha hdb he hpl).weak fun σ H Q ⟨P, env, z, hs, hf, q⟩ => by
  obtain ⟨xs, ex, hf⟩ := Option.bind_eq_some_iff.mp hf
  refine ⟨P, env, xs, hs, ex, fun vs H1 s1 r1 y dx ny ndx ne => ?_⟩
  rw [List.append_nil]
  exact make_core hC mk (hs.hid.same s1) s1 r1 hf q y dx ny ndx ne
theorem ve_makeK {F : List Val → Option Val} {t : En → Option (List Val)} (hC : cm.cls 0 = C) (mk : MkOk F) (M : Mk X.K C fI) (GT : ∀ Ck, FnOk X.prog X.w X.K X.mg X.base CX0 5 fI fd ["self", "rows"] (spTInit C Sl0 Ck)) (bT : KBn X.K fd ["self", "rows"] 1 [("rows" : Str)] (fun us ws => us ++ ws.reverse) (fun us ws => us ++ ws.reverse)) (hr : Room (5 + 1) X.A) (hg : Gl X x) (hm : X.mg x = some (.ref C)) (hkw : VK_ X cm kws t)
    (hall : (backToKw pos (keywordEach kws X.env)).all (·.1.isSome) = true := by rfl) (hks : (backToKw pos (keywordEach kws X.env)).filterMap (·.1) = [("rows" : Str)] := by rfl) (hdb : (x == ("__debug__" : Str)) = false := by decide)
    (hpl : ((backTo pos (starEach [] X.env)).any (·.1) || (backToKw pos (keywordEach kws X.env)).any (·.1.isNone)) = false := by rfl) :
    VE X cm (.Call (.Name x p) [] kws pos) (revF F 1 t) := (pe_makeK0 M (FnOk.any GT) hr hg hm bT pass0 hkw hall hks hdb hpl).weak fun σ H Q ⟨P, env, z, hs, hf, q⟩ => by
  unfold revF at hf
  obtain ⟨xs, ex, h1⟩ := Option.bind_eq_some_iff.mp hf
  split at h1
  case isFalse => cases h1
  rename_i l
  refine ⟨P, env, xs, hs, ex, fun vs H1 s1 r1 => ⟨rfl, by rw [Res.length r1]; exact l, fun y dx ny ndx ne => ?_⟩⟩
  exact make_core hC mk (hs.hid.same s1) s1 (Res.reverse r1) h1 q y dx ny ndx ne
def rowsFld : Val → Option (List (List Dg))
  | .ins 0 ns xs => (lookF "rows" ns xs).bind rowsT
  | _ => none
theorem rowsOf_re {P : Addr → Prop} {H : Hp} {v : V} {y : Val} {gss : List (List Dg)} (r : Re cm P H v y) (e : rowsFld y = some gss) : ∃ a dx fs, v = .ref a ∧ H a = some (.ins (cm.cls 0) dx fs) ∧ RowsOf H a (cm.cls 0) gss := by
  unfold rowsFld at e
  split at e
  case h_2 => cases e
  obtain ⟨z, e1, e2⟩ := Option.bind_eq_some_iff.mp e
  cases r with
  | @ins a dx _ fs _ n hh rs =>
    obtain ⟨v, k1, k2⟩ := lookF_re rs e1
    obtain ⟨b, rfl, hb⟩ := rowsD_of k2 e2
    exact ⟨a, dx, fs, rfl, hh, dx, b, fs, hh, k1, hb⟩
def neT (x y : Val) : Option Val := (rowsFld x).bind fun a => (rowsFld y).bind fun b => some (.bl (!decide (a = b)))
theorem ov_neT {K : PySem.W.Frag} {E : XK} (hC : cm.cls 0 = C) : OpV cm (rNeO C (spTEq K C) E) neT := fun P x y z v u H Q e rx ry q => by
  subst hC
  unfold neT at e
  obtain ⟨a, ea, h1⟩ := Option.bind_eq_some_iff.mp e
  obtain ⟨b, eb, h2⟩ := Option.bind_eq_some_iff.mp h1
  cases h2
  obtain ⟨p1, d1, f1, rfl, k1, R1⟩ := rowsOf_re rx ea
  obtain ⟨p2, d2, f2, rfl, k2, R2⟩ := rowsOf_re ry eb
  exact ⟨p1, d1, p2, d2, f1, f2, rfl, rfl, k1, k2, p1, _, a, rfl, R1, .inr ⟨p2, b, rfl, R2, _, rfl, q _ H (Same.refl H) (.bl _)⟩⟩
end
end Up

namespace Up
open PySem PySem.Spec PyProof.Rows L2
/-! ### talks of given rows, computed -/
def allB {α : Type} (f : α → Bool) : List α → Bool
  | [] => true
  | x :: xs => f x && allB f xs
theorem allB_mem {α : Type} {f : α → Bool} : ∀ {l : List α}, allB f l = true → ∀ x ∈ l, f x = true
  | y :: l, h, x, hx => by
    unfold allB at h
    rw [Bool.and_eq_true] at h
    rcases List.mem_cons.mp hx with c | c
    · rw [c]; exact h.1
    · exact allB_mem h.2 x c
def upto : Nat → List Nat
  | 0 => []
  | n + 1 => n :: upto n
theorem upto_mem : ∀ {n k : Nat}, k < n → k ∈ upto n
  | n + 1, k, h => by
    unfold upto
    by_cases c : k = n
    · rw [c]; exact List.mem_cons_self ..
    · exact List.mem_cons_of_mem _ (upto_mem (by omega))
def dgEq (a b : Dg) : Bool := a.s == b.s && a.l == b.l
theorem dgEq_iff {a b : Dg} : dgEq a b = true ↔ a = b := by
  unfold dgEq
  cases a
  cases b
  simp
def tabGet : List (Dg × List Int) → Dg → Option (List Int)
  | [], _ => none
  | (k, c) :: t, g => if dgEq k g = true then some c else tabGet t g
def ckOf (tab : List (Dg × List Int)) (hands : Nat) (g : Dg) : List Int := (tabGet tab g).getD (List.replicate hands 0)
def handOf : List Pl → Dg → Option Nat
  | [], _ => none
  | (k, h, _) :: t, g => if dgEq k g = true then some h else handOf t g
theorem handOf_mem {g : Dg} {h : Nat} : ∀ {l : List Pl}, handOf l g = some h → ∃ n, (g, h, n) ∈ l
  | (k, h', n) :: t, e => by
    unfold handOf at e
    by_cases c : dgEq k g = true
    · rw [if_pos c] at e
      cases e
      rw [dgEq_iff] at c
      subst c
      exact ⟨n, List.mem_cons_self ..⟩
    · rw [if_neg c] at e
      obtain ⟨n, hn⟩ := handOf_mem e
      exact ⟨n, List.mem_cons_of_mem _ hn⟩
def ckRow (h : Nat) : List Dg → Nat → List Int → List (Dg × List Int) → List (Dg × List Int)
  | [], _, _, tab => tab
  | g :: gs, n, cs, tab => if g.s then
      let c := cs.set h ((n : Int) + 1)
      ckRow h gs (n + 1) c ((g, c) :: tab)
    else match tabGet tab ⟨true, g.l⟩ with
      | none => tab
      | some sent =>
        let c := (List.zipWith mx cs sent).set h ((n : Int) + 1)
        ckRow h gs (n + 1) c ((g, c) :: tab)
def ckRows (hands : Nat) : Nat → List (List Dg) → List (Dg × List Int) → List (Dg × List Int)
  | _, [], tab => tab
  | h, gs :: r, tab => ckRows hands (h + 1) r (ckRow h gs 0 (List.replicate hands 0) tab)
def ckTab (gss : List (List Dg)) : Nat → List (Dg × List Int) → List (Dg × List Int)
  | 0, tab => tab
  | n + 1, tab => ckTab gss n (ckRows gss.length 0 gss tab)
def sumI : List Int → Int
  | [] => 0
  | x :: xs => x + sumI xs
def manyOf : List Pl → Nat
  | [] => 0
  | t :: l => max (t.1.l + 1) (manyOf l)
def memDg : List Pl → Dg → Bool
  | [], _ => false
  | t :: l, g => dgEq t.1 g || memDg l g
theorem memDg_no {g : Dg} : ∀ {l : List Pl}, memDg l g = false → g ∉ l.map (·.1)
  | [], _, h => by cases h
  | t :: l, e, h => by
    unfold memDg at e
    rw [Bool.or_eq_false_iff] at e
    rcases List.mem_cons.mp h with c | c
    · rw [c, dgEq_iff.mpr rfl] at e
      cases e.1
    · exact memDg_no e.2 c
def onceB : List Pl → Bool
  | [] => true
  | t :: l => !(memDg l t.1) && onceB l
theorem onceB_nd : ∀ {l : List Pl}, onceB l = true → (l.map (·.1)).Nodup
  | [], _ => List.nodup_nil
  | t :: l, h => by
    unfold onceB at h
    rw [Bool.and_eq_true, Bool.not_eq_true'] at h
    exact List.nodup_cons.mpr ⟨memDg_no h.1, onceB_nd h.2⟩
def rowB (hands : Nat) (Ck : Dg → List Int) (h : Nat) (gs : List Dg) : Nat → List Dg → Bool
  | _, [] => true
  | n, g :: r => decide (Ck g = (if g.s then prevC hands Ck gs n else List.zipWith mx (prevC hands Ck gs n) (Ck ⟨true, g.l⟩)).set h ((n : Int) + 1)) && rowB hands Ck h gs (n + 1) r
theorem rowB_ok {hands : Nat} {Ck : Dg → List Int} {h : Nat} {gs : List Dg} : ∀ {r : List Dg} {n : Nat}, rowB hands Ck h gs n r = true → ∀ (k : Nat) (g : Dg), r[k]? = some g → Ck g = (if g.s then prevC hands Ck gs (n + k) else List.zipWith mx (prevC hands Ck gs (n + k)) (Ck ⟨true, g.l⟩)).set h (((n + k : Nat) : Int) + 1)
  | g :: r, n, e, k, g', eg => by
    unfold rowB at e
    rw [Bool.and_eq_true] at e
    cases k with
    | zero =>
      cases eg
      exact of_decide_eq_true e.1
    | succ k =>
      have z := rowB_ok e.2 k g' (by simpa using eg)
      rw [show n + 1 + k = n + (k + 1) by omega] at z
      exact z
def rowsB (hands : Nat) (Ck : Dg → List Int) : Nat → List (List Dg) → Bool
  | _, [] => true
  | h, gs :: r => rowB hands Ck h gs 0 gs && rowsB hands Ck (h + 1) r
theorem rowsB_ok {hands : Nat} {Ck : Dg → List Int} : ∀ {r : List (List Dg)} {h : Nat}, rowsB hands Ck h r = true → ∀ (k : Nat) (gs : List Dg), r[k]? = some gs → RowCk hands Ck (h + k) gs
  | gs :: r, h, e, k, gs', eg => by
    unfold rowsB at e
    rw [Bool.and_eq_true] at e
    cases k with
    | zero =>
      cases eg
      exact fun n g en => by
        have z := rowB_ok e.1 n g en
        rw [Nat.zero_add] at z
        exact z
    | succ k =>
      have z := rowsB_ok e.2 k gs' (by simpa using eg)
      rw [show h + 1 + k = h + (k + 1) by omega] at z
      exact z
def stepB (rk : Dg → Int) : List Dg → Bool
  | g :: g' :: r => decide (0 ≤ rk g ∧ rk g < rk g') && stepB rk (g' :: r)
  | _ => true
theorem stepB_ok {rk : Dg → Int} : ∀ {gs : List Dg}, stepB rk gs = true → ∀ (n : Nat) (g g' : Dg), gs[n]? = some g → gs[n + 1]? = some g' → (rk g).toNat < (rk g').toNat
  | a :: b :: r, e, n, g, g', e1, e2 => by
    unfold stepB at e
    rw [Bool.and_eq_true] at e
    cases n with
    | zero =>
      cases e1
      cases e2
      have k := of_decide_eq_true e.1
      omega
    | succ n => exact stepB_ok e.2 n g g' (by simpa using e1) (by simpa using e2)
  | [a], e, n, g, g', e1, e2 => by
    have := (List.getElem?_eq_some_iff.mp e2).1
    simp at this
def validB (gss : List (List Dg)) (many : Nat) (S G : Nat → Nat) (tab : List (Dg × List Int)) : Bool :=
  let pl := plAll 0 gss
  let Ck := ckOf tab gss.length
  let rk := fun g => sumI (Ck g)
  decide (1 ≤ gss.length) && decide (gss.length ≤ 6) && decide (many ≤ 12) && decide (pl.length ≤ 24) && allB (fun t => decide (t.1.l < many)) pl && onceB pl
    && allB (fun l => handOf pl ⟨true, l⟩ == some (S l) && handOf pl ⟨false, l⟩ == some (G l) && !(S l == G l) && decide (0 ≤ rk ⟨true, l⟩ ∧ rk ⟨true, l⟩ < rk ⟨false, l⟩)) (upto many)
    && rowsB gss.length Ck 0 gss && allB (fun p => p.2.length == gss.length) tab && allB (stepB rk) gss
theorem tabGet_len {hands : Nat} {g : Dg} {c : List Int} : ∀ {tab : List (Dg × List Int)}, allB (fun p => p.2.length == hands) tab = true → tabGet tab g = some c → c.length = hands
  | (k, c') :: t, h, e => by
    unfold allB at h
    rw [Bool.and_eq_true] at h
    unfold tabGet at e
    by_cases d : dgEq k g = true
    · rw [if_pos d] at e
      cases e
      exact of_decide_eq_true (by simpa using h.1)
    · rw [if_neg d] at e
      exact tabGet_len h.2 e
theorem validB_ok {gss : List (List Dg)} {many : Nat} {S G : Nat → Nat} {tab : List (Dg × List Int)} (h : validB gss many S G tab = true) : Valid gss many S G (ckOf tab gss.length) := by
  unfold validB at h
  simp only [Bool.and_eq_true] at h
  obtain ⟨⟨⟨⟨⟨⟨⟨⟨⟨h1, h2⟩, h3⟩, h4⟩, h5⟩, h6⟩, h7⟩, h8⟩, h9⟩, h10⟩ := h
  have hl : ∀ l, l < many → (handOf (plAll 0 gss) ⟨true, l⟩ = some (S l) ∧ handOf (plAll 0 gss) ⟨false, l⟩ = some (G l)) ∧ S l ≠ G l ∧ 0 ≤ sumI (ckOf tab gss.length ⟨true, l⟩) ∧ sumI (ckOf tab gss.length ⟨true, l⟩) < sumI (ckOf tab gss.length ⟨false, l⟩) := fun l k => by
    have z := allB_mem h7 l (upto_mem k)
    simp only [Bool.and_eq_true, beq_iff_eq, Bool.not_eq_true', beq_eq_false_iff_ne, decide_eq_true_eq] at z
    exact ⟨z.1.1, z.1.2, z.2⟩
  refine ⟨of_decide_eq_true h1, of_decide_eq_true h2, fun t ht => of_decide_eq_true (allB_mem h5 t ht), of_decide_eq_true h3, of_decide_eq_true h4, onceB_nd h6, ⟨fun l k => handOf_mem (hl l k).1.1, fun l k => handOf_mem (hl l k).1.2, fun l k => (hl l k).2.1⟩, fun k gs e => ?_, fun g => ?_, fun g => (sumI (ckOf tab gss.length g)).toNat, fun k gs e => ?_, fun l k => ?_⟩
  · have z := rowsB_ok h8 k gs e
    rw [Nat.zero_add] at z
    exact z
  · unfold ckOf
    cases e : tabGet tab g with
    | none => exact List.length_replicate
    | some c => exact tabGet_len h9 e
  · exact stepB_ok (allB_mem h10 gs (List.mem_of_getElem? e))
  · have := (hl l k).2.2
    show (sumI _).toNat < (sumI _).toNat
    omega
def mkT (gss : List (List Dg)) : Option Val :=
  let pl := plAll 0 gss
  let many := manyOf pl
  let S := fun l => (handOf pl ⟨true, l⟩).getD 0
  let G := fun l => (handOf pl ⟨false, l⟩).getD 0
  let tab := ckTab gss (pl.length + 1) []
  if validB gss many S G tab = true then some (talkV gss many S G (ckOf tab gss.length)) else none
def f_Talk : List Val → Option Val
  | [rows] => (rowsOf rows).bind mkT
  | _ => none
theorem mkT_ok : MkOk f_Talk := fun xs z h => by
  unfold f_Talk at h
  split at h
  case h_2 => cases h
  rename_i rows
  obtain ⟨gss, e1, e2⟩ := Option.bind_eq_some_iff.mp h
  unfold mkT at e2
  simp only at e2
  split at e2
  case isFalse => cases e2
  rename_i hv
  cases e2
  exact ⟨rows, gss, _, _, _, _, rfl, e1, validB_ok hv, rfl⟩
/-- what of the text the class Talk has, to be compared -/
structure TalkQ (K : PySem.W.Frag) (C fE : Addr) : Prop extends IsTalk K C where
  hs : PySem.W.findIn K (.ref C) "__eq__" = some (some (.ref fE))
  hf : PySem.W.isFn K (.ref fE) = true
  hne : PySem.W.findIn K (.ref C) "__ne__" = some (some (.builtin "object.__ne__"))
/-- as a law writes rows -/
def tLstV (gss : List (List Dg)) : Val := .lst (gss.map fun gs => .lst (gs.map dgV))
end Up

namespace Up
open PySem PySem.Spec PyProof.Rows L2
/-- names of the text, and its class Talk -/
structure TxtV (K : PySem.W.Frag) (mg : Str → Option Value) (cm : Cm) : Prop extends TxtZ mg where
  min : mg "min" = none
  set : mg "set" = none
  sorted : mg "sorted" = none
  sum : mg "sum" = none
  cl : Cls K (cm.cls 0)
  n_rows : NoAttr K (cm.cls 0) "rows"
  n_places : NoAttr K (cm.cls 0) "places"
  n_many : NoAttr K (cm.cls 0) "many"
  n_senders : NoAttr K (cm.cls 0) "senders"
  n_getters : NoAttr K (cm.cls 0) "getters"
  n_clocks : NoAttr K (cm.cls 0) "clocks"
abbrev st_is_whole : Stmt := (topS 2)
theorem ss_is_whole : FnScope ["value"] ["value"] (defScope st_is_whole) := ⟨rfl, rfl, rfl, by decide +kernel, rfl, by decide +kernel, by decide +kernel⟩
def g_is_whole : En → Option Out := (retG (andF (isiF "int" (getE 0)) (notF (isiF "bool" (getE 0)))))
def f_is_whole : List Val → Option Val := runV 1 1 g_is_whole
theorem df_is_whole {P : Program} {w : World} {K : PySem.W.Frag} {mg : Str → Option Value} {base : Heap} {cm : Cm} {f : Addr} {fd : FuncData} (D : Dd K mg "is_whole" st_is_whole ["value"] f fd) (T : TxtV K mg cm) : Df P w K mg base cm "is_whole" 1 ["value"] f_is_whole f fd :=
  okD [] D ss_is_whole (by decide) fun cdv A outer s H E hr hu => (sv_one (sv_ret (ve_and (ve_isi (T := "int") (by rfl) T.int bt_int (by rfl) T.isinstance bb_isinstance (vv 0)) (ve_one (ve_not (ve_isi (T := "bool") (by rfl) T.bool bt_bool (by rfl) T.isinstance bb_isinstance (vv 0)))))))
abbrev st_is_index : Stmt := (topS 3)
theorem ss_is_index : FnScope ["value", "many"] ["value", "many"] (defScope st_is_index) := ⟨rfl, rfl, rfl, by decide +kernel, rfl, by decide +kernel, by decide +kernel⟩
def g_is_index : En → Option Out := (retG (andF (appF f_is_whole (consF (getE 0) noF)) (chainF (fun i j => decide (i ≤ j)) (fun i j => decide (i < j)) (cst (.int 0)) (getE 0) (getE 1))))
def f_is_index : List Val → Option Val := runV 2 2 g_is_index
theorem df_is_index {P : Program} {w : World} {K : PySem.W.Frag} {mg : Str → Option Value} {base : Heap} {cm : Cm} {f : Addr} {fd : FuncData} (D : Dd K mg "is_index" st_is_index ["value", "many"] f fd) (T : TxtV K mg cm) {fa_is_whole : Addr} {fd_is_whole : FuncData} (d_is_whole : Df P w K mg base cm "is_whole" 1 ["value"] f_is_whole fa_is_whole fd_is_whole) : Df P w K mg base cm "is_index" 2 ["value", "many"] f_is_index f fd :=
  okD [] D ss_is_index (by decide) fun cdv A outer s H E hr hu => (sv_one (sv_ret (ve_and (ve_callD d_is_whole (hr.mono (by decide)) (by rfl) (va_cons (vv 0) va_nil)) (ve_one (ve_chain (p := (fun i j => decide (i ≤ j))) (r := (fun i j => decide (i < j))) op_le op_lt ve_int (vv 0) (vv 1))))))
abbrev st_is_couple : Stmt := (topS 5)
theorem ss_is_couple : FnScope ["value"] ["value"] (defScope st_is_couple) := ⟨rfl, rfl, rfl, by decide +kernel, rfl, by decide +kernel, by decide +kernel⟩
def g_is_couple : En → Option Out := (retG (andF (isiF "tuple" (getE 0)) (bin2 (eqF false) (appF lenF (consF (getE 0) noF)) (cst (.int 2)))))
def f_is_couple : List Val → Option Val := runV 1 1 g_is_couple
theorem df_is_couple {P : Program} {w : World} {K : PySem.W.Frag} {mg : Str → Option Value} {base : Heap} {cm : Cm} {f : Addr} {fd : FuncData} (D : Dd K mg "is_couple" st_is_couple ["value"] f fd) (T : TxtV K mg cm) : Df P w K mg base cm "is_couple" 1 ["value"] f_is_couple f fd :=
  okD [] D ss_is_couple (by decide) fun cdv A outer s H E hr hu => (sv_one (sv_ret (ve_and (ve_isi (T := "tuple") (by rfl) T.tuple bt_tuple (by rfl) T.isinstance bb_isinstance (vv 0)) (ve_one (ve_cmp (op_eqD hu) ov_eq (ve_callB call_len_seq cv_len (by rfl) T.len PySem.boot_len (va_cons (vv 0) va_nil)) ve_int (nomark _))))))
abbrev st_is_doing : Stmt := (topS 6)
theorem ss_is_doing : FnScope ["value", "many", "word", "letter"] ["value", "many"] (defScope st_is_doing) := ⟨rfl, rfl, rfl, by decide +kernel, rfl, by decide +kernel, by decide +kernel⟩
def g_is_doing : En → Option Out := (seqG (ifG (notT (tst (appF f_is_couple (consF (getE 0) noF)))) (retG (cst (.bl false))) nilG) (seqG (asgG (setTup 2 (setCo (setV 2) (setCo (setV 3) setNo))) (stF [] (getE 0))) (retG (andF (isiF "str" (getE 2)) (andF (bin2 (inF false) (getE 2) (tupF (consF (cst (.str "send")) (consF (cst (.str "get")) noF)))) (appF f_is_index (consF (getE 3) (consF (getE 1) noF))))))))
def f_is_doing : List Val → Option Val := runV 4 2 g_is_doing
theorem df_is_doing {P : Program} {w : World} {K : PySem.W.Frag} {mg : Str → Option Value} {base : Heap} {cm : Cm} {f : Addr} {fd : FuncData} (D : Dd K mg "is_doing" st_is_doing ["value", "many"] f fd) (T : TxtV K mg cm) {fa_is_index : Addr} {fd_is_index : FuncData} (d_is_index : Df P w K mg base cm "is_index" 2 ["value", "many"] f_is_index fa_is_index fd_is_index) {fa_is_couple : Addr} {fd_is_couple : FuncData} (d_is_couple : Df P w K mg base cm "is_couple" 1 ["value"] f_is_couple fa_is_couple fd_is_couple) : Df P w K mg base cm "is_doing" 3 ["value", "many"] f_is_doing f fd :=
  okD [] D ss_is_doing (by decide) fun cdv A outer s H E hr hu => (sv_cons (sv_if (vt_not (vt_val (ve_callD d_is_couple (hr.mono (by decide)) (by rfl) (va_cons (vv 0) va_nil)))) (sv_one (sv_ret ve_bl)) sv_nil) (sv_cons (sv_asg (vv 0) sr_st (pg_tup (n := 2) (by rfl) (pgs_cons (pg_name (i := 2) ss_is_doing.nd rfl (Or.inl rfl)) (pgs_cons (pg_name (i := 3) ss_is_doing.nd rfl (Or.inl rfl)) pgs_nil))) (tg_tup (tgs_cons tg_name (tgs_cons tg_name tgs_nil))) (by decide)) (sv_one (sv_ret (ve_and (ve_isi (T := "str") (by rfl) T.str bt_str (by rfl) T.isinstance bb_isinstance (vv 2)) (ve_and (ve_cmp op_in_seq (ov_in (neg := false)) (vv 2) (ve_tup (va_cons ve_str (va_cons ve_str va_nil))) (by rfl)) (ve_one (ve_callD d_is_index (hr.mono (by decide)) (by rfl) (va_cons (vv 3) (va_cons (vv 1) va_nil))))))))))
abbrev st_check_doing : Stmt := (topS 23)
theorem ss_check_doing : FnScope ["talk", "value"] ["talk", "value"] (defScope st_check_doing) := ⟨rfl, rfl, rfl, by decide +kernel, rfl, by decide +kernel, by decide +kernel⟩
def g_check_doing : En → Option Out := (ifG (notT (tst (appF f_is_doing (consF (getE 1) (consF (fldF 0 "many" (getE 0)) noF))))) nevG nilG)
def f_check_doing : List Val → Option Val := runV 2 2 g_check_doing
theorem df_check_doing {P : Program} {w : World} {K : PySem.W.Frag} {mg : Str → Option Value} {base : Heap} {cm : Cm} {f : Addr} {fd : FuncData} (D : Dd K mg "check_doing" st_check_doing ["talk", "value"] f fd) (T : TxtV K mg cm) {fa_is_doing : Addr} {fd_is_doing : FuncData} (d_is_doing : Df P w K mg base cm "is_doing" 3 ["value", "many"] f_is_doing fa_is_doing fd_is_doing) : Df P w K mg base cm "check_doing" 4 ["talk", "value"] f_check_doing f fd :=
  okD [] D ss_check_doing (by decide) fun cdv A outer s H E hr hu => (sv_one (sv_if (vt_not (vt_val (ve_callD d_is_doing (hr.mono (by decide)) (by rfl) (va_cons (vv 1) (va_cons (ve_fld (c := 0) T.cl T.n_many (vv 0) rfl) va_nil))))) (sv_one sv_never) sv_nil))
abbrev st_is_ahead : Stmt := (topS 24)
theorem ss_is_ahead : FnScope ["talk", "one", "other", "hand", "number"] ["talk", "one", "other"] (defScope st_is_ahead) := ⟨rfl, rfl, rfl, by decide +kernel, rfl, by decide +kernel, by decide +kernel⟩
def g_is_ahead : En → Option Out := (seqG (doG (appF f_check_doing (consF (getE 0) (consF (getE 1) noF)))) (seqG (doG (appF f_check_doing (consF (getE 0) (consF (getE 2) noF)))) (seqG (asgG (setTup 2 (setCo (setV 3) (setCo (setV 4) setNo))) (stF [] (bin2 ixD (fldF 0 "places" (getE 0)) (getE 1)))) (retG (andF (bin2 (eqF true) (getE 1) (getE 2)) (bin2 (iop fun i j => .bl (decide (j < i))) (bin2 ixT (bin2 ixD (fldF 0 "clocks" (getE 0)) (getE 2)) (getE 3)) (getE 4)))))))
def f_is_ahead : List Val → Option Val := runV 5 3 g_is_ahead
theorem df_is_ahead {P : Program} {w : World} {K : PySem.W.Frag} {mg : Str → Option Value} {base : Heap} {cm : Cm} {f : Addr} {fd : FuncData} (D : Dd K mg "is_ahead" st_is_ahead ["talk", "one", "other"] f fd) (T : TxtV K mg cm) {fa_check_doing : Addr} {fd_check_doing : FuncData} (d_check_doing : Df P w K mg base cm "check_doing" 4 ["talk", "value"] f_check_doing fa_check_doing fd_check_doing) : Df P w K mg base cm "is_ahead" 5 ["talk", "one", "other"] f_is_ahead f fd :=
  okD [] D ss_is_ahead (by decide) fun cdv A outer s H E hr hu => (sv_cons (sv_do (ve_callD d_check_doing (hr.mono (by decide)) (by rfl) (va_cons (vv 0) (va_cons (vv 1) va_nil)))) (sv_cons (sv_do (ve_callD d_check_doing (hr.mono (by decide)) (by rfl) (va_cons (vv 0) (va_cons (vv 2) va_nil)))) (sv_cons (sv_asg (ve_dget (Nat.lt_of_le_of_lt (Nat.add_le_add_left (by decide : 1 ≤ 64) _) hu) (ve_fld (c := 0) T.cl T.n_places (vv 0) rfl) (vv 1) (fun _ _ => rfl)) sr_st (pg_tup (n := 2) (by rfl) (pgs_cons (pg_name (i := 3) ss_is_ahead.nd rfl (Or.inl rfl)) (pgs_cons (pg_name (i := 4) ss_is_ahead.nd rfl (Or.inl rfl)) pgs_nil))) (tg_tup (tgs_cons tg_name (tgs_cons tg_name tgs_nil))) (by decide)) (sv_one (sv_ret (ve_and (ve_cmp (op_neD hu) ov_ne (vv 1) (vv 2) (nomark _)) (ve_one (ve_cmp op_gt ov_gt (ve_ix ix_tup ov_ixT (ve_dget (Nat.lt_of_le_of_lt (Nat.add_le_add_left (by decide : 1 ≤ 64) _) hu) (ve_fld (c := 0) T.cl T.n_clocks (vv 0) rfl) (vv 2) (fun _ _ => rfl)) (vv 3) (fun _ _ => rfl)) (vv 4) (nomark _)))))))))
abbrev st_clock : Stmt := (topS 25)
theorem ss_clock : FnScope ["talk", "doing"] ["talk", "doing"] (defScope st_clock) := ⟨rfl, rfl, rfl, by decide +kernel, rfl, by decide +kernel, by decide +kernel⟩
def g_clock : En → Option Out := (seqG (doG (appF f_check_doing (consF (getE 0) (consF (getE 1) noF)))) (retG (bin2 ixD (fldF 0 "clocks" (getE 0)) (getE 1))))
def f_clock : List Val → Option Val := runV 2 2 g_clock
theorem df_clock {P : Program} {w : World} {K : PySem.W.Frag} {mg : Str → Option Value} {base : Heap} {cm : Cm} {f : Addr} {fd : FuncData} (D : Dd K mg "clock" st_clock ["talk", "doing"] f fd) (T : TxtV K mg cm) {fa_check_doing : Addr} {fd_check_doing : FuncData} (d_check_doing : Df P w K mg base cm "check_doing" 4 ["talk", "value"] f_check_doing fa_check_doing fd_check_doing) : Df P w K mg base cm "clock" 5 ["talk", "doing"] f_clock f fd :=
  okD [] D ss_clock (by decide) fun cdv A outer s H E hr hu => (sv_cons (sv_do (ve_callD d_check_doing (hr.mono (by decide)) (by rfl) (va_cons (vv 0) (va_cons (vv 1) va_nil)))) (sv_one (sv_ret (ve_dget (Nat.lt_of_le_of_lt (Nat.add_le_add_left (by decide : 1 ≤ 64) _) hu) (ve_fld (c := 0) T.cl T.n_clocks (vv 0) rfl) (vv 1) (fun _ _ => rfl)))))
abbrev st_row_steps : Stmt := (topS 31)
theorem ss_row_steps : FnScope ["talk", "row", "one", "other"] ["talk"] (defScope st_row_steps) := ⟨rfl, rfl, rfl, by decide +kernel, rfl, by decide +kernel, by decide +kernel⟩
def g_row_steps : En → Option Out := (retG (fun env => ((lc2F (itT (fldF 0 "rows" (getE 0))) (setV 1) yesF (zipA (consF (getE 1) (consF (slF cutTA (getE 1) (partF (cst (.int 1))) noPart) noF))) (setTup 2 (setCo (setV 2) (setCo (setV 3) setNo))) yesF (tupF (consF (bin2 ixT (getE 2) (cst (.int 1))) (consF (bin2 ixT (getE 3) (cst (.int 1))) noF))) [1, 2, 3] [2, 3]) env).map .lst))
def f_row_steps : List Val → Option Val := runV 4 1 g_row_steps
theorem df_row_steps {P : Program} {w : World} {K : PySem.W.Frag} {mg : Str → Option Value} {base : Heap} {cm : Cm} {f : Addr} {fd : FuncData} (D : Dd K mg "row_steps" st_row_steps ["talk"] f fd) (T : TxtV K mg cm) : Df P w K mg base cm "row_steps" 1 ["talk"] f_row_steps f fd :=
  okD [] D ss_row_steps (by decide) fun cdv A outer s H E hr hu => (sv_one (sv_ret (vn_ve (vn_lc2 (own := [("row", 1), ("one", 2), ("other", 3)]) rfl ss_row_steps.nd (vi_tup (ve_fld (c := 0) T.cl T.n_rows (vv 0) rfl)) (blkOk_by (own := [("row", 1), ("one", 2), ("other", 3)]) (N := ["talk", "row", "one", "other"]) (sc := defScope st_row_steps) (by decide +kernel)) (vs1 := [2, 3]) (by decide) (fun _ _ _ _ _ => (pg_name (i := 1) ss_row_steps.nd rfl (Or.inl rfl))) (fun _ _ _ _ _ => pts_nil) (fun _ _ _ _ _ => (vi_zip (by rfl) T.zip (va_cons (vv 1) (va_cons (ve_slice sl_tupA vs_tupA (vv 1) (vo_some ve_int) vo_none) va_nil)))) (fun _ _ _ _ _ => (pg_tupK (K := K) (n := 2) rfl (by rfl) (pgs_cons (pg_name (i := 2) ss_row_steps.nd rfl (Or.inl rfl)) (pgs_cons (pg_name (i := 3) ss_row_steps.nd rfl (Or.inl rfl)) pgs_nil)))) (fun _ _ _ _ _ => pts_nil) (fun _ _ _ _ _ => (ve_tup (va_cons (ve_ix ix_tup ov_ixT (vv 2) ve_int (fun _ _ => rfl)) (va_cons (ve_ix ix_tup ov_ixT (vv 3) ve_int (fun _ _ => rfl)) va_nil)))) tg_name (by decide) tt_yes (tg_tup (K := K) (tgs_cons tg_name (tgs_cons tg_name tgs_nil))) (by decide) tt_yes))))
abbrev st_risen_moments : Stmt := (topS 32)
theorem ss_risen_moments : FnScope ["steps", "least", "risen", "one", "other"] ["steps", "least"] (defScope st_risen_moments) := ⟨rfl, rfl, rfl, by decide +kernel, rfl, by decide +kernel, by decide +kernel⟩
def g_risen_moments : En → Option Out := (seqG (newG 2 (stN [2] (fun env => ((getE 1) env).bind fun y => (itemsOf y).bind fun xs => if xs.length ≤ most then some xs else none))) (seqG (forG [2] (itL (getE 0)) (setTup 2 (setCo (setV 3) (setCo (setV 4) setNo))) (putG 2 (getE 4) (boF (appF max2F (consF (bin2 ixL (getE 2) (getE 4)) (consF (bin2 (iop fun i j => .int (i + j)) (bin2 ixL (getE 2) (getE 3)) (cst (.int 1))) noF)))))) (retG (getE 2))))
def f_risen_moments : List Val → Option Val := runV 5 2 g_risen_moments
theorem df_risen_moments {P : Program} {w : World} {K : PySem.W.Frag} {mg : Str → Option Value} {base : Heap} {cm : Cm} {f : Addr} {fd : FuncData} (D : Dd K mg "risen_moments" st_risen_moments ["steps", "least"] f fd) (T : TxtV K mg cm) : Df P w K mg base cm "risen_moments" 1 ["steps", "least"] f_risen_moments f fd :=
  okD [2] D ss_risen_moments (by decide) fun cdv A outer s H E hr hu => (sv_cons (sv_new (i := 2) ss_risen_moments.nd rfl (Or.inl rfl) (by decide) (vn_list (by rfl) T.list bt_list (vv 1)) sn_st) (sv_cons (sv_for PassesOwn.never rfl (vi_list (vv 0)) (pg_tup (n := 2) (by rfl) (pgs_cons (pg_name (i := 3) ss_risen_moments.nd rfl (Or.inl rfl)) (pgs_cons (pg_name (i := 4) ss_risen_moments.nd rfl (Or.inl rfl)) pgs_nil))) (sv_one (sv_put0 (i := 2) (ps_asg (ve_callB (call_max2 rfl) cv_max2 (by rfl) T.max bb_max (va_cons (ve_ix ix_list ov_ixL (vv 2) (vv 4) (fun _ _ => rfl)) (va_cons (ve_op op_add ov_add (ve_ix ix_list ov_ixL (vv 2) (vv 3) (fun _ _ => rfl)) ve_int) va_nil))) (pg_sub (pv 2) (vv 4) set_list)) (by decide) sr_bo)) (tg_tup (tgs_cons tg_name (tgs_cons tg_name tgs_nil))) (by decide)) (sv_one (sv_ret (vv 2)))))
abbrev st_moments : Stmt := (topS 30)
theorem ss_moments : FnScope ["talk", "steps", "least", "turn", "risen"] ["talk"] (defScope st_moments) := ⟨rfl, rfl, rfl, by decide +kernel, rfl, by decide +kernel, by decide +kernel⟩
def g_moments : En → Option Out := (seqG (setG 1 (stF [] (appF f_row_steps (consF (getE 0) noF)))) (seqG (setG 2 (stF [] (fun env => ((repN (cst (.int 0)) (fldF 0 "many" (getE 0))) env).map .lst))) (seqG (forG [] (rng1 (consF (bin2 (iop fun i j => .int (i + j)) (fldF 0 "many" (getE 0)) (cst (.int 1))) noF)) (setV 3) (seqG (setG 4 (stF [] (appF f_risen_moments (consF (getE 1) (consF (getE 2) noF))))) (seqG (ifG (tst (bin2 (eqF false) (getE 4) (getE 2))) (retG (appF tupleF (consF (getE 2) noF))) nilG) (setG 2 (stF [] (getE 4)))))) (retG (cst .non)))))
def f_moments : List Val → Option Val := runV 5 1 g_moments
theorem df_moments {P : Program} {w : World} {K : PySem.W.Frag} {mg : Str → Option Value} {base : Heap} {cm : Cm} {f : Addr} {fd : FuncData} (D : Dd K mg "moments" st_moments ["talk"] f fd) (T : TxtV K mg cm) {fa_risen_moments : Addr} {fd_risen_moments : FuncData} (d_risen_moments : Df P w K mg base cm "risen_moments" 1 ["steps", "least"] f_risen_moments fa_risen_moments fd_risen_moments) {fa_row_steps : Addr} {fd_row_steps : FuncData} (d_row_steps : Df P w K mg base cm "row_steps" 1 ["talk"] f_row_steps fa_row_steps fd_row_steps) : Df P w K mg base cm "moments" 2 ["talk"] f_moments f fd :=
  okD [] D ss_moments (by decide) fun cdv A outer s H E hr hu => (sv_cons (sv_set (i := 1) ss_moments.nd rfl (Or.inl rfl) (by decide) (ve_callD d_row_steps (hr.mono (by decide)) (by rfl) (va_cons (vv 0) va_nil)) sr_st) (sv_cons (sv_set (i := 2) ss_moments.nd rfl (Or.inl rfl) (by decide) (vn_ve (vn_rep ve_int (ve_fld (c := 0) T.cl T.n_many (vv 0) rfl))) sr_st) (sv_cons (sv_for PassesOwn.never rfl (vi_range1 (by rfl) T.range (va_cons (ve_op op_add ov_add (ve_fld (c := 0) T.cl T.n_many (vv 0) rfl) ve_int) va_nil)) (pg_name (i := 3) ss_moments.nd rfl (Or.inl rfl)) (sv_cons (sv_set (i := 4) ss_moments.nd rfl (Or.inl rfl) (by decide) (ve_callD d_risen_moments (hr.mono (by decide)) (by rfl) (va_cons (vv 1) (va_cons (vv 2) va_nil))) sr_st) (sv_cons (sv_if (vt_cmp (op_eqD hu) ov_eq (vv 4) (vv 2) (nomark _)) (sv_one (sv_ret (ve_callTy call_tuple_of cv_tuple (by rfl) T.tuple bt_tuple (va_cons (vv 2) va_nil)))) sv_nil) (sv_one (sv_set (i := 2) ss_moments.nd rfl (Or.inl rfl) (by decide) (vv 4) sr_st)))) tg_name (by decide)) (sv_one (sv_ret ve_non)))))
abbrev st_is_upright : Stmt := (topS 29)
theorem ss_is_upright : FnScope ["talk"] ["talk"] (defScope st_is_upright) := ⟨rfl, rfl, rfl, by decide +kernel, rfl, by decide +kernel, by decide +kernel⟩
def g_is_upright : En → Option Out := (retG (bin2 (isNV true) (appF f_moments (consF (getE 0) noF)) (cst .non)))
def f_is_upright : List Val → Option Val := runV 1 1 g_is_upright
theorem df_is_upright {P : Program} {w : World} {K : PySem.W.Frag} {mg : Str → Option Value} {base : Heap} {cm : Cm} {f : Addr} {fd : FuncData} (D : Dd K mg "is_upright" st_is_upright ["talk"] f fd) (T : TxtV K mg cm) {fa_moments : Addr} {fd_moments : FuncData} (d_moments : Df P w K mg base cm "moments" 2 ["talk"] f_moments fa_moments fd_moments) : Df P w K mg base cm "is_upright" 3 ["talk"] f_is_upright f fd :=
  okD [] D ss_is_upright (by decide) fun cdv A outer s H E hr hu => (sv_one (sv_ret (ve_cmp op_notN ov_notN (ve_callD d_moments (hr.mono (by decide)) (by rfl) (va_cons (vv 0) va_nil)) ve_non (nomark _))))
abbrev st_is_crown_step : Stmt := (topS 35)
theorem ss_is_crown_step : FnScope ["talk", "one", "other"] ["talk", "one", "other"] (defScope st_is_crown_step) := ⟨rfl, rfl, rfl, by decide +kernel, rfl, by decide +kernel, by decide +kernel⟩
def g_is_crown_step : En → Option Out := (retG (appF f_is_ahead (consF (getE 0) (consF (tupF (consF (cst (.str "send")) (consF (getE 1) noF))) (consF (tupF (consF (cst (.str "get")) (consF (getE 2) noF))) noF)))))
def f_is_crown_step : List Val → Option Val := runV 3 3 g_is_crown_step
theorem df_is_crown_step {P : Program} {w : World} {K : PySem.W.Frag} {mg : Str → Option Value} {base : Heap} {cm : Cm} {f : Addr} {fd : FuncData} (D : Dd K mg "is_crown_step" st_is_crown_step ["talk", "one", "other"] f fd) (T : TxtV K mg cm) {fa_is_ahead : Addr} {fd_is_ahead : FuncData} (d_is_ahead : Df P w K mg base cm "is_ahead" 5 ["talk", "one", "other"] f_is_ahead fa_is_ahead fd_is_ahead) : Df P w K mg base cm "is_crown_step" 6 ["talk", "one", "other"] f_is_crown_step f fd :=
  okD [] D ss_is_crown_step (by decide) fun cdv A outer s H E hr hu => (sv_one (sv_ret (ve_callD d_is_ahead (hr.mono (by decide)) (by rfl) (va_cons (vv 0) (va_cons (ve_tup (va_cons ve_str (va_cons (vv 1) va_nil))) (va_cons (ve_tup (va_cons ve_str (va_cons (vv 2) va_nil))) va_nil))))))
abbrev st_crown_nexts : Stmt := (topS 34)
theorem ss_crown_nexts : FnScope ["talk", "letter", "other"] ["talk", "letter"] (defScope st_crown_nexts) := ⟨rfl, rfl, rfl, by decide +kernel, rfl, by decide +kernel, by decide +kernel⟩
def g_crown_nexts : En → Option Out := (retG (fun env => ((lcF (rng1 (consF (fldF 0 "many" (getE 0)) noF)) (setV 2) (andT (tst (bin2 (eqF true) (getE 2) (getE 1))) (tst (appF f_is_crown_step (consF (getE 0) (consF (getE 1) (consF (getE 2) noF)))))) (getE 2) [2]) env).map .lst))
def f_crown_nexts : List Val → Option Val := runV 3 2 g_crown_nexts
theorem df_crown_nexts {P : Program} {w : World} {K : PySem.W.Frag} {mg : Str → Option Value} {base : Heap} {cm : Cm} {f : Addr} {fd : FuncData} (D : Dd K mg "crown_nexts" st_crown_nexts ["talk", "letter"] f fd) (T : TxtV K mg cm) {fa_is_crown_step : Addr} {fd_is_crown_step : FuncData} (d_is_crown_step : Df P w K mg base cm "is_crown_step" 6 ["talk", "one", "other"] f_is_crown_step fa_is_crown_step fd_is_crown_step) : Df P w K mg base cm "crown_nexts" 7 ["talk", "letter"] f_crown_nexts f fd :=
  okD [] D ss_crown_nexts (by decide) fun cdv A outer s H E hr hu => (sv_one (sv_ret (vn_ve (vn_lc (own := [("other", 2)]) rfl ss_crown_nexts.nd (vi_range1 (by rfl) T.range (va_cons (ve_fld (c := 0) T.cl T.n_many (vv 0) rfl) va_nil)) (blkOk_by (own := [("other", 2)]) (N := ["talk", "letter", "other"]) (sc := defScope st_crown_nexts) (by decide +kernel)) (fun _ _ _ _ _ => (pg_name (i := 2) ss_crown_nexts.nd rfl (Or.inl rfl))) (fun _ _ _ _ _ => (pts_one (PW.pt (vw_and (vt_cmp (op_neD hu) ov_ne (vv 2) (vv 1) (nomark _)) (vw_and1 (vt_val (ve_callD d_is_crown_step (hr.mono (by decide)) (by rfl) (va_cons (vv 0) (va_cons (vv 1) (va_cons (vv 2) va_nil)))))))))) (fun _ _ _ _ _ => (vv 2)) tg_name (by decide) tt_of))))
abbrev st_is_break : Stmt := (topS 43)
theorem ss_is_break : FnScope ["talk", "one", "other"] ["talk", "one", "other"] (defScope st_is_break) := ⟨rfl, rfl, rfl, by decide +kernel, rfl, by decide +kernel, by decide +kernel⟩
def g_is_break : En → Option Out := (retG (andF (bin2 (eqF false) (bin2 ixT (fldF 0 "getters" (getE 0)) (getE 1)) (bin2 ixT (fldF 0 "getters" (getE 0)) (getE 2))) (andF (appF f_is_ahead (consF (getE 0) (consF (tupF (consF (cst (.str "send")) (consF (getE 1) noF))) (consF (tupF (consF (cst (.str "send")) (consF (getE 2) noF))) noF)))) (appF f_is_ahead (consF (getE 0) (consF (tupF (consF (cst (.str "get")) (consF (getE 2) noF))) (consF (tupF (consF (cst (.str "get")) (consF (getE 1) noF))) noF)))))))
def f_is_break : List Val → Option Val := runV 3 3 g_is_break
theorem df_is_break {P : Program} {w : World} {K : PySem.W.Frag} {mg : Str → Option Value} {base : Heap} {cm : Cm} {f : Addr} {fd : FuncData} (D : Dd K mg "is_break" st_is_break ["talk", "one", "other"] f fd) (T : TxtV K mg cm) {fa_is_ahead : Addr} {fd_is_ahead : FuncData} (d_is_ahead : Df P w K mg base cm "is_ahead" 5 ["talk", "one", "other"] f_is_ahead fa_is_ahead fd_is_ahead) : Df P w K mg base cm "is_break" 6 ["talk", "one", "other"] f_is_break f fd :=
  okD [] D ss_is_break (by decide) fun cdv A outer s H E hr hu => (sv_one (sv_ret (ve_and (ve_cmp (op_eqD hu) ov_eq (ve_ix ix_tup ov_ixT (ve_fld (c := 0) T.cl T.n_getters (vv 0) rfl) (vv 1) (fun _ _ => rfl)) (ve_ix ix_tup ov_ixT (ve_fld (c := 0) T.cl T.n_getters (vv 0) rfl) (vv 2) (fun _ _ => rfl)) (nomark _)) (ve_and (ve_callD d_is_ahead (hr.mono (by decide)) (by rfl) (va_cons (vv 0) (va_cons (ve_tup (va_cons ve_str (va_cons (vv 1) va_nil))) (va_cons (ve_tup (va_cons ve_str (va_cons (vv 2) va_nil))) va_nil)))) (ve_one (ve_callD d_is_ahead (hr.mono (by decide)) (by rfl) (va_cons (vv 0) (va_cons (ve_tup (va_cons ve_str (va_cons (vv 2) va_nil))) (va_cons (ve_tup (va_cons ve_str (va_cons (vv 1) va_nil))) va_nil)))))))))
abbrev st_breaks : Stmt := (topS 42)
theorem ss_breaks : FnScope ["talk", "pairs", "one", "other"] ["talk"] (defScope st_breaks) := ⟨rfl, rfl, rfl, by decide +kernel, rfl, by decide +kernel, by decide +kernel⟩
def g_breaks : En → Option Out := (seqG (setG 1 (fun env => ((stN [] (lc2F (rng1 (consF (fldF 0 "many" (getE 0)) noF)) (setV 2) yesF (rng1 (consF (fldF 0 "many" (getE 0)) noF)) (setV 3) yesF (tupF (consF (getE 2) (consF (getE 3) noF))) [2, 3] [3])) env).map .lst)) (retG (fun env => ((lcF (itL (getE 1)) (setTup 2 (setCo (setV 2) (setCo (setV 3) setNo))) (tst (appF f_is_break (consF (getE 0) (consF (getE 2) (consF (getE 3) noF))))) (tupF (consF (getE 2) (consF (getE 3) noF))) [2, 3]) env).map .lst)))
def f_breaks : List Val → Option Val := runV 4 1 g_breaks
theorem df_breaks {P : Program} {w : World} {K : PySem.W.Frag} {mg : Str → Option Value} {base : Heap} {cm : Cm} {f : Addr} {fd : FuncData} (D : Dd K mg "breaks" st_breaks ["talk"] f fd) (T : TxtV K mg cm) {fa_is_break : Addr} {fd_is_break : FuncData} (d_is_break : Df P w K mg base cm "is_break" 6 ["talk", "one", "other"] f_is_break fa_is_break fd_is_break) : Df P w K mg base cm "breaks" 7 ["talk"] f_breaks f fd :=
  okD [] D ss_breaks (by decide) fun cdv A outer s H E hr hu => (sv_cons (sv_setLc2 (i := 1) (own := [("one", 2), ("other", 3)]) rfl ss_breaks.nd rfl rfl (sw_true rfl rfl rfl (by decide +kernel)) (vi_range1 (by rfl) T.range (va_cons (ve_fld (c := 0) T.cl T.n_many (vv 0) rfl) va_nil)) (blkOk_by (own := [("one", 2), ("other", 3)]) (N := ["talk", "pairs", "one", "other"]) (sc := defScope st_breaks) (by decide +kernel)) (vs1 := [3]) (by decide) (fun _ _ _ _ _ => (pg_name (i := 2) ss_breaks.nd rfl (Or.inl rfl))) (fun _ _ _ _ _ => pts_nil) (fun _ _ _ _ _ => (vi_range1 (by rfl) T.range (va_cons (ve_fld (c := 0) T.cl T.n_many (vv 0) rfl) va_nil))) (fun _ _ _ _ _ => (pg_name (i := 3) ss_breaks.nd rfl (Or.inl rfl))) (fun _ _ _ _ _ => pts_nil) (fun _ _ _ _ _ => (ve_tup (va_cons (vv 2) (va_cons (vv 3) va_nil)))) tg_name (by decide) tt_yes tg_name (by decide) tt_yes (by decide) sn_st) (sv_one (sv_ret (vn_ve (vn_lc (own := [("one", 2), ("other", 3)]) rfl ss_breaks.nd (vi_list (vv 1)) (blkOk_by (own := [("one", 2), ("other", 3)]) (N := ["talk", "pairs", "one", "other"]) (sc := defScope st_breaks) (by decide +kernel)) (fun _ _ _ _ _ => (pg_tupK (K := K) (n := 2) rfl (by rfl) (pgs_cons (pg_name (i := 2) ss_breaks.nd rfl (Or.inl rfl)) (pgs_cons (pg_name (i := 3) ss_breaks.nd rfl (Or.inl rfl)) pgs_nil)))) (fun _ _ _ _ _ => (pts_one (vt_val (ve_callD d_is_break (hr.mono (by decide)) (by rfl) (va_cons (vv 0) (va_cons (vv 2) (va_cons (vv 3) va_nil))))))) (fun _ _ _ _ _ => (ve_tup (va_cons (vv 2) (va_cons (vv 3) va_nil)))) (tg_tup (K := K) (tgs_cons tg_name (tgs_cons tg_name tgs_nil))) (by decide) tt_of)))))
abbrev st_first_of : Stmt := (topS 46)
theorem ss_first_of : FnScope ["found"] ["found"] (defScope st_first_of) := ⟨rfl, rfl, rfl, by decide +kernel, rfl, by decide +kernel, by decide +kernel⟩
def g_first_of : En → Option Out := (seqG (ifG (tst (bin2 (eqF false) (appF lenF (consF (getE 0) noF)) (cst (.int 0)))) (retG (cst .non)) nilG) (retG (bin2 ixL (getE 0) (cst (.int 0)))))
def f_first_of : List Val → Option Val := runV 1 1 g_first_of
theorem df_first_of {P : Program} {w : World} {K : PySem.W.Frag} {mg : Str → Option Value} {base : Heap} {cm : Cm} {f : Addr} {fd : FuncData} (D : Dd K mg "first_of" st_first_of ["found"] f fd) (T : TxtV K mg cm) : Df P w K mg base cm "first_of" 1 ["found"] f_first_of f fd :=
  okD [] D ss_first_of (by decide) fun cdv A outer s H E hr hu => (sv_cons (sv_if (vt_cmp (op_eqD hu) ov_eq (ve_callB call_len_seq cv_len (by rfl) T.len PySem.boot_len (va_cons (vv 0) va_nil)) ve_int (nomark _)) (sv_one (sv_ret ve_non)) sv_nil) (sv_one (sv_ret (ve_ix ix_list ov_ixL (vv 0) ve_int (fun _ _ => rfl)))))
abbrev st_causal_break : Stmt := (topS 44)
theorem ss_causal_break : FnScope ["talk"] ["talk"] (defScope st_causal_break) := ⟨rfl, rfl, rfl, by decide +kernel, rfl, by decide +kernel, by decide +kernel⟩
def g_causal_break : En → Option Out := (retG (appF f_first_of (consF (appF f_breaks (consF (getE 0) noF)) noF)))
def f_causal_break : List Val → Option Val := runV 1 1 g_causal_break
theorem df_causal_break {P : Program} {w : World} {K : PySem.W.Frag} {mg : Str → Option Value} {base : Heap} {cm : Cm} {f : Addr} {fd : FuncData} (D : Dd K mg "causal_break" st_causal_break ["talk"] f fd) (T : TxtV K mg cm) {fa_breaks : Addr} {fd_breaks : FuncData} (d_breaks : Df P w K mg base cm "breaks" 7 ["talk"] f_breaks fa_breaks fd_breaks) {fa_first_of : Addr} {fd_first_of : FuncData} (d_first_of : Df P w K mg base cm "first_of" 1 ["found"] f_first_of fa_first_of fd_first_of) : Df P w K mg base cm "causal_break" 8 ["talk"] f_causal_break f fd :=
  okD [] D ss_causal_break (by decide) fun cdv A outer s H E hr hu => (sv_one (sv_ret (ve_callD d_first_of (hr.mono (by decide)) (by rfl) (va_cons (ve_callD d_breaks (hr.mono (by decide)) (by rfl) (va_cons (vv 0) va_nil)) va_nil))))
abbrev st_single_break : Stmt := (topS 45)
theorem ss_single_break : FnScope ["talk", "one", "other"] ["talk"] (defScope st_single_break) := ⟨rfl, rfl, rfl, by decide +kernel, rfl, by decide +kernel, by decide +kernel⟩
def g_single_break : En → Option Out := (retG (appF f_first_of (consF (fun env => ((lcF (itL (appF f_breaks (consF (getE 0) noF))) (setTup 2 (setCo (setV 1) (setCo (setV 2) setNo))) (tst (bin2 (eqF false) (bin2 ixT (fldF 0 "senders" (getE 0)) (getE 1)) (bin2 ixT (fldF 0 "senders" (getE 0)) (getE 2)))) (tupF (consF (getE 1) (consF (getE 2) noF))) [1, 2]) env).map .lst) noF)))
def f_single_break : List Val → Option Val := runV 3 1 g_single_break
theorem df_single_break {P : Program} {w : World} {K : PySem.W.Frag} {mg : Str → Option Value} {base : Heap} {cm : Cm} {f : Addr} {fd : FuncData} (D : Dd K mg "single_break" st_single_break ["talk"] f fd) (T : TxtV K mg cm) {fa_breaks : Addr} {fd_breaks : FuncData} (d_breaks : Df P w K mg base cm "breaks" 7 ["talk"] f_breaks fa_breaks fd_breaks) {fa_first_of : Addr} {fd_first_of : FuncData} (d_first_of : Df P w K mg base cm "first_of" 1 ["found"] f_first_of fa_first_of fd_first_of) : Df P w K mg base cm "single_break" 8 ["talk"] f_single_break f fd :=
  okD [] D ss_single_break (by decide) fun cdv A outer s H E hr hu => (sv_one (sv_ret (ve_callD d_first_of (hr.mono (by decide)) (by rfl) (va_cons (vn_ve (vn_lc (own := [("one", 1), ("other", 2)]) rfl ss_single_break.nd (vi_list (ve_callD d_breaks (hr.mono (by decide)) (by rfl) (va_cons (vv 0) va_nil))) (blkOk_by (own := [("one", 1), ("other", 2)]) (N := ["talk", "one", "other"]) (sc := defScope st_single_break) (by decide +kernel)) (fun _ _ _ _ _ => (pg_tupK (K := K) (n := 2) rfl (by rfl) (pgs_cons (pg_name (i := 1) ss_single_break.nd rfl (Or.inl rfl)) (pgs_cons (pg_name (i := 2) ss_single_break.nd rfl (Or.inl rfl)) pgs_nil)))) (fun _ _ _ _ _ => (pts_one (vt_cmp (op_eqD hu) ov_eq (ve_ix ix_tup ov_ixT (ve_fld (c := 0) T.cl T.n_senders (vv 0) rfl) (vv 1) (fun _ _ => rfl)) (ve_ix ix_tup ov_ixT (ve_fld (c := 0) T.cl T.n_senders (vv 0) rfl) (vv 2) (fun _ _ => rfl)) (nomark _)))) (fun _ _ _ _ _ => (ve_tup (va_cons (vv 1) (va_cons (vv 2) va_nil)))) (tg_tup (K := K) (tgs_cons tg_name (tgs_cons tg_name tgs_nil))) (by decide) tt_of)) va_nil))))
abbrev st_is_causal : Stmt := (topS 47)
theorem ss_is_causal : FnScope ["talk"] ["talk"] (defScope st_is_causal) := ⟨rfl, rfl, rfl, by decide +kernel, rfl, by decide +kernel, by decide +kernel⟩
def g_is_causal : En → Option Out := (retG (bin2 (isNV false) (appF f_causal_break (consF (getE 0) noF)) (cst .non)))
def f_is_causal : List Val → Option Val := runV 1 1 g_is_causal
theorem df_is_causal {P : Program} {w : World} {K : PySem.W.Frag} {mg : Str → Option Value} {base : Heap} {cm : Cm} {f : Addr} {fd : FuncData} (D : Dd K mg "is_causal" st_is_causal ["talk"] f fd) (T : TxtV K mg cm) {fa_causal_break : Addr} {fd_causal_break : FuncData} (d_causal_break : Df P w K mg base cm "causal_break" 8 ["talk"] f_causal_break fa_causal_break fd_causal_break) : Df P w K mg base cm "is_causal" 9 ["talk"] f_is_causal f fd :=
  okD [] D ss_is_causal (by decide) fun cdv A outer s H E hr hu => (sv_one (sv_ret (ve_cmp op_isN ov_isN (ve_callD d_causal_break (hr.mono (by decide)) (by rfl) (va_cons (vv 0) va_nil)) ve_non (nomark _))))
abbrev st_is_single : Stmt := (topS 48)
theorem ss_is_single : FnScope ["talk"] ["talk"] (defScope st_is_single) := ⟨rfl, rfl, rfl, by decide +kernel, rfl, by decide +kernel, by decide +kernel⟩
def g_is_single : En → Option Out := (retG (bin2 (isNV false) (appF f_single_break (consF (getE 0) noF)) (cst .non)))
def f_is_single : List Val → Option Val := runV 1 1 g_is_single
theorem df_is_single {P : Program} {w : World} {K : PySem.W.Frag} {mg : Str → Option Value} {base : Heap} {cm : Cm} {f : Addr} {fd : FuncData} (D : Dd K mg "is_single" st_is_single ["talk"] f fd) (T : TxtV K mg cm) {fa_single_break : Addr} {fd_single_break : FuncData} (d_single_break : Df P w K mg base cm "single_break" 8 ["talk"] f_single_break fa_single_break fd_single_break) : Df P w K mg base cm "is_single" 9 ["talk"] f_is_single f fd :=
  okD [] D ss_is_single (by decide) fun cdv A outer s H E hr hu => (sv_one (sv_ret (ve_cmp op_isN ov_isN (ve_callD d_single_break (hr.mono (by decide)) (by rfl) (va_cons (vv 0) va_nil)) ve_non (nomark _))))
abbrev st_kind : Stmt := (topS 49)
theorem ss_kind : FnScope ["talk"] ["talk"] (defScope st_kind) := ⟨rfl, rfl, rfl, by decide +kernel, rfl, by decide +kernel, by decide +kernel⟩
def g_kind : En → Option Out := (seqG (ifG (tst (appF f_is_upright (consF (getE 0) noF))) (retG (cst (.str "upright"))) nilG) (seqG (ifG (tst (appF f_is_causal (consF (getE 0) noF))) (retG (cst (.str "causal"))) nilG) (seqG (ifG (tst (appF f_is_single (consF (getE 0) noF))) (retG (cst (.str "single"))) nilG) (retG (cst (.str "free"))))))
def f_kind : List Val → Option Val := runV 1 1 g_kind
theorem df_kind {P : Program} {w : World} {K : PySem.W.Frag} {mg : Str → Option Value} {base : Heap} {cm : Cm} {f : Addr} {fd : FuncData} (D : Dd K mg "kind" st_kind ["talk"] f fd) (T : TxtV K mg cm) {fa_is_single : Addr} {fd_is_single : FuncData} (d_is_single : Df P w K mg base cm "is_single" 9 ["talk"] f_is_single fa_is_single fd_is_single) {fa_is_causal : Addr} {fd_is_causal : FuncData} (d_is_causal : Df P w K mg base cm "is_causal" 9 ["talk"] f_is_causal fa_is_causal fd_is_causal) {fa_is_upright : Addr} {fd_is_upright : FuncData} (d_is_upright : Df P w K mg base cm "is_upright" 3 ["talk"] f_is_upright fa_is_upright fd_is_upright) : Df P w K mg base cm "kind" 10 ["talk"] f_kind f fd :=
  okD [] D ss_kind (by decide) fun cdv A outer s H E hr hu => (sv_cons (sv_if (vt_val (ve_callD d_is_upright (hr.mono (by decide)) (by rfl) (va_cons (vv 0) va_nil))) (sv_one (sv_ret ve_str)) sv_nil) (sv_cons (sv_if (vt_val (ve_callD d_is_causal (hr.mono (by decide)) (by rfl) (va_cons (vv 0) va_nil))) (sv_one (sv_ret ve_str)) sv_nil) (sv_cons (sv_if (vt_val (ve_callD d_is_single (hr.mono (by decide)) (by rfl) (va_cons (vv 0) va_nil))) (sv_one (sv_ret ve_str)) sv_nil) (sv_one (sv_ret ve_str)))))
end Up

namespace Up
open PySem PySem.Spec PyProof.Rows L2
abbrev st_ring_from : Stmt := (topS 36)
theorem ss_ring_from : FnScope ["nexts", "first", "ways", "seen", "at", "way", "letter"] ["nexts", "first"] (defScope st_ring_from) := ⟨rfl, rfl, rfl, by decide +kernel, rfl, by decide +kernel, by decide +kernel⟩
def g_ring_from : En → Option Out := (seqG (newG 2 (stN [2, 3] (fun env => ((consF (tupF (consF (getE 1) noF)) noF) env).bind fun xs => if xs.length ≤ most then some xs else none))) (seqG (newSG 3 (getE 1)) (seqG (setG 4 (stF [2, 3] (cst (.int 0)))) (seqG (whGo (tst (bin2 (iop fun i j => .bl (decide (i < j))) (getE 4) (appF lenF (consF (getE 2) noF)))) (seqG (setG 5 (boF (bin2 ixL (getE 2) (getE 4)))) (seqG (forG [2, 3] (itL (bin2 ixL (getE 0) (bin2 ixT (getE 5) (negF (cst (.int 1)))))) (setV 6) (seqG (ifG (tst (bin2 (eqF false) (getE 6) (getE 1))) (retG (getE 5)) nilG) (ifG (tst (bin2 (inSF true) (getE 6) (getE 3))) (seqG (addG 3 (getE 6)) (appG 2 (stF [2, 3] (tupF (starC (getE 5) (consF (getE 6) noF)))))) nilG))) (augG 4 (fun i j => i + j) (cst (.int 1))))) 1000) (retG (cst .non))))))
def f_ring_from : List Val → Option Val := runV 7 2 g_ring_from
theorem df_ring_from {P : Program} {w : World} {K : PySem.W.Frag} {mg : Str → Option Value} {base : Heap} {cm : Cm} {f : Addr} {fd : FuncData} (D : Dd K mg "ring_from" st_ring_from ["nexts", "first"] f fd) (T : TxtV K mg cm) (hw : cm.w = w) : Df P w K mg base cm "ring_from" 1 ["nexts", "first"] f_ring_from f fd :=
  okDC [2, 3] D ss_ring_from (by decide) fun cdv A outer s H E hcd hr hu => (sv_cons (sv_new (i := 2) ss_ring_from.nd rfl (Or.inl rfl) (by decide) (vn_lst (va_cons (ve_tup (va_cons (vv 1) va_nil)) va_nil)) sn_st) (sv_cons (sv_newS (i := 3) hcd hw ss_ring_from.nd rfl (Or.inl rfl) (by decide) (vv 1)) (sv_cons (sv_set (i := 4) ss_ring_from.nd rfl (Or.inl rfl) (by decide) ve_int sr_st) (sv_cons (sv_while (n := 1000) PassesOwn.never (vt_cmp op_lt ov_lt (vv 4) (ve_callB call_len_seq cv_len (by rfl) T.len PySem.boot_len (va_cons (vv 2) va_nil)) (nomark _)) (sv_cons (sv_set (i := 5) ss_ring_from.nd rfl (Or.inl rfl) (by decide) (ve_ix ix_list ov_ixL (vv 2) (vv 4) (fun _ _ => rfl)) sr_bo) (sv_cons (sv_for PassesOwn.never rfl (vi_list (ve_ix ix_list ov_ixL (vv 0) (ve_ix ix_tup ov_ixT (vv 5) (ve_neg ve_int) (fun _ _ => rfl)) (fun _ _ => rfl))) (pg_name (i := 6) ss_ring_from.nd rfl (Or.inl rfl)) (sv_cons (sv_if (vt_cmp (op_eqD hu) ov_eq (vv 6) (vv 1) (nomark _)) (sv_one (sv_ret (vv 5))) sv_nil) (sv_one (sv_if (vt_cmp or_snotin (ov_snotin hw) (vv 6) (vv 3) (by rfl)) (sv_cons (sv_add0 (i := 3) (ps_expr (pe_sadd (pv 3) (pa_cons (vv 6) pa_nil))) hw (by decide)) (sv_one (sv_app0 (i := 2) (ps_expr (pe_bm PySem.F.plainAttrs_list PySem.F.slot_list_append PySem.F.type_list_append mt_append (pv 2) (pa_cons (ve_tup (va_star (vv 5) (va_cons (vv 6) va_nil))) pa_nil))) (by decide) sr_st))) sv_nil))) tg_name (by decide)) (sv_one (sv_aug0 (i := 4) (ps_aug ss_ring_from.nd rfl (Or.inl rfl) ve_int ip_add) (by decide)))))) (sv_one (sv_ret ve_non))))))
abbrev st_crown : Stmt := (topS 33)
theorem ss_crown : FnScope ["talk", "nexts", "best", "first", "ring", "letter"] ["talk"] (defScope st_crown) := ⟨rfl, rfl, rfl, by decide +kernel, rfl, by decide +kernel, by decide +kernel⟩
def g_crown : En → Option Out := (seqG (setG 1 (fun env => ((stN [] (lcF (rng1 (consF (fldF 0 "many" (getE 0)) noF)) (setV 5) yesF (appF f_crown_nexts (consF (getE 0) (consF (getE 5) noF))) [5])) env).map .lst)) (seqG (setG 2 (stF [] (cst .non))) (seqG (forG [] (rng1 (consF (fldF 0 "many" (getE 0)) noF)) (setV 3) (seqG (setG 4 (stF [] (appF f_ring_from (consF (getE 1) (consF (getE 3) noF))))) (ifG (andT (tst (bin2 (isNV true) (getE 4) (cst .non))) (orT (tst (bin2 (isNV false) (getE 2) (cst .non))) (tst (bin2 (iop fun i j => .bl (decide (i < j))) (appF lenF (consF (getE 4) noF)) (appF lenF (consF (getE 2) noF)))))) (setG 2 (stF [] (getE 4))) nilG))) (retG (getE 2)))))
def f_crown : List Val → Option Val := runV 6 1 g_crown
theorem df_crown {P : Program} {w : World} {K : PySem.W.Frag} {mg : Str → Option Value} {base : Heap} {cm : Cm} {f : Addr} {fd : FuncData} (D : Dd K mg "crown" st_crown ["talk"] f fd) (T : TxtV K mg cm) {fa_ring_from : Addr} {fd_ring_from : FuncData} (d_ring_from : Df P w K mg base cm "ring_from" 1 ["nexts", "first"] f_ring_from fa_ring_from fd_ring_from) {fa_crown_nexts : Addr} {fd_crown_nexts : FuncData} (d_crown_nexts : Df P w K mg base cm "crown_nexts" 7 ["talk", "letter"] f_crown_nexts fa_crown_nexts fd_crown_nexts) : Df P w K mg base cm "crown" 8 ["talk"] f_crown f fd :=
  okD [] D ss_crown (by decide) fun cdv A outer s H E hr hu => (sv_cons (sv_setLc (i := 1) (own := [("letter", 5)]) rfl ss_crown.nd rfl rfl (sw_true rfl rfl rfl (by decide +kernel)) (vi_range1 (by rfl) T.range (va_cons (ve_fld (c := 0) T.cl T.n_many (vv 0) rfl) va_nil)) (blkOk_by (own := [("letter", 5)]) (N := ["talk", "nexts", "best", "first", "ring", "letter"]) (sc := defScope st_crown) (by decide +kernel)) (fun _ _ _ _ _ => (pg_name (i := 5) ss_crown.nd rfl (Or.inl rfl))) (fun _ _ _ _ _ => pts_nil) (fun _ _ _ _ _ => (ve_callD d_crown_nexts (hr.mono (by decide)) (by rfl) (va_cons (vv 0) (va_cons (vv 5) va_nil)))) tg_name (by decide) tt_yes (by decide) sn_st) (sv_cons (sv_set (i := 2) ss_crown.nd rfl (Or.inl rfl) (by decide) ve_non sr_st) (sv_cons (sv_for PassesOwn.never rfl (vi_range1 (by rfl) T.range (va_cons (ve_fld (c := 0) T.cl T.n_many (vv 0) rfl) va_nil)) (pg_name (i := 3) ss_crown.nd rfl (Or.inl rfl)) (sv_cons (sv_set (i := 4) ss_crown.nd rfl (Or.inl rfl) (by decide) (ve_callD d_ring_from (hr.mono (by decide)) (by rfl) (va_cons (vv 1) (va_cons (vv 3) va_nil))) sr_st) (sv_one (sv_if (PW.pt (vw_and (vt_cmp op_notN ov_notN (vv 4) ve_non (nomark _)) (vw_and1 (PW.pt (vw_or (vt_cmp op_isN ov_isN (vv 2) ve_non (nomark _)) (vw_or1 (vt_cmp op_lt ov_lt (ve_callB call_len_seq cv_len (by rfl) T.len PySem.boot_len (va_cons (vv 4) va_nil)) (ve_callB call_len_seq cv_len (by rfl) T.len PySem.boot_len (va_cons (vv 2) va_nil)) (nomark _)))))))) (sv_one (sv_set (i := 2) ss_crown.nd rfl (Or.inl rfl) (by decide) (vv 4) sr_st)) sv_nil))) tg_name (by decide)) (sv_one (sv_ret (vv 2))))))
abbrev st_paper : Stmt := (topS 37)
theorem ss_paper : FnScope ["talk", "least"] ["talk"] (defScope st_paper) := ⟨rfl, rfl, rfl, by decide +kernel, rfl, by decide +kernel, by decide +kernel⟩
def g_paper : En → Option Out := (seqG (setG 1 (stF [] (appF f_moments (consF (getE 0) noF)))) (seqG (ifG (tst (bin2 (isNV false) (getE 1) (cst .non))) (retG (tupF (consF (cst (.str "crown")) (consF (appF f_crown (consF (getE 0) noF)) noF)))) nilG) (retG (tupF (consF (cst (.str "moments")) (consF (getE 1) noF))))))
def f_paper : List Val → Option Val := runV 2 1 g_paper
theorem df_paper {P : Program} {w : World} {K : PySem.W.Frag} {mg : Str → Option Value} {base : Heap} {cm : Cm} {f : Addr} {fd : FuncData} (D : Dd K mg "paper" st_paper ["talk"] f fd) (T : TxtV K mg cm) {fa_crown : Addr} {fd_crown : FuncData} (d_crown : Df P w K mg base cm "crown" 8 ["talk"] f_crown fa_crown fd_crown) {fa_moments : Addr} {fd_moments : FuncData} (d_moments : Df P w K mg base cm "moments" 2 ["talk"] f_moments fa_moments fd_moments) : Df P w K mg base cm "paper" 9 ["talk"] f_paper f fd :=
  okD [] D ss_paper (by decide) fun cdv A outer s H E hr hu => (sv_cons (sv_set (i := 1) ss_paper.nd rfl (Or.inl rfl) (by decide) (ve_callD d_moments (hr.mono (by decide)) (by rfl) (va_cons (vv 0) va_nil)) sr_st) (sv_cons (sv_if (vt_cmp op_isN ov_isN (vv 1) ve_non (nomark _)) (sv_one (sv_ret (ve_tup (va_cons ve_str (va_cons (ve_callD d_crown (hr.mono (by decide)) (by rfl) (va_cons (vv 0) va_nil)) va_nil))))) sv_nil) (sv_one (sv_ret (ve_tup (va_cons ve_str (va_cons (vv 1) va_nil)))))))
abbrev st_are_moments : Stmt := (topS 39)
theorem ss_are_moments : FnScope ["talk", "told", "moment", "one", "other"] ["talk", "told"] (defScope st_are_moments) := ⟨rfl, rfl, rfl, by decide +kernel, rfl, by decide +kernel, by decide +kernel⟩
def g_are_moments : En → Option Out := (seqG (ifG (tst (bin2 (eqF true) (appF lenF (consF (getE 1) noF)) (fldF 0 "many" (getE 0)))) (retG (cst (.bl false))) nilG) (seqG (forG [] (itT (getE 1)) (setV 2) (ifG (orT (notT (tst (appF f_is_whole (consF (getE 2) noF)))) (tst (bin2 (iop fun i j => .bl (decide (i < j))) (getE 2) (cst (.int 0))))) (retG (cst (.bl false))) nilG)) (seqG (forG [] (itL (appF f_row_steps (consF (getE 0) noF))) (setTup 2 (setCo (setV 3) (setCo (setV 4) setNo))) (ifG (tst (bin2 (iop fun i j => .bl (decide (j ≤ i))) (bin2 ixT (getE 1) (getE 3)) (bin2 ixT (getE 1) (getE 4)))) (retG (cst (.bl false))) nilG)) (retG (cst (.bl true))))))
def f_are_moments : List Val → Option Val := runV 5 2 g_are_moments
theorem df_are_moments {P : Program} {w : World} {K : PySem.W.Frag} {mg : Str → Option Value} {base : Heap} {cm : Cm} {f : Addr} {fd : FuncData} (D : Dd K mg "are_moments" st_are_moments ["talk", "told"] f fd) (T : TxtV K mg cm) {fa_row_steps : Addr} {fd_row_steps : FuncData} (d_row_steps : Df P w K mg base cm "row_steps" 1 ["talk"] f_row_steps fa_row_steps fd_row_steps) {fa_is_whole : Addr} {fd_is_whole : FuncData} (d_is_whole : Df P w K mg base cm "is_whole" 1 ["value"] f_is_whole fa_is_whole fd_is_whole) : Df P w K mg base cm "are_moments" 2 ["talk", "told"] f_are_moments f fd :=
  okD [] D ss_are_moments (by decide) fun cdv A outer s H E hr hu => (sv_cons (sv_if (vt_cmp (op_neD hu) ov_ne (ve_callB call_len_seq cv_len (by rfl) T.len PySem.boot_len (va_cons (vv 1) va_nil)) (ve_fld (c := 0) T.cl T.n_many (vv 0) rfl) (nomark _)) (sv_one (sv_ret ve_bl)) sv_nil) (sv_cons (sv_for PassesOwn.never rfl (vi_tup (vv 1)) (pg_name (i := 2) ss_are_moments.nd rfl (Or.inl rfl)) (sv_one (sv_if (PW.pt (vw_or (vt_not (vt_val (ve_callD d_is_whole (hr.mono (by decide)) (by rfl) (va_cons (vv 2) va_nil)))) (vw_or1 (vt_cmp op_lt ov_lt (vv 2) ve_int (nomark _))))) (sv_one (sv_ret ve_bl)) sv_nil)) tg_name (by decide)) (sv_cons (sv_for PassesOwn.never rfl (vi_list (ve_callD d_row_steps (hr.mono (by decide)) (by rfl) (va_cons (vv 0) va_nil))) (pg_tup (n := 2) (by rfl) (pgs_cons (pg_name (i := 3) ss_are_moments.nd rfl (Or.inl rfl)) (pgs_cons (pg_name (i := 4) ss_are_moments.nd rfl (Or.inl rfl)) pgs_nil))) (sv_one (sv_if (vt_cmp op_ge ov_ge (ve_ix ix_tup ov_ixT (vv 1) (vv 3) (fun _ _ => rfl)) (ve_ix ix_tup ov_ixT (vv 1) (vv 4) (fun _ _ => rfl)) (nomark _)) (sv_one (sv_ret ve_bl)) sv_nil)) (tg_tup (tgs_cons tg_name (tgs_cons tg_name tgs_nil))) (by decide)) (sv_one (sv_ret ve_bl)))))
end Up

namespace Up
open PySem PySem.Spec PyProof.Rows L2
abbrev st_is_listing : Stmt := (topS 4)
theorem ss_is_listing : FnScope ["value", "most"] ["value", "most"] (defScope st_is_listing) := ⟨rfl, rfl, rfl, by decide +kernel, rfl, by decide +kernel, by decide +kernel⟩
def g_is_listing : En → Option Out := (retG (andF (isi2F "list" "tuple" (getE 0)) (bin2 (iop fun i j => .bl (decide (i ≤ j))) (appF lenF (consF (getE 0) noF)) (getE 1))))
def f_is_listing : List Val → Option Val := runV 2 2 g_is_listing
theorem df_is_listing {P : Program} {w : World} {K : PySem.W.Frag} {mg : Str → Option Value} {base : Heap} {cm : Cm} {f : Addr} {fd : FuncData} (D : Dd K mg "is_listing" st_is_listing ["value", "most"] f fd) (T : TxtV K mg cm) : Df P w K mg base cm "is_listing" 1 ["value", "most"] f_is_listing f fd :=
  okD [] D ss_is_listing (by decide) fun cdv A outer s H E hr hu => (sv_one (sv_ret (ve_and (ve_isi2 (T1 := "list") (T2 := "tuple") (by rfl) T.list bt_list (by rfl) T.tuple bt_tuple (by rfl) T.isinstance bb_isinstance (vv 0)) (ve_one (ve_cmp op_le ov_le (ve_callB call_len_seq cv_len (by rfl) T.len PySem.boot_len (va_cons (vv 0) va_nil)) (vv 1) (nomark _))))))
abbrev st_is_hand_pair : Stmt := (topS 27)
theorem ss_is_hand_pair : FnScope ["value", "hands", "one", "other"] ["value", "hands"] (defScope st_is_hand_pair) := ⟨rfl, rfl, rfl, by decide +kernel, rfl, by decide +kernel, by decide +kernel⟩
def g_is_hand_pair : En → Option Out := (seqG (ifG (notT (tst (appF f_is_couple (consF (getE 0) noF)))) (retG (cst (.bl false))) nilG) (seqG (asgG (setTup 2 (setCo (setV 2) (setCo (setV 3) setNo))) (stF [] (getE 0))) (retG (andF (appF f_is_index (consF (getE 2) (consF (getE 1) noF))) (andF (appF f_is_index (consF (getE 3) (consF (getE 1) noF))) (bin2 (eqF true) (getE 2) (getE 3)))))))
def f_is_hand_pair : List Val → Option Val := runV 4 2 g_is_hand_pair
theorem df_is_hand_pair {P : Program} {w : World} {K : PySem.W.Frag} {mg : Str → Option Value} {base : Heap} {cm : Cm} {f : Addr} {fd : FuncData} (D : Dd K mg "is_hand_pair" st_is_hand_pair ["value", "hands"] f fd) (T : TxtV K mg cm) {fa_is_index : Addr} {fd_is_index : FuncData} (d_is_index : Df P w K mg base cm "is_index" 2 ["value", "many"] f_is_index fa_is_index fd_is_index) {fa_is_couple : Addr} {fd_is_couple : FuncData} (d_is_couple : Df P w K mg base cm "is_couple" 1 ["value"] f_is_couple fa_is_couple fd_is_couple) : Df P w K mg base cm "is_hand_pair" 3 ["value", "hands"] f_is_hand_pair f fd :=
  okD [] D ss_is_hand_pair (by decide) fun cdv A outer s H E hr hu => (sv_cons (sv_if (vt_not (vt_val (ve_callD d_is_couple (hr.mono (by decide)) (by rfl) (va_cons (vv 0) va_nil)))) (sv_one (sv_ret ve_bl)) sv_nil) (sv_cons (sv_asg (vv 0) sr_st (pg_tup (n := 2) (by rfl) (pgs_cons (pg_name (i := 2) ss_is_hand_pair.nd rfl (Or.inl rfl)) (pgs_cons (pg_name (i := 3) ss_is_hand_pair.nd rfl (Or.inl rfl)) pgs_nil))) (tg_tup (tgs_cons tg_name (tgs_cons tg_name tgs_nil))) (by decide)) (sv_one (sv_ret (ve_and (ve_callD d_is_index (hr.mono (by decide)) (by rfl) (va_cons (vv 2) (va_cons (vv 1) va_nil))) (ve_and (ve_callD d_is_index (hr.mono (by decide)) (by rfl) (va_cons (vv 3) (va_cons (vv 1) va_nil))) (ve_one (ve_cmp (op_neD hu) ov_ne (vv 2) (vv 3) (nomark _)))))))))
abbrev st_is_crown : Stmt := (topS 40)
theorem ss_is_crown : FnScope ["talk", "told", "letter", "one", "other"] ["talk", "told"] (defScope st_is_crown) := ⟨rfl, rfl, rfl, by decide +kernel, rfl, by decide +kernel, by decide +kernel⟩
def g_is_crown : En → Option Out := (seqG (ifG (notT (tst (chainF (fun i j => decide (i ≤ j)) (fun i j => decide (i ≤ j)) (cst (.int 2)) (appF lenF (consF (getE 1) noF)) (fldF 0 "many" (getE 0))))) (retG (cst (.bl false))) nilG) (seqG (forG [] (itT (getE 1)) (setV 2) (ifG (notT (tst (appF f_is_index (consF (getE 2) (consF (fldF 0 "many" (getE 0)) noF))))) (retG (cst (.bl false))) nilG)) (seqG (ifG (tst (bin2 (iop fun i j => .bl (decide (i < j))) (lenSF (getE 1)) (appF lenF (consF (getE 1) noF)))) (retG (cst (.bl false))) nilG) (seqG (forG [] (zipA (consF (getE 1) (consF (bin2 catTA (slF cutTA (getE 1) (partF (cst (.int 1))) noPart) (slF cutTA (getE 1) noPart (partF (cst (.int 1))))) noF))) (setTup 2 (setCo (setV 3) (setCo (setV 4) setNo))) (ifG (notT (tst (appF f_is_crown_step (consF (getE 0) (consF (getE 3) (consF (getE 4) noF)))))) (retG (cst (.bl false))) nilG)) (retG (cst (.bl true)))))))
def f_is_crown : List Val → Option Val := runV 5 2 g_is_crown
theorem df_is_crown {P : Program} {w : World} {K : PySem.W.Frag} {mg : Str → Option Value} {base : Heap} {cm : Cm} {f : Addr} {fd : FuncData} (D : Dd K mg "is_crown" st_is_crown ["talk", "told"] f fd) (T : TxtV K mg cm) {fa_is_crown_step : Addr} {fd_is_crown_step : FuncData} (d_is_crown_step : Df P w K mg base cm "is_crown_step" 6 ["talk", "one", "other"] f_is_crown_step fa_is_crown_step fd_is_crown_step) {fa_is_index : Addr} {fd_is_index : FuncData} (d_is_index : Df P w K mg base cm "is_index" 2 ["value", "many"] f_is_index fa_is_index fd_is_index) : Df P w K mg base cm "is_crown" 7 ["talk", "told"] f_is_crown f fd :=
  okD [] D ss_is_crown (by decide) fun cdv A outer s H E hr hu => (sv_cons (sv_if (vt_not (vt_chain (p := (fun i j => decide (i ≤ j))) (r := (fun i j => decide (i ≤ j))) op_le op_le ve_int (ve_callB call_len_seq cv_len (by rfl) T.len PySem.boot_len (va_cons (vv 1) va_nil)) (ve_fld (c := 0) T.cl T.n_many (vv 0) rfl))) (sv_one (sv_ret ve_bl)) sv_nil) (sv_cons (sv_for PassesOwn.never rfl (vi_tup (vv 1)) (pg_name (i := 2) ss_is_crown.nd rfl (Or.inl rfl)) (sv_one (sv_if (vt_not (vt_val (ve_callD d_is_index (hr.mono (by decide)) (by rfl) (va_cons (vv 2) (va_cons (ve_fld (c := 0) T.cl T.n_many (vv 0) rfl) va_nil))))) (sv_one (sv_ret ve_bl)) sv_nil)) tg_name (by decide)) (sv_cons (sv_if (vt_cmp op_lt ov_lt (ve_lenS rfl (by rfl) T.len (by rfl) T.set (vv 1)) (ve_callB call_len_seq cv_len (by rfl) T.len PySem.boot_len (va_cons (vv 1) va_nil)) (nomark _)) (sv_one (sv_ret ve_bl)) sv_nil) (sv_cons (sv_for PassesOwn.never rfl (vi_zip (by rfl) T.zip (va_cons (vv 1) (va_cons (ve_catTA (ve_slice sl_tupA vs_tupA (vv 1) (vo_some ve_int) vo_none) (ve_slice sl_tupA vs_tupA (vv 1) vo_none (vo_some ve_int))) va_nil))) (pg_tup (n := 2) (by rfl) (pgs_cons (pg_name (i := 3) ss_is_crown.nd rfl (Or.inl rfl)) (pgs_cons (pg_name (i := 4) ss_is_crown.nd rfl (Or.inl rfl)) pgs_nil))) (sv_one (sv_if (vt_not (vt_val (ve_callD d_is_crown_step (hr.mono (by decide)) (by rfl) (va_cons (vv 0) (va_cons (vv 3) (va_cons (vv 4) va_nil)))))) (sv_one (sv_ret ve_bl)) sv_nil)) (tg_tup (tgs_cons tg_name (tgs_cons tg_name tgs_nil))) (by decide)) (sv_one (sv_ret ve_bl))))))
abbrev st_is_paper : Stmt := (topS 38)
theorem ss_is_paper : FnScope ["talk", "value", "word", "told"] ["talk", "value"] (defScope st_is_paper) := ⟨rfl, rfl, rfl, by decide +kernel, rfl, by decide +kernel, by decide +kernel⟩
def g_is_paper : En → Option Out := (seqG (ifG (notT (tst (appF f_is_couple (consF (getE 1) noF)))) (retG (cst (.bl false))) nilG) (seqG (asgG (setTup 2 (setCo (setV 2) (setCo (setV 3) setNo))) (stF [] (getE 1))) (seqG (ifG (orT (notT (tst (isiF "str" (getE 2)))) (notT (tst (isiF "tuple" (getE 3))))) (retG (cst (.bl false))) nilG) (seqG (ifG (tst (bin2 (eqF false) (getE 2) (cst (.str "moments")))) (retG (appF f_are_moments (consF (getE 0) (consF (getE 3) noF)))) nilG) (retG (andF (bin2 (eqF false) (getE 2) (cst (.str "crown"))) (appF f_is_crown (consF (getE 0) (consF (getE 3) noF)))))))))
def f_is_paper : List Val → Option Val := runV 4 2 g_is_paper
theorem df_is_paper {P : Program} {w : World} {K : PySem.W.Frag} {mg : Str → Option Value} {base : Heap} {cm : Cm} {f : Addr} {fd : FuncData} (D : Dd K mg "is_paper" st_is_paper ["talk", "value"] f fd) (T : TxtV K mg cm) {fa_is_crown : Addr} {fd_is_crown : FuncData} (d_is_crown : Df P w K mg base cm "is_crown" 7 ["talk", "told"] f_is_crown fa_is_crown fd_is_crown) {fa_are_moments : Addr} {fd_are_moments : FuncData} (d_are_moments : Df P w K mg base cm "are_moments" 2 ["talk", "told"] f_are_moments fa_are_moments fd_are_moments) {fa_is_couple : Addr} {fd_is_couple : FuncData} (d_is_couple : Df P w K mg base cm "is_couple" 1 ["value"] f_is_couple fa_is_couple fd_is_couple) : Df P w K mg base cm "is_paper" 8 ["talk", "value"] f_is_paper f fd :=
  okD [] D ss_is_paper (by decide) fun cdv A outer s H E hr hu => (sv_cons (sv_if (vt_not (vt_val (ve_callD d_is_couple (hr.mono (by decide)) (by rfl) (va_cons (vv 1) va_nil)))) (sv_one (sv_ret ve_bl)) sv_nil) (sv_cons (sv_asg (vv 1) sr_st (pg_tup (n := 2) (by rfl) (pgs_cons (pg_name (i := 2) ss_is_paper.nd rfl (Or.inl rfl)) (pgs_cons (pg_name (i := 3) ss_is_paper.nd rfl (Or.inl rfl)) pgs_nil))) (tg_tup (tgs_cons tg_name (tgs_cons tg_name tgs_nil))) (by decide)) (sv_cons (sv_if (PW.pt (vw_or (vt_not (vt_val (ve_isi (T := "str") (by rfl) T.str bt_str (by rfl) T.isinstance bb_isinstance (vv 2)))) (vw_or1 (vt_not (vt_val (ve_isi (T := "tuple") (by rfl) T.tuple bt_tuple (by rfl) T.isinstance bb_isinstance (vv 3))))))) (sv_one (sv_ret ve_bl)) sv_nil) (sv_cons (sv_if (vt_cmp (op_eqD hu) ov_eq (vv 2) ve_str (nomark _)) (sv_one (sv_ret (ve_callD d_are_moments (hr.mono (by decide)) (by rfl) (va_cons (vv 0) (va_cons (vv 3) va_nil))))) sv_nil) (sv_one (sv_ret (ve_and (ve_cmp (op_eqD hu) ov_eq (vv 2) ve_str (nomark _)) (ve_one (ve_callD d_is_crown (hr.mono (by decide)) (by rfl) (va_cons (vv 0) (va_cons (vv 3) va_nil)))))))))))
end Up

namespace Up
open PySem PySem.Spec PyProof.Rows L2
/-! ### sorted(a tuple of ints) -/
section
variable {pg : Program} {wd : World} {AA : Around} {EE : Value → Shared → Prop} {st : Shared}
theorem collect_tuple {t : Addr} {us : List Value} {R : List Value → Shared → Prop} (ht : IsTup st.heap t us.toArray) (hz : us.length ≤ sizeLine)
    (q : R us { st with heap := (st.heap.push (seqObj "list" #[] 0)).update st.heap.objs.size (Obj.mapSeq (· ++ us.toArray)) }) : wpAny (model pg wd) AA (collect (.ref t)) R EE st := by
  obtain ⟨ob, e1, e2, k, e3⟩ := ht
  unfold collect
  refine wpAny_bind (wpAny_runValue (codeAny_builtin PyProof.Rows.entry_proto_collect' ?_))
  show wpAny _ _ (do again (.builtin "list.__iadd__" ⟨[← newList [], .ref t], []⟩)) _ EE st
  refine wpAny_bind (wpAny_newList (wpAny_pure ⟨Code.quiet_builtin _ (by decide +kernel), codeAny_builtin PyProof.Rows.entry_list_iadd' ?_⟩))
  show wpAny _ _ (Builtin.List.listExtendWith (.ref st.heap.objs.size) (.ref t) (.ref st.heap.objs.size)) _ EE { st with heap := st.heap.push (seqObj "list" #[] 0) }
  unfold Builtin.List.listExtendWith
  have e4 : (st.heap.push (seqObj "list" #[] 0)).get? t = some ob := Heap.get?_push_of_some _ e1
  refine wpAny_bind (wpAny_typeOf (T := "tuple") ⟨ob, e4, e2⟩ ?_)
  have tt : (Value.type "tuple" == Value.type "tuple") = true := by rfl
  rw [if_pos (by rw [tt, Bool.or_true])]
  refine wpAny_bind (PyProof.Rows.listItems_at e4 e3 ?_)
  refine wpAny_bind (PyProof.Rows.listItems_at (xs := #[]) (n := 0) (Heap.get?_push_size _ rfl) rfl ?_)
  rw [if_neg (show ¬((!(#[] : Array Value).isEmpty && _) = true) by simp)]
  refine wpAny_bind (PyProof.Rows.listUpdate_at (xs := #[]) (n := 0) (Heap.get?_push_size _ rfl) rfl ?_ (Nat.zero_le _) (show (#[] ++ us.toArray).size ≤ sizeLine + 1 by simp only [Array.size_append, List.size_toArray, List.length_nil]; omega))
  refine wpAny_pure ?_
  show wpAny (model pg wd) AA (do
      let ob ← load st.heap.objs.size
      match ob.data with
      | .seq xs _ => pure xs.toList
      | _ => unsupported "internal:collect") R EE { st with heap := (st.heap.push (seqObj "list" #[] 0)).update st.heap.objs.size (Obj.mapSeq (· ++ us.toArray)) }
  refine wpAny_bind (wpAny_load (PyProof.Rows.get?_update_seq (Heap.get?_push_size _ rfl) _) ?_)
  show wpAny _ AA (pure ((#[] : Array Value) ++ us.toArray).toList) R EE _
  have eu : ((#[] : Array Value) ++ us.toArray).toList = us := by simp
  rw [eu]
  exact wpAny_pure q
theorem sorted_tuple {t : Addr} {us : List Value} {ns : List Int} {R : Value → Shared → Prop} (ht : IsTup st.heap t us.toArray) (hI : IntsAre us ns) (h64 : us.length < 64)
    (q : ∀ (out : Array Value) (ns' : List Int), IntsAre out.toList ns' → ns'.Perm ns → ns'.Pairwise (· ≤ ·) → R (.ref (st.heap.objs.size + 1)) { st with heap := sortedAll st.heap us out }) :
    wpAny (model pg wd) AA (call (.builtin "sorted") [.ref t]) R EE st := by
  have hz : us.length ≤ sizeLine := small64 h64
  refine Calls.call_function_entry PyProof.Rows.kind_sorted PyProof.Rows.plain_sorted PyProof.Rows.entry_sorted (PyProof.Rows.args_sorted1 _) ?_
  unfold Builtin.«sorted»
  refine wpAny_bind (m := checkCount "sorted" 1 1 _) (wpAny_pure (show _ from ?_))
  refine wpAny_bind (collect_tuple ht hz ?_)
  refine wpAny_bind (wpAny_newList ?_ hz)
  have z1 : ((st.heap.push (seqObj "list" #[] 0)).update st.heap.objs.size (Obj.mapSeq (· ++ us.toArray))).objs.size = st.heap.objs.size + 1 := by
    rw [Heap.size_update, PyProof.Rows.size_push']
  have z2 : (((st.heap.push (seqObj "list" #[] 0)).update st.heap.objs.size (Obj.mapSeq (· ++ us.toArray))).push (seqObj "list" us.toArray 0)).get? (st.heap.objs.size + 1) = some (seqObj "list" us.toArray 0) := by
    rw [← z1]
    exact Heap.get?_push_size _ rfl
  show wpAny _ _ _ _ EE { st with heap := ((st.heap.push (seqObj "list" #[] 0)).update st.heap.objs.size (Obj.mapSeq (· ++ us.toArray))).push (seqObj "list" us.toArray 0) }
  rw [z1]
  refine wpAny_bind (wpAny_holding (wpAny_call_entry PyProof.Rows.slot_list_sort ⟨_, z2, rfl⟩ PyProof.Rows.entry_list_sort (PyProof.Rows.list_sort_tree z2 hI h64 fun out ns' a1 a2 a3 => ⟨_, rfl, ?_⟩) (PyProof.Rows.args_list_sort _)))
  exact wpAny_pure ⟨_, rfl, q out ns' a1 a2 a3⟩
end
def rSortT (K : PySem.W.Frag) : List V → Hp → VK → Prop := fun vs H Q => ∃ (a : Addr) (ns : List Int), vs = [V.ref a] ∧ SqT K H a (ns.map V.int) ∧ ns.length < 64 ∧ ∀ (ns' : List Int) (p : Addr), ns'.Perm ns → ns'.Pairwise (· ≤ ·) → H p = none → Q (.ref p) (upd H p (.lst (ns'.map V.int)))
theorem cr_sortT {X : Cx} : CallR X (.builtin "sorted") (rSortT X.K) := by
  intro pins st σ H vs us Q I r h
  obtain ⟨a, ns, rfl, hs, l64, q⟩ := h
  obtain ⟨its, rv, hl, _⟩ := I.tuple hs
  rw [Vals.ref1 r]
  have hi := rv.ints
  refine sorted_tuple hl hi (by rw [hi.length]; exact l64) fun out ns' k1 k2 k3 => ?_
  obtain ⟨ep, he⟩ := PyProof.Rows.sortedAll_at st.heap its out
  have hz : (ns'.map V.int).length ≤ sizeLine := by rw [List.length_map, k2.length_eq]; exact Nat.le_of_lt (Nat.lt_of_lt_of_le l64 (by decide))
  exact ⟨.ref _, upd H (st.heap.objs.size + 1) (.lst (ns'.map V.int)), I.laid (t' := st.toks) (fun _ _ => PyProof.Rows.sortedAll_old) (Nat.le_succ _) ⟨hz, out.toList, ep, vals_of_ints k1, he⟩, rfl, q ns' _ k2 k3 (I.hok.fresh (Nat.le_succ _))⟩
end Up

namespace Up
open PySem PySem.Spec PyProof.Rows L2
/-! ### sorted, int, sums of lists, list(range(n)) -/
def insI (x : Int) : List Int → List Int
  | [] => [x]
  | y :: ys => if x ≤ y then x :: y :: ys else y :: insI x ys
def isortI : List Int → List Int
  | [] => []
  | x :: xs => insI x (isortI xs)
theorem insI_perm (x : Int) : ∀ ys : List Int, (insI x ys).Perm (x :: ys)
  | [] => .refl _
  | y :: ys => by
    unfold insI
    split
    · exact .refl _
    · exact ((insI_perm x ys).cons y).trans (.swap x y ys)
theorem isortI_perm : ∀ xs : List Int, (isortI xs).Perm xs
  | [] => .refl _
  | x :: xs => (insI_perm x _).trans ((isortI_perm xs).cons x)
theorem insI_sorted (x : Int) : ∀ ys : List Int, ys.Pairwise (· ≤ ·) → (insI x ys).Pairwise (· ≤ ·)
  | [], _ => List.pairwise_singleton _ _
  | y :: ys, h => by
    unfold insI
    obtain ⟨h1, h2⟩ := List.pairwise_cons.mp h
    split
    · rename_i c
      exact List.pairwise_cons.mpr ⟨fun z hz => by
        rcases List.mem_cons.mp hz with d | d
        · rw [d]; exact c
        · exact Int.le_trans c (h1 z d), h⟩
    · rename_i c
      refine List.pairwise_cons.mpr ⟨fun z hz => ?_, insI_sorted x ys h2⟩
      rcases List.mem_cons.mp ((insI_perm x ys).mem_iff.mp hz) with d | d
      · rw [d]; omega
      · exact h1 z d
theorem isortI_sorted : ∀ xs : List Int, (isortI xs).Pairwise (· ≤ ·)
  | [] => .nil
  | x :: xs => insI_sorted x _ (isortI_sorted xs)
theorem perm_sorted : ∀ {a b : List Int}, a.Perm b → a.Pairwise (· ≤ ·) → b.Pairwise (· ≤ ·) → a = b
  | [], b, p, _, _ => (List.Perm.nil_eq p)
  | x :: a, [], p, _, _ => absurd p.length_eq (by simp)
  | x :: a, y :: b, p, ha, hb => by
    obtain ⟨a1, a2⟩ := List.pairwise_cons.mp ha
    obtain ⟨b1, b2⟩ := List.pairwise_cons.mp hb
    have e : x = y := by
      have k1 : x ≤ y := by
        rcases List.mem_cons.mp (p.mem_iff.mpr (List.mem_cons_self ..) : y ∈ x :: a) with c | c
        · omega
        · exact a1 y c
      have k2 : y ≤ x := by
        rcases List.mem_cons.mp (p.mem_iff.mp (List.mem_cons_self ..) : x ∈ y :: b) with c | c
        · omega
        · exact b1 x c
      omega
    subst e
    rw [perm_sorted (List.perm_cons _ |>.mp p) a2 b2]
section
variable {X : Cx} {cm : Cm} {a b c e : Expr} {es : List Expr} {f g h : En → Option Val} {pos : Pos}
def sortF : List Val → Option Val
  | [.tup xs] => (intsOf xs).bind fun ns => if ns.length < 64 then some (.lst ((isortI ns).map .int)) else none
  | _ => none
theorem ints_re2 {P : Addr → Prop} {H : Hp} : ∀ ns : List Int, Res cm P H (ns.map V.int) (ns.map .int)
  | [] => .nil
  | n :: ns => .cons (.int n) (ints_re2 ns)
theorem cv_sort : CaV cm (rSortT X.K) sortF := fun P xs z vs H Q hd e r q => by
  unfold sortF at e
  split at e
  case h_2 => cases e
  rename_i xs
  obtain ⟨ns, en, e⟩ := Option.bind_eq_some_iff.mp e
  split at e
  case isFalse => cases e
  rename_i l
  cases e
  obtain ⟨v, rfl, r1⟩ := Res.one r
  obtain ⟨p, ws, rfl, n1, hh, rs⟩ := Re.tup_ r1
  refine ⟨p, ns, rfl, .inl (.inl (by rw [hh, intsOf_re rs en])), l, fun ns' t pm srt nt => ?_⟩
  have k : ns' = isortI ns := perm_sorted (pm.trans (isortI_perm ns).symm) srt (isortI_sorted ns)
  subst k
  have s2 : Same H (upd H t (.lst ((isortI ns).map V.int))) := fun b o eb => by rw [upd_ne (ne_of_none eb nt)]; exact eb
  exact q _ _ s2 (.lst (hd.new nt) upd_same (ints_re2 _))
def intF : List Val → Option Val
  | [.int i] => some (.int i)
  | _ => none
theorem cv_int : CaV cm (fun xs H Q => (∃ i, xs = [.int i] ∧ Q (.int i) H) ∨ ∃ k, xs = [.bl k] ∧ Q (.int (if k then 1 else 0)) H) intF := fun P xs z vs H Q hd e r q => by
  unfold intF at e
  split at e
  case h_2 => cases e
  cases e
  obtain ⟨v, rfl, r1⟩ := Res.one r
  cases Re.int_ r1
  exact .inl ⟨_, rfl, q _ H (Same.refl H) (.int _)⟩
def catL : Val → Val → Option Val
  | .lst xs, .lst ys => if xs.length + ys.length ≤ most then some (.lst (xs ++ ys)) else none
  | _, _ => none
theorem ve_catL (ha : VE X cm a f) (hb : VE X cm b g) : VE X cm (.BinOp a .Add b pos) (bin2 catL f g) := (pe_op op_cat ha hb).weak fun σ H Q q => by
  obtain ⟨P, env, z, hs, hf, q⟩ := q
  unfold bin2 at hf
  obtain ⟨x, ex, h1⟩ := Option.bind_eq_some_iff.mp hf
  obtain ⟨y, ey, h2⟩ := Option.bind_eq_some_iff.mp h1
  refine ⟨P, env, x, hs, ex, fun v H1 s1 r1 => ⟨P, env, y, hs.same s1, ey, fun u H2 s2 r2 => ?_⟩⟩
  unfold catL at h2
  split at h2
  case h_2 => cases h2
  split at h2
  case isFalse => cases h2
  rename_i l
  cases h2
  obtain ⟨p1, vs, rfl, n1, k1, t1⟩ := Re.lst_ (Rep.same s2 r1)
  obtain ⟨p2, us, rfl, n2, k2, t2⟩ := Re.lst_ r2
  have l1 := Res.length t1
  have l2 := Res.length t2
  refine ⟨p1, p2, vs, us, rfl, rfl, k1, k2, by rw [l1, l2]; exact Nat.le_of_lt (most_line l), fun p np => ?_⟩
  have s3 : Same H2 (upd H2 p (.lst (vs ++ us))) := fun b o eb => by rw [upd_ne (ne_of_none eb np)]; exact eb
  exact q _ _ (s1.trans (s2.trans s3)) (.lst (((hs.hid.same s1).same s2).new np) upd_same (Rep.same s3 (Res.append t1 t2 : Res cm P H2 _ _)))
def lrgF (f : En → Option Val) : En → Option Val := fun env => (f env).bind fun x => match x with
  | .int j => if 0 ≤ j ∧ j ≤ 1000 then some (.lst (rangeV 0 j.toNat)) else none
  | _ => none
theorem rg_re {P : Addr → Prop} {H : Hp} : ∀ (n : Nat) (lo : Int), Res cm P H ((List.range n).map fun i : Nat => V.int (lo + (i : Int))) (rangeV lo n)
  | 0, _ => .nil
  | n + 1, lo => by
    rw [List.range_succ_eq_map, List.map_cons, List.map_map]
    show Res cm P H _ (.int lo :: rangeV (lo + 1) n)
    have e : (List.range n).map ((fun i : Nat => V.int (lo + (i : Int))) ∘ Nat.succ) = (List.range n).map fun i : Nat => V.int (lo + 1 + (i : Int)) := by
      refine List.map_congr_left fun i _ => ?_
      show V.int (lo + ((i + 1 : Nat) : Int)) = V.int (lo + 1 + (i : Int))
      congr 1
      omega
    rw [e, show lo + ((0 : Nat) : Int) = lo by omega]
    exact .cons (.int lo) (rg_re n (lo + 1))
theorem ve_listRg {p p2 q2 : Pos} (hc : X.calm = true) (hg : Gl X "list") (hm : X.mg "list" = none) (hg2 : Gl X "range") (hm2 : X.mg "range" = none) (ha : VE X cm a f)
    (na : starEach [a] X.env = (false, eval a X.env) :: starEach [] X.env := by rfl) (nb : starEach [.Call (.Name "range" p2) [a] [] q2] X.env = (false, eval (.Call (.Name "range" p2) [a] [] q2) X.env) :: starEach [] X.env := by rfl) :
    VE X cm (.Call (.Name "list" p) [.Call (.Name "range" p2) [a] [] q2] [] pos) (lrgF f) := (pe_listRg hc hg hm (prg_1 hg2 hm2 ha na) nb).weak fun σ H Q ⟨P, env, z, hs, hf, q⟩ => by
  unfold lrgF at hf
  obtain ⟨x, ex, h1⟩ := Option.bind_eq_some_iff.mp hf
  split at h1
  case h_2 => cases h1
  rename_i j
  split at h1
  case isFalse => cases h1
  rename_i hj
  cases h1
  refine ⟨P, env, _, hs, ex, fun v H1 s1 r1 => ?_⟩
  cases Re.int_ r1
  refine ⟨j, rfl, RgOk.of_le (by omega) (by omega) (by omega) (by omega), fun t nt => ?_⟩
  have s2 : Same H1 (upd H1 t (.lst (rgV 0 j))) := fun b o eb => by rw [upd_ne (ne_of_none eb nt)]; exact eb
  have er : rgV 0 j = (List.range j.toNat).map fun i : Nat => V.int (0 + (i : Int)) := by
    unfold rgV
    rw [show (j - 0).toNat = j.toNat by rw [Int.sub_zero]]
  refine q _ _ (s1.trans s2) (.lst ((hs.hid.same s1).new nt) upd_same ?_)
  rw [er]
  exact rg_re _ 0
end
end Up

namespace Up
open PySem PySem.Spec PyProof.Rows L2
abbrev st__law_doings : Stmt := (topS 56)
theorem ss__law_doings : FnScope ["rows", "found", "row"] ["rows"] (defScope st__law_doings) := ⟨rfl, rfl, rfl, by decide +kernel, rfl, by decide +kernel, by decide +kernel⟩
def g__law_doings : En → Option Out := (seqG (setG 1 (stF [] (lstF noF))) (seqG (forG [] (itF (getE 0)) (setV 2) (setG 1 (stF [] (bin2 catL (getE 1) (fun env => ((fun env => ((getE 2) env).bind fun y => (itemsOf y).bind fun xs => if xs.length ≤ most then some xs else none) env).map .lst))))) (retG (getE 1))))
def f__law_doings : List Val → Option Val := runV 3 1 g__law_doings
theorem df__law_doings {P : Program} {w : World} {K : PySem.W.Frag} {mg : Str → Option Value} {base : Heap} {cm : Cm} {f : Addr} {fd : FuncData} (D : Dd K mg "_law_doings" st__law_doings ["rows"] f fd) (T : TxtV K mg cm) : Df P w K mg base cm "_law_doings" 1 ["rows"] f__law_doings f fd :=
  okD [] D ss__law_doings (by decide) fun cdv A outer s H E hr hu => (sv_cons (sv_set (i := 1) ss__law_doings.nd rfl (Or.inl rfl) (by decide) (ve_lst va_nil) sr_st) (sv_cons (sv_for PassesOwn.never rfl (vi_seq (vv 0)) (pg_name (i := 2) ss__law_doings.nd rfl (Or.inl rfl)) (sv_one (sv_set (i := 1) ss__law_doings.nd rfl (Or.inl rfl) (by decide) (ve_catL (vv 1) (vn_ve (vn_list (by rfl) T.list bt_list (vv 2)))) sr_st)) tg_name (by decide)) (sv_one (sv_ret (vv 1)))))
abbrev st__law_many : Stmt := (topS 57)
theorem ss__law_many : FnScope ["rows"] ["rows"] (defScope st__law_many) := ⟨rfl, rfl, rfl, by decide +kernel, rfl, by decide +kernel, by decide +kernel⟩
def g__law_many : En → Option Out := (retG (bin2 (iopC (fun _ j => decide (0 < j ∧ j < 1073741824)) fun i j => .int (i / j)) (appF lenF (consF (appF f__law_doings (consF (getE 0) noF)) noF)) (cst (.int 2))))
def f__law_many : List Val → Option Val := runV 1 1 g__law_many
theorem df__law_many {P : Program} {w : World} {K : PySem.W.Frag} {mg : Str → Option Value} {base : Heap} {cm : Cm} {f : Addr} {fd : FuncData} (D : Dd K mg "_law_many" st__law_many ["rows"] f fd) (T : TxtV K mg cm) {fa__law_doings : Addr} {fd__law_doings : FuncData} (d__law_doings : Df P w K mg base cm "_law_doings" 1 ["rows"] f__law_doings fa__law_doings fd__law_doings) : Df P w K mg base cm "_law_many" 2 ["rows"] f__law_many f fd :=
  okD [] D ss__law_many (by decide) fun cdv A outer s H E hr hu => (sv_one (sv_ret (ve_op op_fdiv ov_fdiv (ve_callB call_len_seq cv_len (by rfl) T.len PySem.boot_len (va_cons (ve_callD d__law_doings (hr.mono (by decide)) (by rfl) (va_cons (vv 0) va_nil)) va_nil)) ve_int)))
abbrev st__law_ring : Stmt := (topS 59)
theorem ss__law_ring : FnScope ["size", "rows", "hand"] ["size"] (defScope st__law_ring) := ⟨rfl, rfl, rfl, by decide +kernel, rfl, by decide +kernel, by decide +kernel⟩
def g__law_ring : En → Option Out := (seqG (newG 1 (stN [1] (fun env => (noF env).bind fun xs => if xs.length ≤ most then some xs else none))) (seqG (forG [1] (rng1 (consF (getE 0) noF)) (setV 2) (appG 1 (stF [1] (lstF (consF (tupF (consF (cst (.str "send")) (consF (getE 2) noF))) (consF (tupF (consF (cst (.str "get")) (consF (bin2 (iopC (fun _ j => decide (0 < j)) fun i j => .int (i % j)) (appF intF (consF (bin2 (iop fun i j => .int (i - j)) (getE 2) (cst (.int 1))) noF)) (getE 0)) noF))) noF)))))) (retG (getE 1))))
def f__law_ring : List Val → Option Val := runV 3 1 g__law_ring
theorem df__law_ring {P : Program} {w : World} {K : PySem.W.Frag} {mg : Str → Option Value} {base : Heap} {cm : Cm} {f : Addr} {fd : FuncData} (D : Dd K mg "_law_ring" st__law_ring ["size"] f fd) (T : TxtV K mg cm) : Df P w K mg base cm "_law_ring" 1 ["size"] f__law_ring f fd :=
  okD [1] D ss__law_ring (by decide) fun cdv A outer s H E hr hu => (sv_cons (sv_new (i := 1) ss__law_ring.nd rfl (Or.inl rfl) (by decide) (vn_lst va_nil) sn_st) (sv_cons (sv_for PassesOwn.never rfl (vi_range1 (by rfl) T.range (va_cons (vv 0) va_nil)) (pg_name (i := 2) ss__law_ring.nd rfl (Or.inl rfl)) (sv_one (sv_app0 (i := 1) (ps_expr (pe_bm PySem.F.plainAttrs_list PySem.F.slot_list_append PySem.F.type_list_append mt_append (pv 1) (pa_cons (ve_lst (va_cons (ve_tup (va_cons ve_str (va_cons (vv 2) va_nil))) (va_cons (ve_tup (va_cons ve_str (va_cons (ve_op op_mod ov_mod (ve_callTy call_int1 cv_int (by rfl) T.int bt_int (va_cons (ve_op op_sub ov_sub (vv 2) ve_int) va_nil)) (vv 0)) va_nil))) va_nil))) pa_nil))) (by decide) sr_st)) tg_name (by decide)) (sv_one (sv_ret (vv 1)))))
end Up

namespace Up
open PySem PySem.Spec PyProof.Rows L2
theorem FnOk.any {P : Program} {w : World} {K : PySem.W.Frag} {mg : Str → Option Value} {base : Heap} {CX : CXT} {k : Nat} {f : Addr} {fd : FuncData} {ps : List Str} {α : Type} {sp : α → Sp} (F : ∀ a, FnOk P w K mg base CX k f fd ps (sp a)) :
    FnOk P w K mg base CX k f fd ps fun vs H Q E => ∃ a, sp a vs H Q E :=
  ⟨fun vs H Q E ⟨a, h⟩ => (F a).len vs H Q E h, fun A outer s H ar us vs Q E hr e0 hb rv ⟨a, h⟩ => (F a).run A outer s H ar us vs Q E hr e0 hb rv h⟩
theorem MAt.ne {H : Hp} {m g : Addr} {b : Nat} (M : MAt H m g b) {p : Addr} (n : H p = none) : p ≠ m ∧ p ≠ g := ⟨fun c => M.m_some (c ▸ n), fun c => M.g_some (c ▸ n)⟩
/-- all but m and g -/
def hide (m g : Addr) (H : Hp) : Hp := fun b => if b = m ∨ b = g then none else H b
theorem hide_at {m g b : Addr} {H : Hp} {o : HO} (h : H b = some o) (n : b ≠ m ∧ b ≠ g) : hide m g H b = some o := by
  unfold hide
  rw [if_neg (fun c => c.elim n.1 n.2)]
  exact h
theorem hide_of {m g b : Addr} {H : Hp} {o : HO} (h : hide m g H b = some o) : (b ≠ m ∧ b ≠ g) ∧ H b = some o := by
  unfold hide at h
  by_cases c : b = m ∨ b = g
  · rw [if_pos c] at h
    cases h
  · rw [if_neg c] at h
    exact ⟨⟨fun z => c (.inl z), fun z => c (.inr z)⟩, h⟩
theorem hide_same {m g : Addr} {H : Hp} : Same (hide m g H) H := fun b o e => (hide_of e).2
theorem Same.hide {m g : Addr} {H H' : Hp} (s : Same H H') : Same (hide m g H) (hide m g H') := fun b o e => hide_at (s _ _ (hide_of e).2) (hide_of e).1
theorem But.hide {m g : Addr} {H H' : Hp} (B : But m g H H') : Same (hide m g H) (hide m g H') := fun b o e => hide_at (B _ _ (hide_of e).2 (hide_of e).1.1 (hide_of e).1.2) (hide_of e).1
theorem MAt.tup {H : Hp} {m g : Addr} {b : Nat} (M : MAt H m g b) {p : Addr} {xs : List V} (h : H p = some (.tup xs)) : p ≠ m ∧ p ≠ g := by
  obtain ⟨c, cs, gs, n, h1, h2, h3, h4, _⟩ := M.ex
  exact ⟨ne_of h h1 (by intro z; cases z), ne_of h h4 (by intro z; cases z)⟩
theorem MAt.ins {H : Hp} {m g : Addr} {b : Nat} (M : MAt H m g b) {p C d : Addr} {fs : List (Str × V)} (h : H p = some (.ins C d fs)) : p ≠ m ∧ p ≠ g := by
  obtain ⟨c, cs, gs, n, h1, h2, h3, h4, _⟩ := M.ex
  exact ⟨ne_of h h1 (by intro z; cases z), ne_of h h4 (by intro z; cases z)⟩
end Up

namespace Up
open PySem PySem.Spec PyProof.Rows L2
/-! ### rows at lists of their own -/
/-- rows at lists -/
structure RL (H : Hp) (a : Addr) (rs : List Addr) (gss : List (List Dg)) : Prop where
  at_ : H a = some (.lst (rs.map V.ref))
  len : rs.length = gss.length
  nd : rs.Nodup
  na : a ∉ rs
  row : ∀ (i : Nat) (t : Addr) (gs : List Dg), rs[i]? = some t → gss[i]? = some gs → ∃ qs : List Addr, H t = some (.lst (qs.map V.ref)) ∧ qs.length = gs.length ∧ ∀ (j : Nat) (q : Addr) (g : Dg), qs[j]? = some q → gs[j]? = some g → H q = some (.tup g.vs)
theorem RL.rows {H : Hp} {a : Addr} {rs : List Addr} {gss : List (List Dg)} (r : RL H a rs gss) : RowsG H a gss :=
  ⟨rs, .inl r.at_, r.len, fun i t gs e1 e2 => let ⟨qs, h1, h2, h3⟩ := r.row i t gs e1 e2; ⟨qs, .inl h1, h2, h3⟩⟩
/-- all that a draw leaves -/
theorem RL.but {H H' : Hp} {m g : Addr} {b : Nat} (M : MAt H m g b) (B : But m g H H') {a : Addr} {rs : List Addr} {gss : List (List Dg)} (na : a ≠ m ∧ a ≠ g) (nr : ∀ t ∈ rs, t ≠ m ∧ t ≠ g) (r : RL H a rs gss) : RL H' a rs gss := by
  refine ⟨B _ _ r.at_ na.1 na.2, r.len, r.nd, r.na, fun i t gs e1 e2 => ?_⟩
  obtain ⟨qs, h1, h2, h3⟩ := r.row i t gs e1 e2
  have nt := nr t (List.mem_of_getElem? e1)
  exact ⟨qs, B _ _ h1 nt.1 nt.2, h2, fun j q g e3 e4 => B _ _ (h3 j q g e3 e4) (M.tup (h3 j q g e3 e4)).1 (M.tup (h3 j q g e3 e4)).2⟩
theorem RL.same {H H' : Hp} (s : Same H H') {a : Addr} {rs : List Addr} {gss : List (List Dg)} (r : RL H a rs gss) : RL H' a rs gss :=
  ⟨s _ _ r.at_, r.len, r.nd, r.na, fun i t gs e1 e2 => let ⟨qs, h1, h2, h3⟩ := r.row i t gs e1 e2; ⟨qs, s _ _ h1, h2, fun j q g e3 e4 => s _ _ (h3 j q g e3 e4)⟩⟩
/-- one more doing in a row -/
theorem nodup_at {l : List Addr} (nd : l.Nodup) {i j : Nat} {x : Addr} (e1 : l[i]? = some x) (e2 : l[j]? = some x) : i = j := by
  have k1 := List.getElem?_eq_some_iff.mp e1
  have k2 := List.getElem?_eq_some_iff.mp e2
  exact (List.getElem_inj nd).mp (k1.2.trans k2.2.symm)
theorem RL.put {H : Hp} {a : Addr} {rs : List Addr} {gss : List (List Dg)} (r : RL H a rs gss) {i : Nat} {t q : Addr} {gs : List Dg} {g : Dg} {qs : List Addr} (e1 : rs[i]? = some t) (e2 : gss[i]? = some gs) (h1 : H t = some (.lst (qs.map V.ref))) (h2 : qs.length = gs.length)
    (h3 : ∀ (j : Nat) (q : Addr) (g : Dg), qs[j]? = some q → gs[j]? = some g → H q = some (.tup g.vs)) (hq : H q = some (.tup g.vs)) : RL (upd H t (.lst (qs.map V.ref ++ [.ref q]))) a rs (gss.set i (gs ++ [g])) := by
  have tn : ∀ {c : Addr} {ys : List V}, H c = some (.tup ys) → c ≠ t := fun {c ys} e z => by
    rw [z, h1] at e
    cases e
  refine ⟨by rw [upd_ne (fun z => r.na (by rw [z]; exact List.mem_of_getElem? e1))]; exact r.at_, by rw [List.length_set]; exact r.len, r.nd, r.na, fun k u gs' a1 a2 => ?_⟩
  by_cases c : k = i
  · subst c
    rw [e1] at a1
    cases a1
    rw [List.getElem?_set_self (List.getElem?_eq_some_iff.mp e2).1] at a2
    cases a2
    refine ⟨qs ++ [q], by rw [upd_same, List.map_append]; rfl, by rw [List.length_append, List.length_append, h2]; rfl, fun j x y b1 b2 => ?_⟩
    rcases Nat.lt_or_ge j qs.length with d | d
    · rw [List.getElem?_append_left d] at b1
      rw [List.getElem?_append_left (by omega)] at b2
      rw [upd_ne (tn (h3 j x y b1 b2))]
      exact h3 j x y b1 b2
    · have hl := (List.getElem?_eq_some_iff.mp b1).1
      simp only [List.length_append, List.length_cons, List.length_nil] at hl
      have ej : j = qs.length := by omega
      subst ej
      rw [List.getElem?_append_right (Nat.le_refl _), Nat.sub_self] at b1
      rw [h2, List.getElem?_append_right (Nat.le_refl _), Nat.sub_self] at b2
      cases b1
      cases b2
      rw [upd_ne (tn hq)]
      exact hq
  · rw [List.getElem?_set_ne (fun z => c z.symm)] at a2
    obtain ⟨qs', k1, k2, k3⟩ := r.row k u gs' a1 a2
    have ut : u ≠ t := fun z => by
      subst z
      exact c (nodup_at r.nd a1 e1)
    exact ⟨qs', by rw [upd_ne ut]; exact k1, k2, fun j x y b1 b2 => by rw [upd_ne (tn (k3 j x y b1 b2))]; exact k3 j x y b1 b2⟩
end Up

namespace Up
open PySem PySem.Spec PyProof.Rows L2
/-! ### drawn -/
abbrev st_drawn : Stmt := (topS 26)
theorem ss_drawn : FnScope ["hands", "pairs", "rows", "letter", "pair", "hand"] ["hands", "pairs"] (defScope st_drawn) := ⟨rfl, rfl, rfl, by decide +kernel, rfl, by decide +kernel, by decide +kernel⟩
def dr_t1 : En → Option Bool := (orT (notT (tst (appF f_is_index (consF (getE 0) (consF (bin2 (iop fun i j => .int (i + j)) (cst (.int 6)) (cst (.int 1))) noF))))) (tst (bin2 (eqF false) (getE 0) (cst (.int 0)))))
def dr_t2 : En → Option Bool := (notT (tst (appF f_is_listing (consF (getE 1) (consF (cst (.int 12)) noF)))))
def dr_t3 : En → Option Bool := (notT (tst (appF f_is_hand_pair (consF (getE 4) (consF (getE 0) noF)))))
def dr_fi : En → Option (List Val) := (enuL (consF (getE 1) noF))
def pairOf : Val → Option (Nat × Nat)
  | .tup [.int a, .int b] => if 0 ≤ a ∧ 0 ≤ b then some (a.toNat, b.toNat) else none
  | _ => none
theorem pairOf_eq {x : Val} {p : Nat × Nat} (h : pairOf x = some p) : x = .tup [.int (p.1 : Int), .int (p.2 : Int)] := by
  unfold pairOf at h
  split at h
  case h_2 => cases h
  split at h
  case isFalse => cases h
  rename_i a b hab
  cases h
  show _ = Val.tup [.int ((a.toNat : Nat) : Int), .int ((b.toNat : Nat) : Int)]
  rw [Int.toNat_of_nonneg hab.1, Int.toNat_of_nonneg hab.2]
def putD (gss : List (List Dg)) (i : Nat) (g : Dg) : Option (List (List Dg)) := (gss[i]?).map fun gs => gss.set i (gs ++ [g])
def drEnv (h py : Val) : En := [some h, some py, none, none, none, none]
def drEnv2 (h py : Val) (l : Int) (x : Val) : En := [some h, some py, none, some (.int l), some x, none]
def drGo (h py : Val) : List Val → List (List Dg) → Option (List (List Dg))
  | [], gss => some gss
  | .tup [.int l, x] :: ys, gss => if 0 ≤ l ∧ dr_t3 (drEnv2 h py l x) = some false then (pairOf x).bind fun p => (putD gss p.1 ⟨true, l.toNat⟩).bind fun g1 => (putD g1 p.2 ⟨false, l.toNat⟩).bind fun g2 => drGo h py ys g2 else none
  | _ :: _, _ => none
def f_drawn : List Val → Option Val
  | [.int h, py] => if 0 ≤ h ∧ h ≤ 1000 ∧ dr_t1 (drEnv (.int h) py) = some false ∧ dr_t2 (drEnv (.int h) py) = some false then
      (dr_fi (drEnv (.int h) py)).bind fun ys => if ys.length ≤ 1000 then (drGo (.int h) py ys (List.replicate h.toNat [])).bind mkT else none
    else none
  | _ => none
theorem f_drawn_some {xs : List Val} {z : Val} (e : f_drawn xs = some z) : ∃ (n : Nat) (py : Val) (ys : List Val) (gss : List (List Dg)), xs = [.int (n : Int), py] ∧ n ≤ 1000 ∧ dr_t1 (drEnv (.int (n : Int)) py) = some false ∧ dr_t2 (drEnv (.int (n : Int)) py) = some false ∧
    dr_fi (drEnv (.int (n : Int)) py) = some ys ∧ ys.length ≤ 1000 ∧ drGo (.int (n : Int)) py ys (List.replicate n []) = some gss ∧ mkT gss = some z := by
  unfold f_drawn at e
  split at e
  case h_2 => cases e
  rename_i h py
  split at e
  case isFalse => cases e
  rename_i hc
  obtain ⟨h0, h1, h2, h3⟩ := hc
  obtain ⟨ys, e1, e2⟩ := Option.bind_eq_some_iff.mp e
  split at e2
  case isFalse => cases e2
  rename_i hl
  obtain ⟨gss, e3, e4⟩ := Option.bind_eq_some_iff.mp e2
  have eh : ((h.toNat : Nat) : Int) = h := Int.toNat_of_nonneg h0
  refine ⟨h.toNat, py, ys, gss, by rw [eh], by omega, ?_, ?_, ?_, hl, ?_, e4⟩ <;> rw [eh] <;> assumption
theorem slotsS {cm : Cm} {P : Addr → Prop} {H : Hp} {v0 v1 : V} {x0 x1 : Val} (hd : Hid P H) (r0 : Re cm P H v0 x0) (r1 : Re cm P H v1 x1) : Slots cm P H [some v0, some v1, none, none, none, none] (drEnv x0 x1) := by
  refine ⟨rfl, fun i x e => ?_, hd⟩
  match i, e with
  | 0, e => cases e; exact ⟨_, rfl, r0⟩
  | 1, e => cases e; exact ⟨_, rfl, r1⟩
  | 2, e => cases e
  | 3, e => cases e
  | 4, e => cases e
  | 5, e => cases e
  | _ + 6, e => cases e
theorem drGo_cons {h py y : Val} {ys : List Val} {gss g : List (List Dg)} (e : drGo h py (y :: ys) gss = some g) : ∃ (l : Int) (x : Val) (p : Nat × Nat) (g1 g2 : List (List Dg)), y = .tup [.int l, x] ∧ 0 ≤ l ∧ dr_t3 (drEnv2 h py l x) = some false ∧ pairOf x = some p ∧
    putD gss p.1 ⟨true, l.toNat⟩ = some g1 ∧ putD g1 p.2 ⟨false, l.toNat⟩ = some g2 ∧ drGo h py ys g2 = some g := by
  unfold drGo at e
  split at e
  · rename_i heq
    cases heq
  · rename_i l x ys' gs' heq
    cases heq
    split at e
    case isFalse => cases e
    rename_i hc
    obtain ⟨p, ep, e⟩ := Option.bind_eq_some_iff.mp e
    obtain ⟨g1, ep1, e⟩ := Option.bind_eq_some_iff.mp e
    obtain ⟨g2, ep2, e⟩ := Option.bind_eq_some_iff.mp e
    exact ⟨_, _, p, g1, g2, rfl, hc.1, hc.2, ep, ep1, ep2, e⟩
  · cases e
theorem slots6 {cm : Cm} {P : Addr → Prop} {H : Hp} {v0 v1 d : V} {v3 v4 v5 : Option V} {x0 x1 : Val} (hd : Hid P H) (r0 : Re cm P H v0 x0) (r1 : Re cm P H v1 x1) : Slots cm P H [some v0, some v1, some d, v3, v4, v5] (drEnv x0 x1) := by
  refine ⟨rfl, fun i x e => ?_, hd⟩
  match i, e with
  | 0, e => cases e; exact ⟨_, rfl, r0⟩
  | 1, e => cases e; exact ⟨_, rfl, r1⟩
  | 2, e => cases e
  | 3, e => cases e
  | 4, e => cases e
  | 5, e => cases e
  | _ + 6, e => cases e
theorem slots6b {cm : Cm} {P : Addr → Prop} {H : Hp} {v0 v1 d v4 : V} {v5 : Option V} {x0 x1 x4 : Val} {l : Int} (hd : Hid P H) (r0 : Re cm P H v0 x0) (r1 : Re cm P H v1 x1) (r4 : Re cm P H v4 x4) : Slots cm P H [some v0, some v1, some d, some (.int l), some v4, v5] (drEnv2 x0 x1 l x4) := by
  refine ⟨rfl, fun i x e => ?_, hd⟩
  match i, e with
  | 0, e => cases e; exact ⟨_, rfl, r0⟩
  | 1, e => cases e; exact ⟨_, rfl, r1⟩
  | 3, e => cases e; exact ⟨_, rfl, .int l⟩
  | 4, e => cases e; exact ⟨_, rfl, r4⟩
  | 2, e => cases e
  | 5, e => cases e
  | _ + 6, e => cases e
/-- one row's list gets one more doing -/
theorem RL.app {H : Hp} {D : Addr} {rs : List Addr} {gss g1 : List (List Dg)} (r : RL H D rs gss) {i : Nat} {g : Dg} (e : putD gss i g = some g1) : ∃ (t : Addr) (gs : List Dg) (qs : List Addr), rs[i]? = some t ∧ t ∈ rs ∧ gss[i]? = some gs ∧ H t = some (.lst (qs.map V.ref)) ∧ qs.length = gs.length ∧
    ∀ q, H q = some (.tup g.vs) → RL (upd H t (.lst (qs.map V.ref ++ [.ref q]))) D rs g1 := by
  unfold putD at e
  obtain ⟨gs, eg, rfl⟩ := Option.map_eq_some_iff.mp e
  have lt : i < rs.length := by
    rw [r.len]
    exact (List.getElem?_eq_some_iff.mp eg).1
  have et : rs[i]? = some rs[i] := List.getElem?_eq_getElem lt
  obtain ⟨qs, k1, k2, k3⟩ := r.row i _ gs et eg
  exact ⟨rs[i], gs, qs, et, List.getElem_mem lt, eg, k1, k2, fun q hq => r.put et eg k1 k2 k3 hq⟩
def rowsLe (gss : List (List Dg)) (n : Nat) : Prop := ∀ gs ∈ gss, gs.length ≤ n
theorem rowsLe.put {gss g1 : List (List Dg)} {i n : Nat} {g : Dg} (h : rowsLe gss n) (e : putD gss i g = some g1) : rowsLe g1 (n + 1) := by
  unfold putD at e
  obtain ⟨gs, eg, rfl⟩ := Option.map_eq_some_iff.mp e
  intro y hy
  rcases List.mem_or_eq_of_mem_set hy with c | c
  · have := h y c
    omega
  · subst c
    have := h gs (List.mem_of_getElem? eg)
    rw [List.length_append]
    show gs.length + 1 ≤ _
    omega
theorem put_keep {P2 : Addr → Prop} {H4 Hx : Hp} {t : Addr} {o : HO} (k : Keep P2 H4 Hx) (p : P2 t) : Keep P2 H4 (upd Hx t o) := fun b o' e n => by
  rw [upd_ne (fun z => n (by rw [z]; exact p))]
  exact k b o' e n
theorem put_hid {P2 : Addr → Prop} {Hx : Hp} {t : Addr} {xs : List V} (h : Hid P2 Hx) : Hid P2 (upd Hx t (.lst xs)) := fun a p => by
  by_cases c : a = t
  · subst c
    exact ⟨_, upd_same, fun vs z => by cases z⟩
  · obtain ⟨o, e, n⟩ := h a p
    exact ⟨o, by rw [upd_ne c]; exact e, n⟩
theorem put_same {H Hx : Hp} {t : Addr} {o : HO} (s : Same H Hx) (n : H t = none) : Same H (upd Hx t o) := fun b o' e => by
  rw [upd_ne (ne_of_none e n)]
  exact s b o' e
section
variable {P : Program} {w : World} {K : PySem.W.Frag} {mg : Str → Option Value} {base : Heap} {cm : Cm}
theorem df_drawn {f : Addr} {fd : FuncData} (D : Dd K mg "drawn" st_drawn ["hands", "pairs"] f fd) (T : TxtV K mg cm) {fa_is_index : Addr} {fd_is_index : FuncData} (d_is_index : Df P w K mg base cm "is_index" 2 ["value", "many"] f_is_index fa_is_index fd_is_index) {fa_is_listing : Addr} {fd_is_listing : FuncData} (d_is_listing : Df P w K mg base cm "is_listing" 1 ["value", "most"] f_is_listing fa_is_listing fd_is_listing) {fa_is_hand_pair : Addr} {fd_is_hand_pair : FuncData} (d_is_hand_pair : Df P w K mg base cm "is_hand_pair" 3 ["value", "hands"] f_is_hand_pair fa_is_hand_pair fd_is_hand_pair) {tH tL : Tok} (cH : mg "MOST_HANDS" = some (.int 6 tH)) (cL : mg "MOST_LETTERS" = some (.int 12 tL))
    {C fI : Addr} {fdI : FuncData} (hC : cm.cls 0 = C) (MT : Mk K C fI) (GT : ∀ Ck, FnOk P w K mg base CX0 5 fI fdI ["self", "rows"] (spTInit C Sl0 Ck)) (bT : Binds K fdI ["self", "rows"] []) (TT : mg "Talk" = some (.ref C)) : Df P w K mg base cm "drawn" 7 ["hands", "pairs"] f_drawn f fd := by
  have GT2 := FnOk.any GT
  refine ⟨D.fn.ok ss_drawn (fun vs H Q E h => ?_) (fun cdv A outer s H vs Q E hr h => ?_), D.at_, D.fn.kp, D.bd⟩
  · obtain ⟨P', xs, z, _, r, e, _⟩ := h
    obtain ⟨n, py, ys, gss, rfl, _⟩ := f_drawn_some e
    rw [Res.length r]
    rfl
  · obtain ⟨P', xs, z, hd, r, e, q⟩ := h
    obtain ⟨n, py, ys, gss, rfl, n1000, e1, e2, e3, yl, eg, ez⟩ := f_drawn_some e
    clear e
    have hu : (A.deeper (envOfC "drawn" (defScope st_drawn) s.heap.objs.size f cdv)).units + 64 < cLine := by
      have := hr.un
      omega
    cases r with
    | cons ra rt =>
    rename_i v1 vt
    cases rt with
    | cons rb rn =>
    rename_i v2 vt
    cases rn
    cases Re.int_ ra
    refine ⟨_, (pss_cons (ps_if (PW.pt (vw_or (vt_not (vt_val (ve_callD d_is_index (hr.mono (by decide)) (by rfl) (va_cons (vv 0) (va_cons (ve_op op_add ov_add (ve_glob (i := 6) rfl cH) ve_int) va_nil))))) (vw_or1 (vt_cmp (op_eqD hu) ov_eq (vv 0) ve_int (nomark _))))) (pss_one ps_never) pss_nil) (pss_cons (ps_if (vt_not (vt_val (ve_callD d_is_listing (hr.mono (by decide)) (by rfl) (va_cons (vv 1) (va_cons (ve_glob (i := 12) rfl cL) va_nil))))) (pss_one ps_never) pss_nil) (pss_cons (ps_setLc (i := 2) (own := [("hand", 5)]) (tt := tYes) rfl ss_drawn.nd rfl rfl (sw_true rfl rfl rfl (by decide +kernel)) (pi_range1 (by rfl) T.range (pa_cons (pv 0) pa_nil)) (blkOk_by (own := [("hand", 5)]) (N := ["hands", "pairs", "rows", "letter", "pair", "hand"]) (sc := defScope st_drawn) (by decide +kernel)) (fun _ _ _ _ _ => (pg_name (i := 5) ss_drawn.nd rfl (Or.inl rfl))) (fun _ _ _ _ _ => pts_nil) (fun _ _ _ _ _ => (pe_lst pa_nil))) (pss_cons (ps_for PassesOwn.never rfl (vi_enL (cm := cm) (by rfl) T.enumerate (va_cons (vv 1) va_nil)) (pg_tup (n := 2) (by rfl) (pgs_cons (pg_name (i := 3) ss_drawn.nd rfl (Or.inl rfl)) (pgs_cons (pg_name (i := 4) ss_drawn.nd rfl (Or.inl rfl)) pgs_nil))) (pss_cons (ps_if (vt_not (vt_val (ve_callD d_is_hand_pair (hr.mono (by decide)) (by rfl) (va_cons (vv 4) (va_cons (vv 0) va_nil))))) (pss_one ps_never) pss_nil) (pss_cons (ps_expr (pe_bm PySem.F.plainAttrs_list PySem.F.slot_list_append PySem.F.type_list_append mt_append (pe_ix ix_list (pv 2) (pe_ix ix_tup (pv 4) pe_int (fun _ _ => rfl)) (fun _ _ => rfl)) (pa_cons (pe_tup (pa_cons pe_str (pa_cons (pv 3) pa_nil))) pa_nil))) (pss_one (ps_expr (pe_bm PySem.F.plainAttrs_list PySem.F.slot_list_append PySem.F.type_list_append mt_append (pe_ix ix_list (pv 2) (pe_ix ix_tup (pv 4) pe_int (fun _ _ => rfl)) (fun _ _ => rfl)) (pa_cons (pe_tup (pa_cons pe_str (pa_cons (pv 3) pa_nil))) pa_nil))))))) (pss_one (ps_ret (pe_make MT GT2 (hr.mono (by decide)) (by rfl) TT bT .nil pass0 (pa_cons (pv 2) pa_nil)))))))), ?_⟩
    have S0 : Slots cm P' H [some (.int (n : Int)), some v2, none, none, none, none] (drEnv (.int (n : Int)) py) := slotsS hd (.int _) rb
    refine ⟨P', _, false, S0, e1, fun H1 s1 => ?_⟩
    refine ⟨P', _, false, S0.same s1, e2, fun H2 s2 => ?_⟩
    have s02 : Same H H2 := s1.trans s2
    refine ⟨_, rfl, (n : Int), rfl, by omega, by omega, fun D nD => lc_range (lo := 0) (n := n) (fun i H3 => ∃ rs : List Addr, rs.length = i ∧ H3 D = some (.lst (rs.map V.ref)) ∧ rs.Nodup ∧ D ∉ rs ∧ (∀ t ∈ rs, H3 t = some (.lst []) ∧ H2 t = none) ∧ Same H2 H3)
      ⟨[], rfl, upd_same, List.nodup_nil, List.not_mem_nil, fun t ht => (by cases ht), same_new nD⟩ ?_ ?_⟩
    · rintro i H3 hi ⟨rs, hl, hD, nd, nDr, hr', sm⟩
      refine ⟨rfl, Nat.zero_le _, fun t nt => ?_⟩
      have st := @same_new H3 t (.lst []) nt
      have nt0 : H2 t = none := sm.free nt
      have tD : t ≠ D := fun z => by
        rw [z, hD] at nt
        cases nt
      have tr : t ∉ rs := fun z => by
        rw [(hr' t z).1] at nt
        cases nt
      refine ⟨_, st _ _ hD, by rw [List.length_map]; exact small1000 (by omega), rs ++ [t], by rw [List.length_append, hl]; rfl, by rw [upd_same, List.map_append]; rfl, List.nodup_append.mpr ⟨nd, List.nodup_cons.mpr ⟨List.not_mem_nil, List.nodup_nil⟩, fun x hx y hy => ?_⟩, fun z => ?_, fun x hx => ?_, fun x o e => ?_⟩
      · rcases List.mem_cons.mp hy with c | c
        · exact fun z => tr (by rw [← c, ← z]; exact hx)
        · cases c
      · rcases List.mem_append.mp z with c | c
        · exact nDr c
        · rcases List.mem_cons.mp c with c | c
          · exact tD c.symm
          · cases c
      · rcases List.mem_append.mp hx with c | c
        · have xD : x ≠ D := fun z => nDr (z ▸ c)
          exact ⟨by rw [upd_ne xD]; exact st _ _ (hr' x c).1, (hr' x c).2⟩
        · rcases List.mem_cons.mp c with c | c
          · subst c
            exact ⟨by rw [upd_ne tD]; exact upd_same, nt0⟩
          · cases c
      · rw [upd_ne (ne_of_none e nD)]
        exact st _ _ (sm _ _ e)
    · rintro H3 ⟨rs, hl, hD, nd, nDr, hr', sm⟩
      have s03 : Same H H3 := s02.trans sm
      have nD0 : H D = none := s02.free nD
      have R3 : RL H3 D rs (List.replicate n []) := ⟨hD, by rw [List.length_replicate]; exact hl, nd, nDr, fun i t gs a1 a2 => by
        have k := List.eq_of_mem_replicate (List.mem_of_getElem? a2)
        subst k
        exact ⟨[], (hr' t (List.mem_of_getElem? a1)).1, rfl, fun j x y b1 b2 => by cases b1⟩⟩
      have hP2 : ∀ a, (P' a ∨ a = D ∨ a ∈ rs) → P' a ∨ H a = none := fun a c => by
        rcases c with c | rfl | c
        · exact .inl c
        · exact .inr nD0
        · exact .inr (s02.free (hr' a c).2)
      have hd3 : Hid (fun a => P' a ∨ a = D ∨ a ∈ rs) H3 := fun a c => by
        rcases c with c | rfl | c
        · exact (hd a c).same s03
        · exact ⟨_, hD, fun vs z => by cases z⟩
        · exact ⟨_, (hr' a c).1, fun vs z => by cases z⟩
      have rb3 : Re cm (fun a => P' a ∨ a = D ∨ a ∈ rs) H3 v2 py := Rep.move hP2 (Keep.of s03) rb
      refine ⟨fun a => P' a ∨ a = D ∨ a ∈ rs, _, ys, slots6 hd3 (.int _) rb3, e3, fun J H4 s4 wk => ?_⟩
      refine for_it wk (fun i σ' H' => ∃ gss' v3 v4, σ' = [some (.int (n : Int)), some v2, some (.ref D), v3, v4, none] ∧ RL H' D rs gss' ∧ Keep (fun a => P' a ∨ a = D ∨ a ∈ rs) H4 H' ∧ Hid (fun a => P' a ∨ a = D ∨ a ∈ rs) H' ∧ drGo (.int (n : Int)) py (ys.drop i) gss' = some gss ∧ rowsLe gss' (2 * i) ∧ Same H H')
        ⟨_, _, _, rfl, R3.same s4, .refl, hd3.same s4, eg, fun gs hg => by rw [List.eq_of_mem_replicate hg]; exact Nat.zero_le _, s03.trans s4⟩ (fun i σ' H' _ ⟨_, _, _, _, _, k1, k2, _⟩ => ⟨k1, k2⟩) ?_ ?_
      · rintro i x σ' H' H5 hi ⟨gss', v3, v4, rfl, R5, kp, hid, hgo, hle, sH⟩ ⟨s5, y, ey, ry⟩
        have ry2 := ry _ (fun a c => .inl c) hid
        have dr : ys.drop i = y :: ys.drop (i + 1) := by
          obtain ⟨lt, eq⟩ := List.getElem?_eq_some_iff.mp ey
          rw [List.drop_eq_getElem_cons lt, eq]
        rw [dr] at hgo
        obtain ⟨l, x', ⟨pa, pb⟩, g1, g2, rfl, l0, e4, ep, ep1, ep2, hgo2⟩ := drGo_cons hgo
        have tgv : TgV cm (gTup K 2 (gCons (gName 3) (gCons (gName 4) gNil))) (setTup 2 (setCo (setV 3) (setCo (setV 4) setNo))) _ := tg_tup (tgs_cons tg_name (tgs_cons tg_name tgs_nil))
        obtain ⟨qs, pr, mm, go⟩ := tgv.go _ H5 x _ [(3, .int l), (4, x')] ry2 rfl
        cases pr with
        | cons a t =>
        cases t with
        | cons b t2 =>
        cases t2
        clear mm
        rename_i q1 q2
        obtain ⟨q1, u1⟩ := q1
        obtain ⟨q2, u2⟩ := q2
        obtain ⟨a1, a2⟩ := a
        obtain ⟨b1, b2⟩ := b
        cases a1
        cases b1
        cases Re.int_ a2
        refine go _ _ ?_
        have hd5 := hid.same s5
        have k5 : Keep (fun a => P' a ∨ a = D ∨ a ∈ rs) H4 H5 := kp.trans (.of s5)
        have rb5 : Re cm (fun a => P' a ∨ a = D ∨ a ∈ rs) H5 v2 py := Rep.keep k5 (Rep.same s4 rb3)
        refine ⟨fun a => P' a ∨ a = D ∨ a ∈ rs, _, false, slots6b hd5 (.int _) rb5 b2, e4, fun H6 s6 => ?_⟩
        have e5 := pairOf_eq ep
        subst e5
        obtain ⟨p2, ws, rfl, np2, hp2, rp2⟩ := Re.tup_ b2
        cases rp2 with
        | cons c1 c2 =>
        cases c2 with
        | cons c2 c3 =>
        cases c3
        cases Re.int_ c1
        cases Re.int_ c2
        have R6 := (R5.same s5).same s6
        have hp6 := s6 _ _ hp2
        obtain ⟨t1, gs1, qs1, f1, f2, f3, f4, f5, f6⟩ := R6.app ep1
        have l1 : qs1.length ≤ 2000 := by
          rw [f5]
          have := hle gs1 (List.mem_of_getElem? f3)
          omega
        have P1 : P' t1 ∨ t1 = D ∨ t1 ∈ rs := .inr (.inr f2)
        have nt1 : H t1 = none := s02.free (hr' t1 f2).2
        refine ⟨_, rfl, _, rfl, p2, _, 0, _, rfl, rfl, .inl (.inl hp6), rfl, D, _, _, _, rfl, rfl, .inl (.inl R6.at_), atI_nat (j := pa) (by rw [List.getElem?_map, f1]; rfl), (show tyV K "list" (.ref t1) H6 from Or.inl ⟨rfl, _, .inl (.inl f4)⟩), _, rfl, by show 2 ≤ sizeLine; decide, fun q1 nq1 => ?_⟩
        have z1 := @same_new H6 q1 (.tup [.str "send", .int l]) nq1
        refine ⟨t1, _, _, rfl, rfl, z1 _ _ f4, by rw [List.length_map]; exact Nat.lt_of_le_of_lt l1 (by decide), ?_⟩
        have R7 : RL (upd (upd H6 q1 (.tup [.str "send", .int l])) t1 (.lst (qs1.map V.ref ++ [.ref q1]))) D rs g1 := by
          obtain ⟨t1', gs1', qs1', f1', _, _, f4', _, f6'⟩ := (R6.same z1).app ep1
          rw [f1] at f1'
          cases f1'
          rw [z1 _ _ f4] at f4'
          have eq : qs1.map V.ref = qs1'.map V.ref := by
            injection f4' with a
            injection a
          rw [eq]
          exact f6' q1 (by rw [upd_same]; show some (HO.tup [V.str "send", V.int l]) = some (HO.tup [V.str "send", V.int ((l.toNat : Nat) : Int)]); rw [Int.toNat_of_nonneg l0])
        have k7 := put_keep (o := .lst (qs1.map V.ref ++ [.ref q1])) ((k5.trans (.of s6)).trans (.of z1)) P1
        have hd7 := put_hid (t := t1) (xs := qs1.map V.ref ++ [.ref q1]) ((hd5.same s6).same z1)
        have sH7 := put_same (o := .lst (qs1.map V.ref ++ [.ref q1])) (((sH.trans s5).trans s6).trans z1) nt1
        have tn : p2 ≠ t1 := fun z => by
          rw [z, f4] at hp6
          cases hp6
        have hp7 : upd (upd H6 q1 (.tup [.str "send", .int l])) t1 (.lst (qs1.map V.ref ++ [.ref q1])) p2 = some (.tup [.int (pa : Int), .int (pb : Int)]) := by
          rw [upd_ne tn]
          exact z1 _ _ hp6
        have hle7 := hle.put ep1
        clear f4 f6 R6 z1 nq1
        revert R7 k7 hd7 sH7 hp7
        generalize upd (upd H6 q1 (.tup [.str "send", .int l])) t1 (.lst (qs1.map V.ref ++ [.ref q1])) = H7
        intro R7 k7 hd7 sH7 hp7
        obtain ⟨t2, gs2, qs2, f1, f2, f3, f4, f5, f6⟩ := R7.app ep2
        have l2 : qs2.length ≤ 2001 := by
          rw [f5]
          have := hle7 gs2 (List.mem_of_getElem? f3)
          omega
        have P3 : P' t2 ∨ t2 = D ∨ t2 ∈ rs := .inr (.inr f2)
        have nt2 : H t2 = none := s02.free (hr' t2 f2).2
        refine ⟨_, rfl, _, rfl, p2, _, 1, _, rfl, rfl, .inl (.inl hp7), rfl, D, _, _, _, rfl, rfl, .inl (.inl R7.at_), atI_nat (j := pb) (by rw [List.getElem?_map, f1]; rfl), (show tyV K "list" (.ref t2) H7 from Or.inl ⟨rfl, _, .inl (.inl f4)⟩), _, rfl, by show 2 ≤ sizeLine; decide, fun q2 nq2 => ?_⟩
        have z2 := @same_new H7 q2 (.tup [.str "get", .int l]) nq2
        refine ⟨t2, _, _, rfl, rfl, z2 _ _ f4, by rw [List.length_map]; exact Nat.lt_of_le_of_lt l2 (by decide), ?_⟩
        have R8 : RL (upd (upd H7 q2 (.tup [.str "get", .int l])) t2 (.lst (qs2.map V.ref ++ [.ref q2]))) D rs g2 := by
          obtain ⟨t1', gs1', qs1', f1', _, _, f4', _, f6'⟩ := (R7.same z2).app ep2
          rw [f1] at f1'
          cases f1'
          rw [z2 _ _ f4] at f4'
          have eq : qs2.map V.ref = qs1'.map V.ref := by
            injection f4' with a
            injection a
          rw [eq]
          exact f6' q2 (by rw [upd_same]; show some (HO.tup [V.str "get", V.int l]) = some (HO.tup [V.str "get", V.int ((l.toNat : Nat) : Int)]); rw [Int.toNat_of_nonneg l0])
        exact ⟨g2, _, _, rfl, R8, put_keep (k7.trans (.of z2)) P3, put_hid (hd7.same z2), hgo2, (show rowsLe g2 (2 * (i + 1)) from hle7.put ep2), put_same (sH7.trans z2) nt2⟩
      · rintro σ' H' ⟨gss', v3, v4, rfl, R5, kp, hid, hgo, hle, sH⟩
        rw [List.drop_length] at hgo
        have eg2 : gss' = gss := Option.some.inj hgo
        subst eg2
        refine ⟨_, rfl, fun y dx ny ndx ne => ?_⟩
        unfold mkT at ez
        simp only at ez
        split at ez
        case isFalse => cases ez
        rename_i hv
        cases ez
        have s8 : Same H' (upd (upd H' dx (.own y)) y (.ins C dx [])) := fun b o eb => by
          rw [upd_ne (ne_of_none eb ny), upd_ne (ne_of_none eb ndx)]
          exact eb
        refine ⟨_, y, dx, D, gss', _, _, _, rfl, upd_same, True.intro, R5.rows.same s8, validB_ok hv, fun H9 k9 t9 nw => ⟨rfl, ?_⟩⟩
        have s9 : Same H' H9 := fun b o eb => k9 b o (s8 b o eb) (ne_of_none eb ny)
        have hdH := hd.same sH
        exact q _ H9 (sH.trans s9) (talk_re hC (hdH.same s9) (hdH.new ny) (fun b pb => ((hdH b pb).same s8).ne) (validB_ok hv).once t9 nw)
end
end Up

namespace Up
open PySem PySem.Spec PyProof.Rows L2
/-! ### what all that draws has -/
theorem But.refl {m g : Addr} {H : Hp} : But m g H H := fun _ _ e _ _ => e
/-- a list that is not m's is changed -/
theorem MAt.put {H : Hp} {m g : Addr} {b : Nat} (M : MAt H m g b) {p : Addr} {o : HO} (n : p ≠ m ∧ p ≠ g) {xs : List V} (hp : H p = some (.lst xs)) (hl : xs.length ≠ 64) : MAt (upd H p o) m g b := by
  obtain ⟨c, cs, gs, k, h1, h2, h3, h4, h5, h6⟩ := M.ex
  have nc : c ≠ p := fun z => by
    rw [z, hp] at h2
    have e := congrArg List.length (HO.lst.inj (Option.some.inj h2))
    rw [List.length_map, h3] at e
    exact hl e
  exact ⟨c, cs, gs, k, by rw [upd_ne n.1.symm]; exact h1, by rw [upd_ne nc]; exact h2, h3, by rw [upd_ne n.2.symm]; exact h4, h5, h6⟩
structure TxtQ (K : PySem.W.Frag) (mg : Str → Option Value) (fD : Addr) : Prop extends TxtB mg where
  drw : mg "_law_draw" = some (.ref fD)
end Up

namespace Up
open PySem PySem.Spec PyProof.Rows L2
/-! ### _law_order: a drawn order -/
abbrev s_order : Stmt := (topS 55)
theorem sc_order : FnScope ["m", "many", "rest", "found"] ["m", "many"] (defScope s_order) := ⟨rfl, rfl, rfl, by decide +kernel, rfl, by decide +kernel, by decide +kernel⟩
/-- numbers as values -/
def nL (ns : List Nat) : List V := ns.map fun n : Nat => V.int (n : Int)
theorem nL_app (a b : List Nat) : nL (a ++ b) = nL a ++ nL b := List.map_append
theorem nL_len (a : List Nat) : (nL a).length = a.length := List.length_map ..
theorem rg_nL (n : Nat) : rgV 0 (n : Int) = nL (List.range n) := by
  unfold rgV nL
  have e : ((n : Int) - 0).toNat = n := by omega
  rw [e]
  refine List.map_congr_left fun i _ => ?_
  rw [Int.zero_add]
theorem nL_erase : ∀ (a : List Nat) (k : Nat), (nL a).eraseIdx k = nL (a.eraseIdx k)
  | [], _ => rfl
  | _ :: _, 0 => rfl
  | x :: a, k + 1 => by
    show V.int (x : Int) :: (nL a).eraseIdx k = V.int (x : Int) :: nL (a.eraseIdx k)
    rw [nL_erase a k]
theorem perm_erase : ∀ (a : List Nat) (k : Nat) (x : Nat), a[k]? = some x → (x :: a.eraseIdx k).Perm a
  | [], k, x, e => by simp at e
  | y :: a, 0, x, e => by
    have e2 : y = x := Option.some.inj e
    subst e2
    exact List.Perm.refl _
  | y :: a, k + 1, x, e => by
    have h := perm_erase a k x e
    show (x :: y :: a.eraseIdx k).Perm (y :: a)
    exact (List.Perm.swap y x _).trans (h.cons y)
theorem eqv_nilN : ∀ ns : List Nat, PyData.eqv (.list (ns.map fun n : Nat => PyData.int (n : Int))) (.list []) = ns.isEmpty
  | [] => rfl
  | _ :: _ => rfl
theorem dp_nL {K : PySem.W.Frag} {H : Hp} : ∀ ns : List Nat, DpAll K H (nL ns) (ns.map fun n : Nat => PyData.int (n : Int))
  | [] => .nil
  | n :: ns => .cons (.int n) (dp_nL ns)
theorem shaped_nL (ns : List Nat) : SeqAt.shaped (.list (ns.map fun n : Nat => PyData.int (n : Int))) = true := by
  have h : ∀ ns : List Nat, PyData.canLayAll0 (ns.map fun n : Nat => PyData.int (n : Int)) = true ∧ PyData.depthAll (ns.map fun n : Nat => PyData.int (n : Int)) = 0 := fun ns => by
    induction ns with
    | nil => simp [PyData.canLayAll0, PyData.depthAll]
    | cons n ns ih => simp [PyData.canLayAll0, PyData.depthAll, PyData.canLay0, PyData.depth, ih.1, ih.2]
  unfold SeqAt.shaped
  rw [Bool.and_eq_true]
  exact ⟨by simp only [PyData.canLay0]; exact (h ns).1, decide_eq_true (by simp only [PyData.depth, (h ns).2]; omega)⟩
structure TxtO (K : PySem.W.Frag) (mg : Str → Option Value) (fD : Addr) : Prop extends TxtQ K mg fD where
  list : mg "list" = none
def spOrder : Sp := fun vs H Q _ => ∃ (m g : Addr) (many b : Nat), vs = [.ref m, .int (many : Int)] ∧ many ≤ 63 ∧ b ≤ 900000 ∧ MAt H m g b ∧
  ∀ (p : Addr) (fs : List Nat) (H' : Hp), H p = none → H' p = some (.lst (nL fs)) → fs.Perm (List.range many) → MAt H' m g (b + many) → But m g H H' → Q (.ref p) H'
section
variable {P : Program} {w : World} {K : PySem.W.Frag} {mg : Str → Option Value} {base : Heap}
theorem ok_order {f fD : Addr} {fd fdD : FuncData} (F : Fun K "_law_order" "_law_order" s_order f fd) (T : TxtO K mg fD) (FD : Fun K "_law_draw" "_law_draw" sDrw fD fdD) (bD : Binds K fdD ["m", "limit"] []) (GD : FnOk P w K mg base CX0 2 fD fdD ["m", "limit"] spDrw) :
    FnOk P w K mg base CX0 3 f fd ["m", "many"] spOrder := by
  refine F.ok sc_order (fun vs H Q E h => ?_) (fun cdv A outer s H vs Q E hr h => ?_)
  · obtain ⟨m, g, many, b, rfl, _⟩ := h
    rfl
  · obtain ⟨m, g, many, b, rfl, mk, bk, M, q⟩ := h
    have hr2 : Room 2 _ := hr
    have hu : (A.deeper (envOfC "_law_order" (defScope s_order) s.heap.objs.size f cdv)).units + 64 < cLine := by
      have := hr.un
      omega
    refine ⟨_, (pss_cons (ps_par (i := 2) (j := 3) (by rfl) sc_order.nd rfl rfl (by decide) rfl rfl (pa_cons (pe_listRg rfl (by rfl) T.list (prg_1 (by rfl) T.range (pv 1))) (pa_cons (pe_lst pa_nil) pa_nil)) (by rfl)) (pss_cons (ps_while PassesOwn.never (pt_cmpR (op_neD hu) (pv 2) (pe_lst pa_nil) (nomark _)) (pss_one (ps_expr (pe_bm PySem.F.plainAttrs_list PySem.F.slot_list_append PySem.F.type_list_append mt_append (pv 3) (pa_cons (pe_bm PySem.F.plainAttrs_list PySem.F.slot_list_pop PySem.F.type_list_pop mt_popAt (pv 2) (pa_cons (pe_call GD hr2 (by rfl) T.drw FD.kp bD .nil pass0 (pa_cons (pv 0) (pa_cons (pe_callB call_len_seq (by rfl) T.len PySem.boot_len (pa_cons (pv 2) pa_nil)) pa_nil))) pa_nil)) pa_nil))))) (pss_one (ps_ret (pv 3))))), ?_⟩
    refine ⟨_, rfl, _, rfl, RgOk.of_le (by omega) (by omega) (by omega) (by omega), fun r nr => ⟨Nat.zero_le _, fun fl nfl => ⟨_, _, rfl, ?_⟩⟩⟩
    rw [rg_nL] at nfl ⊢
    have mr := M.ne nr
    have s0 : Same H (upd H r (.lst (nL (List.range many)))) := same_new nr
    have M1 := M.same s0
    have mf := M1.ne nfl
    have s1 : Same _ (upd (upd H r (.lst (nL (List.range many)))) fl (.lst [])) := same_new nfl
    have M2 := M1.same s1
    have nf0 : H fl = none := s0.free nfl
    have rf : r ≠ fl := fun z => by
      rw [← z, upd_same] at nfl
      cases nfl
    refine ⟨fun k σ H2 => ∃ rs fs : List Nat, σ = [some (.ref m), some (.int (many : Int)), some (.ref r), some (.ref fl)] ∧ H2 r = some (.lst (nL rs)) ∧ H2 fl = some (.lst (nL fs)) ∧ (fs ++ rs).Perm (List.range many) ∧ MAt H2 m g (b + fs.length) ∧ But m g H H2 ∧ k = rs.length,
      ⟨_, List.range many, [], rfl, s1 _ _ upd_same, upd_same, List.Perm.refl _, M2, But.of (s0.trans s1), rfl⟩, ?_⟩
    rintro k σ H2 ⟨rs, fs, rfl, h1, h2, hp, M3, B, rfl⟩
    have len : fs.length + rs.length = many := by
      have := hp.length_eq
      rw [List.length_append, List.length_range] at this
      exact this
    refine ⟨_, rfl, Nat.zero_le _, fun e ne => ?_⟩
    have s2 := @same_new H2 e (.lst []) ne
    refine ⟨.list _, .list [], .lst (.inl (.inl (s2 _ _ h1))) (dp_nL rs), .lst (.inl (.inl upd_same)) .nil, shaped_nL rs, rfl, _, rfl, ?_⟩
    rw [eqv_nilN]
    have M4 := M3.same s2
    have B4 := B.trans (But.of s2)
    have g1 := s2 _ _ h1
    have g2 := s2 _ _ h2
    revert M4 B4 g1 g2
    generalize upd H2 e (.lst []) = H3
    intro M4 B4 g1 g2
    clear s2 M3 B h1 h2
    match rs, hp, len, g1 with
    | [], hp, len, g1 =>
      refine ⟨_, rfl, q fl fs H3 nf0 g2 (by rw [List.append_nil] at hp; exact hp) ?_ B4⟩
      have e1 : fs.length = many := len
      rw [← e1]
      exact M4
    | x :: rs, hp, len, g1 =>
      have len2 : fs.length + (rs.length + 1) = many := len
      refine ⟨fun σ' H' => ∃ k', k' < (x :: rs).length ∧ ∃ rs fs : List Nat, σ' = [some (.ref m), some (.int (many : Int)), some (.ref r), some (.ref fl)] ∧ H' r = some (.lst (nL rs)) ∧ H' fl = some (.lst (nL fs)) ∧ (fs ++ rs).Perm (List.range many) ∧ MAt H' m g (b + fs.length) ∧ But m g H H' ∧ k' = rs.length, fun σ' H' h => h, ?_⟩
      refine ⟨_, rfl, .inl ⟨rfl, _, .inl (.inl g2)⟩, _, rfl, .inl ⟨rfl, _, .inl (.inl g1)⟩, _, rfl, _, rfl, r, _, rfl, .inl (.inl (.inl g1)), ?_⟩
      have lz : ((nL (x :: rs)).length : Int) = (rs.length : Int) + 1 := by rw [nL_len]; rfl
      have lb : b + fs.length < 1000000 := by omega
      refine ⟨m, g, _, b + fs.length, rfl, by rw [lz]; omega, by rw [lz]; omega, lb, M4, fun d H5 d0 d1 M5 B5 => ?_⟩
      rw [lz] at d1
      obtain ⟨k, rfl⟩ := Int.eq_ofNat_of_zero_le d0
      have kl : k < (x :: rs).length := by rw [List.length_cons]; omega
      have g3 := B5 _ _ g1 mr.1 mr.2
      have g4 := B5 _ _ g2 mf.1 mf.2
      have ek : (x :: rs)[k]? = some (x :: rs)[k] := List.getElem?_eq_getElem kl
      refine ⟨r, _, (k : Int), k, .int (((x :: rs)[k] : Nat) : Int), rfl, rfl, g3, by omega, by omega, ?_, ?_, ?_⟩
      · rw [nL_len]
        unfold seqIndex?
        simp
        omega
      · unfold nL
        rw [List.getElem?_map, ek]
        rfl
      rw [nL_erase]
      refine ⟨fl, _, _, rfl, rfl, by rw [upd_ne rf.symm]; exact g4, by rw [nL_len]; exact small1000 (by omega), ?_⟩
      refine ⟨((x :: rs).eraseIdx k).length, by rw [List.length_eraseIdx, if_pos kl, List.length_cons]; omega, (x :: rs).eraseIdx k, fs ++ [(x :: rs)[k]], rfl, by rw [upd_ne rf]; exact upd_same, by rw [upd_same, nL_app]; rfl, ?_, ?_, fun y o e n1 n2 => ?_, rfl⟩
      · rw [List.append_assoc]
        exact ((perm_erase _ _ _ ek).append_left fs).trans hp
      · have M6 := M5.put (o := .lst (nL ((x :: rs).eraseIdx k))) mr g3 (by rw [nL_len]; simp only [List.length_cons]; omega)
        rw [List.length_append]
        exact M6.put mf (by rw [upd_ne rf.symm]; exact g4) (by rw [nL_len]; omega)
      · rw [upd_ne (ne_of_none e nf0), upd_ne (ne_of_none e nr)]
        exact B5 _ _ (B4 _ _ e n1 n2) n1 n2
end
end Up

namespace Up
open PySem PySem.Spec PyProof.Rows L2
/-! ### _law_named -/
abbrev st_named : Stmt := (topS 58)
theorem ss_named : FnScope ["m", "rows", "names", "row", "word", "letter"] ["m", "rows"] (defScope st_named) := ⟨rfl, rfl, rfl, by decide +kernel, rfl, by decide +kernel, by decide +kernel⟩
def nm_f : En → Option Val := (tupF (consF (fun env => ((lcF (itF (getE 1)) (setV 3) yesF (fun env => ((lcF (itF (getE 3)) (setTup 2 (setCo (setV 4) (setCo (setV 5) setNo))) yesF (tupF (consF (getE 4) (consF (bin2 ixL (getE 2) (getE 5)) noF))) [4, 5]) env).map .lst) [3]) env).map .lst) (consF (getE 2) noF)))
def natsV (fs : List Nat) : Val := .lst (fs.map fun n : Nat => .int (n : Int))
def nmEnv (x : Val) (fs : List Nat) : En := [none, some x, some (natsV fs), none, none, none]
abbrev hm (m g : Addr) : Addr → Prop := fun a => a = m ∨ a = g
theorem MAt.hid {H : Hp} {m g : Addr} {b : Nat} (M : MAt H m g b) : Hid (hm m g) H := fun a c => by
  obtain ⟨c', cs, gs, n, h1, h2, h3, h4, h5, h6⟩ := M.ex
  rcases c with rfl | rfl
  · exact ⟨_, h1, fun vs z => by cases z⟩
  · exact ⟨_, h4, fun vs z => by cases z⟩
theorem But.keep {H H' : Hp} {m g : Addr} (B : But m g H H') : Keep (hm m g) H H' := fun b o e n => B b o e (fun z => n (.inl z)) fun z => n (.inr z)
theorem nats_re {cm : Cm} {P : Addr → Prop} {H : Hp} : ∀ fs : List Nat, Res cm P H (nL fs) (fs.map fun n : Nat => .int (n : Int))
  | [] => .nil
  | n :: fs => .cons (.int _) (nats_re fs)
def spNamed (cm : Cm) : Sp := fun vs H Q _ => ∃ (m g : Addr) (b n : Nat) (v : V) (x : Val), vs = [.ref m, v] ∧ b ≤ 900000 ∧ n ≤ 63 ∧ MAt H m g b ∧ Re cm (hm m g) H v x ∧ f__law_many [x] = some (.int (n : Int)) ∧
  ∀ fs : List Nat, fs.Perm (List.range n) → ∃ z, nm_f (nmEnv x fs) = some z ∧ ∀ v' H', MAt H' m g (b + n) → But m g H H' → Re cm (hm m g) H' v' z → Q v' H'
section
variable {P : Program} {w : World} {K : PySem.W.Frag} {mg : Str → Option Value} {base : Heap} {cm : Cm}
theorem ok_named {f : Addr} {fd : FuncData} (F : Fun K "_law_named" "_law_named" st_named f fd) (T : TxtV K mg cm) {fa__law_many : Addr} {fd__law_many : FuncData} (d__law_many : Df P w K mg base cm "_law_many" 2 ["rows"] f__law_many fa__law_many fd__law_many)
    {fO : Addr} {fdO : FuncData} (TO : mg "_law_order" = some (.ref fO)) (FO : Fun K "_law_order" "_law_order" s_order fO fdO) (bO : Binds K fdO ["m", "many"] []) (GO : FnOk P w K mg base CX0 3 fO fdO ["m", "many"] spOrder) :
    FnOk P w K mg base CX0 4 f fd ["m", "rows"] (spNamed cm) := by
  refine F.ok ss_named (fun vs H Q E h => ?_) (fun cdv A outer s H vs Q E hr h => ?_)
  · obtain ⟨m, g, b, n, v, x, rfl, _⟩ := h
    rfl
  · obtain ⟨m, g, b, n, v, x, rfl, b9, n63, M, r, em, q⟩ := h
    have hu : (A.deeper (envOfC "_law_named" (defScope st_named) s.heap.objs.size f cdv)).units + 64 < cLine := by
      have := hr.un
      omega
    refine ⟨_, (pss_cons (ps_set (i := 2) ss_named.nd rfl (Or.inr rfl) (pe_call GO (hr.mono (by decide)) (by rfl) TO FO.kp bO .nil pass0 (pa_cons (pv 0) (pa_cons (ve_callD d__law_many (hr.mono (by decide)) (by rfl) (va_cons (vv 1) va_nil)) pa_nil)))) (pss_one (ps_ret (ve_tup (va_cons (vn_ve (vn_lc (own := [("row", 3)]) rfl ss_named.nd (vi_seq (vv (cm := cm) 1)) (blkOk_by (own := [("row", 3)]) (N := ["m", "rows", "names", "row", "word", "letter"]) (sc := defScope st_named) (by decide +kernel)) (fun _ _ _ _ _ => (pg_name (i := 3) ss_named.nd rfl (Or.inl rfl))) (fun _ _ _ _ _ => pts_nil) (fun _ _ _ _ _ => (vn_ve (vn_lc (own := [("word", 4), ("letter", 5)]) rfl ss_named.nd (vi_seq (vv (cm := cm) 3)) (blkOk_by (own := [("word", 4), ("letter", 5)]) (N := ["m", "rows", "names", "row", "word", "letter"]) (sc := ({ kind := ScopeKind.function, names := [(".0", NameKind.local), ("row", NameKind.local), ("names", NameKind.cell)], isGenerator := false, isCoroutine := false } : Scope)) (by decide +kernel)) (fun _ _ _ _ _ => (pg_tupK (K := K) (n := 2) rfl (by rfl) (pgs_cons (pg_name (i := 4) ss_named.nd rfl (Or.inl rfl)) (pgs_cons (pg_name (i := 5) ss_named.nd rfl (Or.inl rfl)) pgs_nil)))) (fun _ _ _ _ _ => pts_nil) (fun _ _ _ _ _ => (ve_tup (va_cons (vv (cm := cm) 4) (va_cons (ve_ix ix_list ov_ixL (vv (cm := cm) 2) (vv (cm := cm) 5) (fun _ _ => rfl)) (va_nil (cm := cm)))))) (tg_tup (K := K) (tgs_cons tg_name (tgs_cons tg_name tgs_nil))) (by decide) tt_yes))) tg_name (by decide) tt_yes)) (va_cons (vv (cm := cm) 2) (va_nil (cm := cm)))))))), ?_⟩
    have S0 : Slots cm (hm m g) H [some (.ref m), some v, none, none, none, none] [none, some x, none, none, none, none] := by
      refine ⟨rfl, fun i y e => ?_, M.hid⟩
      match i, e with
      | 0, e => cases e
      | 1, e => cases e; exact ⟨_, rfl, r⟩
      | 2, e => cases e
      | 3, e => cases e
      | 4, e => cases e
      | 5, e => cases e
      | _ + 6, e => cases e
    refine ⟨_, rfl, _, _, .int (n : Int), S0, em, fun u H1 s1 ru => ?_⟩
    cases Re.int_ ru
    refine ⟨m, g, n, b, rfl, n63, b9, M.same s1, fun p fs H2 np hp pm M2 B => ?_⟩
    obtain ⟨z, ez, qz⟩ := q fs pm
    have np2 := (M.same s1).ne np
    have r2 := Rep.keep B.keep (Rep.same s1 r)
    have S2 : Slots cm (hm m g) H2 [some (.ref m), some v, some (.ref p), none, none, none] (nmEnv x fs) := by
      refine ⟨rfl, fun i y e => ?_, M2.hid⟩
      match i, e with
      | 0, e => cases e
      | 1, e => cases e; exact ⟨_, rfl, r2⟩
      | 2, e => cases e; exact ⟨_, rfl, .lst (fun c => c.elim np2.1 np2.2) hp (nats_re fs)⟩
      | 3, e => cases e
      | 4, e => cases e
      | 5, e => cases e
      | _ + 6, e => cases e
    exact ⟨_, _, z, S2, ez, fun v' H3 s3 r3 => qz v' H3 (M2.same s3) ((But.of s1).trans (B.trans (But.of s3))) r3⟩
end
end Up

namespace Up
open PySem PySem.Spec PyProof.Rows L2
/-! ### what the functions tell of talks -/
section
variable {f g h : En → Option Val} {r k l : En → Option Out} {t : En → Option Bool} {env env' : En} {x y z : Val} {a b : Bool}
theorem seqG_nx (e : r env = some (.nx env')) : seqG r k env = k env' := by
  unfold seqG
  rw [e]
  rfl
theorem seqG_rt (e : r env = some (.rt z)) : seqG r k env = some (.rt z) := by
  unfold seqG
  rw [e]
  rfl
theorem doG_ok (e : f env = some z) : doG f env = some (.nx env) := by
  unfold doG
  rw [e]
  rfl
theorem retG_ok (e : f env = some z) : retG f env = some (.rt z) := by
  unfold retG
  rw [e]
  rfl
theorem runV_rt {n k : Nat} {xs : List Val} (hl : xs.length = k) (e : r (xs.map some ++ List.replicate (n - xs.length) none) = some (.rt z)) : runV n k r xs = some z := by
  unfold runV
  rw [if_pos hl, e]
  rfl
theorem runV_nx {n k : Nat} {xs : List Val} (hl : xs.length = k) (e : r (xs.map some ++ List.replicate (n - xs.length) none) = some (.nx env')) : runV n k r xs = some .non := by
  unfold runV
  rw [if_pos hl, e]
  rfl
theorem ifG_f (e : t env = some false) : ifG t k l env = l env := by
  unfold ifG
  rw [e]
  rfl
theorem ifG_t (e : t env = some true) : ifG t k l env = k env := by
  unfold ifG
  rw [e]
  rfl
theorem setG_ok {i : Nat} (e : f env = some x) : setG i f env = some (.nx (env.set i (some x))) := by
  unfold setG
  rw [e]
  rfl
theorem andF_ok (e : f env = some (.bl a)) (e2 : a = true → g env = some (.bl b)) : andF f g env = some (.bl (a && b)) := by
  unfold andF
  rw [e]
  show (if a = true then g env else some (.bl false)) = _
  cases a with
  | true => rw [if_pos rfl, e2 rfl, Bool.true_and]
  | false => rw [if_neg (by decide), Bool.false_and]
theorem bin2_ok {op : Val → Val → Option Val} (e1 : f env = some x) (e2 : g env = some y) (e : op x y = some z) : bin2 op f g env = some z := by
  unfold bin2
  rw [e1, e2]
  exact e
theorem appF_ok {F : List Val → Option Val} {u : En → Option (List Val)} {xs : List Val} (e1 : u env = some xs) (e2 : F xs = some z) : appF F u env = some z := by
  unfold appF
  rw [e1]
  exact e2
theorem tst_ok (e : f env = some (.bl b)) : tst f env = some b := by
  unfold tst
  rw [e]
  rfl
theorem notT_ok (e : t env = some b) : notT t env = some (!b) := by
  unfold notT
  rw [e]
  rfl
end
theorem whole_int (i : Int) : f_is_whole [.int i] = some (.bl true) := by rfl
theorem f_index (i n : Int) : f_is_index [.int i, .int n] = some (.bl (decide (0 ≤ i) && decide (i < n))) := by
  refine runV_rt rfl (retG_ok ?_)
  refine andF_ok (a := true) (b := decide (0 ≤ i) && decide (i < n)) (appF_ok rfl (whole_int i)) fun _ => ?_
  show (if decide (0 ≤ i) = true then some (Val.bl (decide (i < n))) else some (Val.bl false)) = _
  by_cases c : 0 ≤ i
  · rw [if_pos (decide_eq_true c), decide_eq_true c, Bool.true_and]
  · rw [if_neg (by rw [decide_eq_false c]; decide), decide_eq_false c, Bool.false_and]
theorem couple_two (x y : Val) : f_is_couple [.tup [x, y]] = some (.bl true) := by rfl
theorem word_in (g : Dg) : inF false (.str g.word) (.tup [.str "send", .str "get"]) = some (.bl true) := by
  obtain ⟨s, l⟩ := g
  cases s <;> rfl
theorem f_doing (g : Dg) (n : Int) : f_is_doing [dgV g, .int n] = some (.bl (decide ((g.l : Int) < n))) := by
  refine runV_rt rfl ?_
  show seqG _ _ [some (dgV g), some (.int n), none, none] = _
  rw [seqG_nx (env' := [some (dgV g), some (.int n), none, none]) (by rw [ifG_f (notT_ok (tst_ok (appF_ok rfl (couple_two _ _))))]; rfl)]
  rw [seqG_nx (env' := [some (dgV g), some (.int n), some (.str g.word), some (.int (g.l : Int))]) rfl]
  refine retG_ok ?_
  have e := f_index (g.l : Int) n
  rw [decide_eq_true (Int.natCast_nonneg _), Bool.true_and] at e
  have e3 : andF (bin2 (inF false) (getE 2) (tupF (consF (cst (.str "send")) (consF (cst (.str "get")) noF)))) (appF f_is_index (consF (getE 3) (consF (getE 1) noF))) [some (dgV g), some (.int n), some (.str g.word), some (.int (g.l : Int))] = some (.bl (true && decide ((g.l : Int) < n))) :=
    andF_ok (bin2_ok rfl rfl (word_in g)) fun _ => appF_ok rfl e
  have e4 := andF_ok (f := isiF "str" (getE 2)) (a := true) (by rfl) fun _ => e3
  rw [Bool.true_and, Bool.true_and] at e4
  exact e4
section
variable {gss : List (List Dg)} {many : Nat} {S G : Nat → Nat} {Ck : Dg → List Int}
theorem f_check {g : Dg} (hg : g.l < many) : f_check_doing [talkV gss many S G Ck, dgV g] = some .non := by
  refine runV_nx (env' := [some (talkV gss many S G Ck), some (dgV g)]) rfl ?_
  show ifG _ nevG nilG [some (talkV gss many S G Ck), some (dgV g)] = _
  have e := f_doing g (many : Int)
  rw [decide_eq_true (Int.ofNat_lt.mpr hg)] at e
  rw [ifG_f (notT_ok (tst_ok (appF_ok rfl e)))]
  rfl
theorem dgV_ne (a b : Dg) : eqF true (dgV a) (dgV b) = some (.bl (!dgEq a b)) := by
  obtain ⟨s, l⟩ := a
  obtain ⟨s', l'⟩ := b
  have sh : ∀ g : Dg, SeqAt.shaped (.tuple [.str g.word, .int (g.l : Int)]) = true := fun g => by
    have ok : PyData.strOk g.word = true := by
      obtain ⟨s, l⟩ := g
      cases s
      · show PyData.strOk (("get" : Str)) = true
        decide +kernel
      · show PyData.strOk (("send" : Str)) = true
        decide +kernel
    unfold SeqAt.shaped
    simp [PyData.canLayAll0, PyData.depthAll, PyData.canLay0, PyData.depth, ok]
  have dv : ∀ (g : Dg), dataV (dgV g) = some (.tuple [.str g.word, .int (g.l : Int)]) := fun g => by
    simp [dgV, dataV, dataVs]
  unfold eqF
  rw [dv, dv]
  show (if (SeqAt.shaped _ && SeqAt.shaped _) = true then some (Val.bl _) else none) = _
  rw [sh, sh, if_pos (by rfl)]
  have k : PyData.eqv (.tuple [.str (Dg.word ⟨s, l⟩), .int (l : Int)]) (.tuple [.str (Dg.word ⟨s', l'⟩), .int (l' : Int)]) = dgEq ⟨s, l⟩ ⟨s', l'⟩ := by
    unfold dgEq
    have il : ((l : Int) == (l' : Int)) = (l == l') := by
      rw [Bool.eq_iff_iff]
      simp only [beq_iff_eq]
      exact Int.ofNat_inj
    have w1 : ¬ (("get" : Str) = ("send" : Str)) := by decide +kernel
    have w2 : ¬ (("send" : Str) = ("get" : Str)) := by decide +kernel
    cases s <;> cases s' <;> simp [PyData.eqv, PyData.eqvAll, Dg.word, il, w1, w2]
  rw [k]
  rfl
/-- a place by a doing -/
def placeOf : List Pl → Dg → Option (Nat × Nat)
  | [], _ => none
  | (k, p) :: t, g => if dgEq k g = true then some p else placeOf t g
theorem key_ne {a b : Dg} (h : dgEq a b ≠ true) : a.key ≠ b.key := fun z => h (dgEq_iff.mpr (Dg.key_inj z))
theorem look_place {f : Pl → Val} {g : Dg} : ∀ {pl : List Pl} {p : Nat × Nat}, placeOf pl g = some p → lookK g.key (pl.map fun t => t.1.key) (pl.map f) = some (f (g, p))
  | (k, q) :: t, p, e => by
    unfold placeOf at e
    show (if k.key = g.key then some (f (k, q)) else lookK g.key (t.map fun t => t.1.key) (t.map f)) = _
    by_cases c : dgEq k g = true
    · rw [if_pos c] at e
      cases e
      rw [dgEq_iff] at c
      subst c
      rw [if_pos rfl]
    · rw [if_neg c] at e
      rw [if_neg (key_ne c)]
      exact look_place e
theorem ixD_dct (ks : List (List Key)) (xs : List Val) (y : Val) : ixD (.dct ks xs) y = (tkey y).bind fun k => lookK k ks xs := by
  cases y <;> rfl
theorem tkey_dg (g : Dg) : tkey (dgV g) = some g.key := by rfl
def aheadB (pl : List Pl) (Ck : Dg → List Int) (a b : Dg) : Option Bool := (placeOf pl a).bind fun p => (placeOf pl b).bind fun _ => if dgEq a b = true then some false else ((Ck b)[p.1]?).map fun c => decide ((p.2 : Int) < c)
theorem f_ahead {a b : Dg} {v : Bool} (ha : a.l < many) (hb : b.l < many) (e : aheadB (plAll 0 gss) Ck a b = some v) : f_is_ahead [talkV gss many S G Ck, dgV a, dgV b] = some (.bl v) := by
  obtain ⟨p, ep, e⟩ := Option.bind_eq_some_iff.mp e
  obtain ⟨p', ep', e⟩ := Option.bind_eq_some_iff.mp e
  refine runV_rt rfl ?_
  show seqG _ _ [some (talkV gss many S G Ck), some (dgV a), some (dgV b), none, none] = _
  rw [seqG_nx (doG_ok (appF_ok rfl (f_check ha)))]
  rw [seqG_nx (doG_ok (appF_ok rfl (f_check hb)))]
  have l1 : bin2 ixD (fldF 0 "places" (getE 0)) (getE 1) [some (talkV gss many S G Ck), some (dgV a), some (dgV b), none, none] = some (placeV (a, p)) := by
    refine bin2_ok (x := .dct (keysV gss) ((plAll 0 gss).map placeV)) rfl rfl ?_
    rw [ixD_dct, tkey_dg]
    exact look_place ep
  rw [seqG_nx (env' := [some (talkV gss many S G Ck), some (dgV a), some (dgV b), some (.int (p.1 : Int)), some (.int (p.2 : Int))]) (by
    unfold asgG stF
    show ((bin2 ixD (fldF 0 "places" (getE 0)) (getE 1) [some (talkV gss many S G Ck), some (dgV a), some (dgV b), none, none]).bind _) = _
    rw [l1]
    rfl)]
  refine retG_ok ?_
  have l2 := andF_ok (f := bin2 (eqF true) (getE 1) (getE 2)) (g := bin2 (iop fun i j => .bl (decide (j < i))) (bin2 ixT (bin2 ixD (fldF 0 "clocks" (getE 0)) (getE 2)) (getE 3)) (getE 4)) (env := [some (talkV gss many S G Ck), some (dgV a), some (dgV b), some (.int (p.1 : Int)), some (.int (p.2 : Int))]) (a := !dgEq a b) (b := v)
    (bin2_ok rfl rfl (dgV_ne a b)) (fun c => by
      rw [Bool.not_eq_true'] at c
      rw [if_neg (by rw [c]; decide)] at e
      obtain ⟨ck, ec, rfl⟩ := Option.map_eq_some_iff.mp e
      refine bin2_ok (bin2_ok (x := .tup ((Ck b).map .int)) (y := .int (p.1 : Int)) (z := .int ck) (bin2_ok (x := .dct (keysV gss) ((plAll 0 gss).map (ckV Ck))) rfl rfl ?_) rfl ?_) rfl rfl
      · rw [ixD_dct, tkey_dg]
        exact look_place (f := ckV Ck) ep'
      · exact atI_nat (by rw [List.getElem?_map, ec]; rfl))
  have l3 : ((!dgEq a b) && v) = v := by
    by_cases c : dgEq a b = true
    · rw [if_pos c] at e
      cases e
      rw [Bool.and_false]
    · rw [Bool.eq_false_iff.mpr c]
      rfl
  rw [l3] at l2
  exact l2
end
end Up

namespace Up
open PySem PySem.Spec PyProof.Rows L2
/-! ### crowns, breaks of talks, by what is ahead -/
theorem lc_filter {bnd : Val → Option (List (Nat × Val))} {ft : En → Option Bool} {fe : En → Option Val} {env : En} {p : Val → Bool} {F : Val → Val} : ∀ {xs : List Val}, (∀ x ∈ xs, ∃ ps, bnd x = some ps ∧ ft (setE env ps) = some (p x) ∧ (p x = true → fe (setE env ps) = some (F x))) → lcGo bnd ft fe env xs = some ((xs.filter p).map F)
  | [], _ => rfl
  | x :: xs, h => by
    obtain ⟨ps, e1, e2, e3⟩ := h x (List.mem_cons_self ..)
    have ih := lc_filter (xs := xs) fun y hy => h y (List.mem_cons_of_mem _ hy)
    unfold lcGo
    rw [e1]
    show ((ft (setE env ps)).bind _) = _
    rw [e2]
    show (if p x = true then _ else _) = _
    by_cases c : p x = true
    · rw [if_pos c, e3 c, ih, List.filter_cons_of_pos c]
      rfl
    · rw [if_neg c, ih, List.filter_cons_of_neg c]
def iV_ (n : Nat) : Val := .int (n : Int)
def natOf : Val → Nat
  | .int i => i.toNat
  | _ => 0
theorem eqInt (neg : Bool) (i j : Int) : eqF neg (.int i) (.int j) = some (.bl (if neg = true then !(i == j) else i == j)) := by
  have e : eqF neg (.int i) (.int j) = some (.bl (if neg = true then !PyData.eqv (.int i) (.int j) else PyData.eqv (.int i) (.int j))) := by rfl
  rw [e]
  simp only [PyData.eqv]
theorem andT_ok {t u : En → Option Bool} {env : En} {a b : Bool} (e : t env = some a) (e2 : a = true → u env = some b) : andT t u env = some (a && b) := by
  unfold andT
  rw [e]
  show (if a = true then u env else some false) = _
  cases a with
  | true => rw [if_pos rfl, e2 rfl, Bool.true_and]
  | false => rw [if_neg (by decide), Bool.false_and]
section
variable {gss : List (List Dg)} {many : Nat} {S G : Nat → Nat} {Ck : Dg → List Int}
def stepN (pl : List Pl) (Ck : Dg → List Int) (l o : Nat) : Bool := (aheadB pl Ck ⟨true, l⟩ ⟨false, o⟩).getD false
/-- of all letters it can be told -/
def Told (pl : List Pl) (Ck : Dg → List Int) (many : Nat) : Prop := ∀ a b : Dg, a.l < many → b.l < many → (aheadB pl Ck a b).isSome = true
theorem Told.eq {pl : List Pl} (h : Told pl Ck many) {a b : Dg} (ha : a.l < many) (hb : b.l < many) : aheadB pl Ck a b = some ((aheadB pl Ck a b).getD false) := by
  have k := h a b ha hb
  cases e : aheadB pl Ck a b with
  | none => rw [e] at k; cases k
  | some v => rfl
theorem f_step (h : Told (plAll 0 gss) Ck many) {l o : Nat} (hl : l < many) (ho : o < many) : f_is_crown_step [talkV gss many S G Ck, .int (l : Int), .int (o : Int)] = some (.bl (stepN (plAll 0 gss) Ck l o)) := by
  refine runV_rt rfl (retG_ok ?_)
  exact appF_ok (xs := [talkV gss many S G Ck, dgV ⟨true, l⟩, dgV ⟨false, o⟩]) rfl (f_ahead (a := ⟨true, l⟩) (b := ⟨false, o⟩) hl ho (h.eq hl ho))
def nextN (st : Nat → Nat → Bool) (many l : Nat) : Val := .lst (((List.range many).filter fun o => !(o == l) && st l o).map iV_)
theorem rangeV_gen : ∀ (n : Nat) (lo : Int), rangeV lo n = (List.range n).map fun i : Nat => Val.int (lo + (i : Int))
  | 0, _ => rfl
  | n + 1, lo => by
    rw [List.range_succ_eq_map, List.map_cons, List.map_map]
    show Val.int lo :: rangeV (lo + 1) n = _
    rw [rangeV_gen n (lo + 1)]
    have e : (List.range n).map (fun i : Nat => Val.int (lo + 1 + (i : Int))) = (List.range n).map ((fun i : Nat => Val.int (lo + (i : Int))) ∘ Nat.succ) := by
      refine List.map_congr_left fun i _ => ?_
      show Val.int (lo + 1 + (i : Int)) = Val.int (lo + ((i + 1 : Nat) : Int))
      congr 1
      omega
    rw [e]
    show Val.int lo :: _ = Val.int (lo + ((0 : Nat) : Int)) :: _
    rw [show lo + ((0 : Nat) : Int) = lo by omega]
theorem rangeV_nat (n : Nat) : rangeV 0 n = (List.range n).map iV_ := by
  rw [rangeV_gen]
  refine List.map_congr_left fun i _ => ?_
  show Val.int (0 + (i : Int)) = Val.int (i : Int)
  rw [Int.zero_add]
theorem rng_many {t : En → Option (List Val)} {env : En} {n : Nat} (hn : n ≤ 1000) (e : t env = some [.int (n : Int)]) : rng1 t env = some ((List.range n).map iV_) := by
  unfold rng1
  rw [e]
  show (if -1000000 ≤ (n : Int) ∧ (n : Int) ≤ 1000000 then some (rangeV 0 (n : Int).toNat) else none) = _
  rw [if_pos (by omega), Int.toNat_natCast, rangeV_nat]
theorem f_nexts (h : Told (plAll 0 gss) Ck many) (m12 : many ≤ 12) {l : Nat} (hl : l < many) : f_crown_nexts [talkV gss many S G Ck, .int (l : Int)] = some (nextN (stepN (plAll 0 gss) Ck) many l) := by
  refine runV_rt rfl (retG_ok ?_)
  show (lcF _ _ _ _ _ [some (talkV gss many S G Ck), some (.int (l : Int)), none]).map Val.lst = _
  unfold lcF
  rw [rng_many (n := many) (by omega) rfl]
  show (if ((List.range many).map iV_).length ≤ most then _ else none).map Val.lst = _
  rw [if_pos (by rw [List.length_map, List.length_range]; unfold most; omega)]
  rw [lc_filter (p := fun x => !(natOf x == l) && stepN (plAll 0 gss) Ck l (natOf x)) (F := fun x => x)]
  · unfold nextN
    show some (Val.lst _) = some (Val.lst _)
    rw [List.map_id', List.filter_map]
    rfl
  · intro x hx
    obtain ⟨o, ho, rfl⟩ := List.mem_map.mp hx
    have ho := List.mem_range.mp ho
    refine ⟨[(2, iV_ o)], rfl, ?_, fun _ => rfl⟩
    refine andT_ok (tst_ok ?_) fun _ => tst_ok (appF_ok (xs := [talkV gss many S G Ck, .int (l : Int), .int (o : Int)]) rfl (f_step h hl ho))
    have e := eqInt true (o : Int) (l : Int)
    have il : ((o : Int) == (l : Int)) = (o == l) := by
      rw [Bool.eq_iff_iff]
      simp only [beq_iff_eq]
      exact Int.ofNat_inj
    rw [if_pos rfl, il] at e
    exact bin2_ok rfl rfl e
def g_crownR : En → Option Out := (seqG (setG 2 (stF [] (cst .non))) (seqG (forG [] (rng1 (consF (fldF 0 "many" (getE 0)) noF)) (setV 3) (seqG (setG 4 (stF [] (appF f_ring_from (consF (getE 1) (consF (getE 3) noF))))) (ifG (andT (tst (bin2 (isNV true) (getE 4) (cst .non))) (orT (tst (bin2 (isNV false) (getE 2) (cst .non))) (tst (bin2 (iop fun i j => .bl (decide (i < j))) (appF lenF (consF (getE 4) noF)) (appF lenF (consF (getE 2) noF)))))) (setG 2 (stF [] (getE 4))) nilG))) (retG (getE 2))))
def nextsN (st : Nat → Nat → Bool) (many : Nat) : Val := .lst ((List.range many).map fun l => nextN st many l)
def crownN (t : Val) (st : Nat → Nat → Bool) (many : Nat) : Option Val := (g_crownR [some t, some (nextsN st many), none, none, none, none]).bind fun o => match o with
  | .nx _ => some .non
  | .rt y => some y
  | _ => none
theorem f_crown_eq (h : Told (plAll 0 gss) Ck many) (m12 : many ≤ 12) : f_crown [talkV gss many S G Ck] = crownN (talkV gss many S G Ck) (stepN (plAll 0 gss) Ck) many := by
  have e : lcF (rng1 (consF (fldF 0 "many" (getE 0)) noF)) (setV 5) yesF (appF f_crown_nexts (consF (getE 0) (consF (getE 5) noF))) [5] [some (talkV gss many S G Ck), none, none, none, none, none] = some ((List.range many).map fun l => nextN (stepN (plAll 0 gss) Ck) many l) := by
    unfold lcF
    rw [rng_many (n := many) (by omega) rfl]
    show (if ((List.range many).map iV_).length ≤ most then _ else none) = _
    rw [if_pos (by rw [List.length_map, List.length_range]; unfold most; omega)]
    rw [lc_filter (p := fun _ => true) (F := fun x => nextN (stepN (plAll 0 gss) Ck) many (natOf x))]
    · rw [List.filter_eq_self.mpr (fun _ _ => rfl), List.map_map]
      rfl
    · intro x hx
      obtain ⟨o, ho, rfl⟩ := List.mem_map.mp hx
      have ho := List.mem_range.mp ho
      exact ⟨[(5, iV_ o)], rfl, rfl, fun _ => appF_ok (xs := [talkV gss many S G Ck, .int (o : Int)]) rfl (f_nexts h m12 ho)⟩
  have k : g_crown [some (talkV gss many S G Ck), none, none, none, none, none] = g_crownR [some (talkV gss many S G Ck), some (nextsN (stepN (plAll 0 gss) Ck) many), none, none, none, none] := by
    show seqG (setG 1 _) g_crownR [some (talkV gss many S G Ck), none, none, none, none, none] = _
    rw [seqG_nx (setG_ok (x := nextsN (stepN (plAll 0 gss) Ck) many) ?_)]
    · rfl
    · show (lcF _ _ _ _ _ [some (talkV gss many S G Ck), none, none, none, none, none]).map Val.lst = _
      rw [e]
      rfl
  show (g_crown [some (talkV gss many S G Ck), none, none, none, none, none]).bind _ = _
  rw [k]
  rfl
end
end Up

namespace Up
open PySem PySem.Spec PyProof.Rows L2
/-! ### law of k20 -/
abbrev st_law : Stmt := (topS 60)
theorem ss_law : FnScope ["script", "m", "cross", "around", "late", "some", "rows", "word", "pairs", "names", "talk", "due", "size", "asked", "told", "one", "other"] ["script"] (defScope st_law) := ⟨rfl, rfl, rfl, by decide +kernel, rfl, by decide +kernel, by decide +kernel⟩
def lw_v1 : En → Option Val := (lstF (consF (lstF (consF (tupF (consF (cst (.str "send")) (consF (cst (.int 0)) noF))) (consF (tupF (consF (cst (.str "get")) (consF (cst (.int 1)) noF))) noF))) (consF (lstF (consF (tupF (consF (cst (.str "send")) (consF (cst (.int 1)) noF))) (consF (tupF (consF (cst (.str "get")) (consF (cst (.int 0)) noF))) noF))) noF)))
def lw_v2 : En → Option Val := (lstF (consF (lstF (consF (tupF (consF (cst (.str "send")) (consF (cst (.int 0)) noF))) (consF (tupF (consF (cst (.str "send")) (consF (cst (.int 1)) noF))) noF))) (consF (lstF (consF (tupF (consF (cst (.str "get")) (consF (cst (.int 1)) noF))) (consF (tupF (consF (cst (.str "send")) (consF (cst (.int 2)) noF))) noF))) (consF (lstF (consF (tupF (consF (cst (.str "get")) (consF (cst (.int 2)) noF))) (consF (tupF (consF (cst (.str "get")) (consF (cst (.int 0)) noF))) noF))) noF))))
def lw_v3 : En → Option Val := (lstF (consF (lstF (consF (tupF (consF (cst (.str "send")) (consF (cst (.int 0)) noF))) (consF (tupF (consF (cst (.str "send")) (consF (cst (.int 1)) noF))) noF))) (consF (lstF (consF (tupF (consF (cst (.str "get")) (consF (cst (.int 1)) noF))) (consF (tupF (consF (cst (.str "get")) (consF (cst (.int 0)) noF))) noF))) noF)))
def lw_v4 : En → Option Val := (lstF (consF (tupF (consF (getE 2) (consF (cst (.str "causal")) (consF (lstF noF) noF)))) (consF (tupF (consF (getE 3) (consF (cst (.str "single")) (consF (lstF (consF (tupF (consF (cst (.int 0)) (consF (cst (.int 2)) noF))) noF)) noF)))) (consF (tupF (consF (getE 4) (consF (cst (.str "free")) (consF (lstF (consF (tupF (consF (cst (.int 0)) (consF (cst (.int 1)) noF))) noF)) noF)))) noF))))
def lw_it1 : En → Option (List Val) := (itL (getE 5))
def lw_tk : En → Option Val := (appF f_Talk (consF (getE 6) noF))
def lw_due : En → Option (List Val) := (lcF (itL (getE 8)) (setTup 2 (setCo (setV 15) (setCo (setV 16) setNo))) yesF (tupF (consF (bin2 ixL (getE 9) (getE 15)) (consF (bin2 ixL (getE 9) (getE 16)) noF))) [15, 16])
def lw_ta : En → Option Bool := (orT (tst (bin2 (eqF true) (appF f_kind (consF (getE 10) noF)) (getE 7))) (tst (bin2 (eqF true) (appF f_breaks (consF (getE 10) noF)) (getE 11))))
def lw_tb : En → Option Bool := (orT (tst (appF f_is_upright (consF (getE 10) noF))) (orT (tst (bin2 (isNV true) (appF f_moments (consF (getE 10) noF)) (cst .non))) (tst (bin2 (eqF true) (appF lenF (consF (appF f_crown (consF (getE 10) noF)) noF)) (cst (.int 2))))))
def lw_it2 : En → Option (List Val) := (rng2 (consF (cst (.int 3)) (consF (cst (.int 7)) noF)))
def lw_ring : En → Option Val := (appF f__law_ring (consF (getE 12) noF))
def lw_tc : En → Option Bool := (orT (tst (bin2 (eqF true) (appF lenF (consF (appF f_crown (consF (getE 10) noF)) noF)) (getE 12))) (orT (tst (bin2 (eqF true) (appF f_kind (consF (getE 10) noF)) (cst (.str "causal")))) (tst (bin2 (eqF true) (appF sortF (consF (appF f_crown (consF (getE 10) noF)) noF)) (lrgF (getE 12))))))
def lw_td : En → Option Bool := (tst (bin2 (isTV true) (appF f_is_paper (consF (getE 10) (consF (tupF (consF (cst (.str "crown")) (consF (appF f_crown (consF (getE 10) noF)) noF))) noF))) (cst (.bl true))))
def lw_ask : En → Option Val := (appF f_drawn (consF (cst (.int 3)) (consF (lstF (consF (tupF (consF (cst (.int 0)) (consF (cst (.int 1)) noF))) (consF (tupF (consF (cst (.int 1)) (consF (cst (.int 0)) noF))) (consF (tupF (consF (cst (.int 0)) (consF (cst (.int 2)) noF))) (consF (tupF (consF (cst (.int 2)) (consF (cst (.int 0)) noF))) noF))))) noF)))
def lw_te : En → Option Bool := (orT (tst (bin2 (eqF true) (appF f_moments (consF (getE 13) noF)) (tupF (consF (cst (.int 0)) (consF (cst (.int 1)) (consF (cst (.int 2)) (consF (cst (.int 3)) noF))))))) (orT (tst (bin2 (eqF true) (appF f_kind (consF (getE 13) noF)) (cst (.str "upright")))) (tst (bin2 (eqF true) (appF f_breaks (consF (getE 13) noF)) (lstF noF)))))
def lw_told : En → Option Val := (lstF (consF (appF f_is_ahead (consF (getE 13) (consF (tupF (consF (cst (.str "send")) (consF (cst (.int 0)) noF))) (consF (tupF (consF (cst (.str "get")) (consF (cst (.int 3)) noF))) noF)))) (consF (appF f_is_ahead (consF (getE 13) (consF (tupF (consF (cst (.str "get")) (consF (cst (.int 1)) noF))) (consF (tupF (consF (cst (.str "send")) (consF (cst (.int 1)) noF))) noF)))) noF)))
def lw_ret : En → Option Val := (andF (bin2 (eqF false) (getE 14) (lstF (consF (cst (.bl true)) (consF (cst (.bl false)) noF)))) (andF (bin2 (eqF false) (appF f_clock (consF (getE 13) (consF (tupF (consF (cst (.str "get")) (consF (cst (.int 2)) noF))) noF))) (tupF (consF (cst (.int 3)) (consF (cst (.int 2)) (consF (cst (.int 1)) noF))))) (bin2 (eqF false) (bin2 ixT (appF f_paper (consF (getE 13) noF)) (cst (.int 0))) (cst (.str "moments")))))
def SlR (cm : Cm) (P : Addr → Prop) (H : Hp) : List (Option Val) → List (Option V) → Prop
  | [], [] => True
  | none :: env, _ :: σ => SlR cm P H env σ
  | some x :: env, some v :: σ => Re cm P H v x ∧ SlR cm P H env σ
  | _, _ => False
theorem slots_mk {cm : Cm} {P : Addr → Prop} {H : Hp} (hd : Hid P H) : ∀ {env : List (Option Val)} {σ : List (Option V)}, SlR cm P H env σ → Slots cm P H σ env := by
  have k : ∀ {env : List (Option Val)} {σ : List (Option V)}, SlR cm P H env σ → σ.length = env.length ∧ ∀ (i : Nat) (x : Val), env[i]? = some (some x) → ∃ v, σ[i]? = some (some v) ∧ Re cm P H v x := by
    intro env
    induction env with
    | nil =>
      intro σ h
      cases σ with
      | nil => exact ⟨rfl, fun i x e => by simp at e⟩
      | cons a b => exact h.elim
    | cons a env ih =>
      intro σ h
      cases σ with
      | nil => cases a <;> exact h.elim
      | cons o σ =>
        cases a with
        | none =>
          obtain ⟨l, g⟩ := ih (show SlR cm P H env σ from h)
          refine ⟨congrArg (· + 1) l, fun i x e => ?_⟩
          cases i with
          | zero => cases e
          | succ i => exact g i x e
        | some y =>
          cases o with
          | none => exact h.elim
          | some v =>
            obtain ⟨r, h2⟩ := h
            obtain ⟨l, g⟩ := ih h2
            refine ⟨congrArg (· + 1) l, fun i x e => ?_⟩
            cases i with
            | zero => cases e; exact ⟨v, rfl, r⟩
            | succ i => exact g i x e
  exact fun {env σ} h => ⟨(k h).1, (k h).2, hd⟩
def ren (fs : List Nat) (gss : List (List Dg)) : List (List Dg) := gss.map fun gs => gs.map fun g => ⟨g.s, fs.getD g.l 0⟩
theorem tupF_two {f g : En → Option Val} {env : En} {x y : Val} (e1 : f env = some x) (e2 : g env = some y) : tupF (consF f (consF g noF)) env = some (.tup [x, y]) := by
  unfold tupF consF
  rw [e1, e2]
  rfl
theorem lc_all {bnd : Val → Option (List (Nat × Val))} {fe : En → Option Val} {env : En} {F : Val → Val} {xs : List Val} (h : ∀ x ∈ xs, ∃ ps, bnd x = some ps ∧ fe (setE env ps) = some (F x)) : lcGo bnd yesF fe env xs = some (xs.map F) := by
  rw [lc_filter (p := fun _ => true) (F := F) fun x hx => let ⟨ps, e1, e2⟩ := h x hx; ⟨ps, e1, rfl, fun _ => e2⟩, List.filter_eq_self.mpr fun _ _ => rfl]
theorem nm_eval {gss : List (List Dg)} {fs : List Nat} (h : ∀ gs ∈ gss, ∀ g ∈ gs, g.l < fs.length) (hs : gss.length ≤ 100) (hs2 : ∀ gs ∈ gss, gs.length ≤ 100) : nm_f (nmEnv (tLstV gss) fs) = some (.tup [tLstV (ren fs gss), natsV fs]) := by
  have inner : ∀ gs ∈ gss, (fun env => (lcF (itF (getE 3)) (setTup 2 (setCo (setV 4) (setCo (setV 5) setNo))) yesF (tupF (consF (getE 4) (consF (bin2 ixL (getE 2) (getE 5)) noF))) [4, 5] env).map Val.lst) [none, some (tLstV gss), some (natsV fs), some (.lst (gs.map dgV)), none, none] = some (.lst ((gs.map fun g => (⟨g.s, fs.getD g.l 0⟩ : Dg)).map dgV)) := fun gs hgs => by
    show (lcF _ _ _ _ _ _).map Val.lst = _
    unfold lcF
    show ((some (gs.map dgV)).bind _).map Val.lst = _
    show (if (gs.map dgV).length ≤ most then _ else none).map Val.lst = _
    rw [if_pos (by rw [List.length_map]; have := hs2 gs hgs; unfold most; omega)]
    rw [lc_all (F := fun x => match x with | .tup [a, .int i] => .tup [a, .int ((fs.getD i.toNat 0 : Nat) : Int)] | y => y)]
    · rw [List.map_map, List.map_map]
      rfl
    · intro x hx
      obtain ⟨g, hg, rfl⟩ := List.mem_map.mp hx
      have hl := h gs hgs g hg
      refine ⟨[(4, .str g.word), (5, .int (g.l : Int))], rfl, ?_⟩
      have e : bin2 ixL (getE 2) (getE 5) [none, some (tLstV gss), some (natsV fs), some (.lst (gs.map dgV)), some (.str g.word), some (.int (g.l : Int))] = some (.int ((fs.getD g.l 0 : Nat) : Int)) := by
        refine bin2_ok (x := natsV fs) (y := .int (g.l : Int)) rfl rfl ?_
        show atI (fs.map fun n : Nat => Val.int (n : Int)) (g.l : Int) = _
        refine atI_nat ?_
        rw [List.getElem?_map, List.getElem?_eq_getElem hl, List.getD_eq_getElem?_getD, List.getElem?_eq_getElem hl]
        rfl
      exact tupF_two rfl e
  have outer : lcF (itF (getE 1)) (setV 3) yesF (fun env => (lcF (itF (getE 3)) (setTup 2 (setCo (setV 4) (setCo (setV 5) setNo))) yesF (tupF (consF (getE 4) (consF (bin2 ixL (getE 2) (getE 5)) noF))) [4, 5] env).map Val.lst) [3] (nmEnv (tLstV gss) fs) = some ((ren fs gss).map fun gs => .lst (gs.map dgV)) := by
    unfold lcF
    show (if (gss.map fun gs => Val.lst (gs.map dgV)).length ≤ most then _ else none) = _
    rw [if_pos (by rw [List.length_map]; unfold most; omega)]
    have all : ∀ l : List (List Dg), (∀ gs ∈ l, gs ∈ gss) → lcGo (setV 3) yesF (fun env => (lcF (itF (getE 3)) (setTup 2 (setCo (setV 4) (setCo (setV 5) setNo))) yesF (tupF (consF (getE 4) (consF (bin2 ixL (getE 2) (getE 5)) noF))) [4, 5] env).map Val.lst) (wipeE (nmEnv (tLstV gss) fs) [3]) (l.map fun gs => Val.lst (gs.map dgV)) = some ((ren fs l).map fun gs => .lst (gs.map dgV)) := by
      intro l
      induction l with
      | nil => exact fun _ => rfl
      | cons gs l ih =>
        intro hl
        have e := inner gs (hl gs (List.mem_cons_self ..))
        have r := ih fun y hy => hl y (List.mem_cons_of_mem _ hy)
        show lcGo _ _ _ _ (Val.lst (gs.map dgV) :: l.map fun gs => Val.lst (gs.map dgV)) = _
        unfold lcGo
        show ((fun env => (lcF (itF (getE 3)) (setTup 2 (setCo (setV 4) (setCo (setV 5) setNo))) yesF (tupF (consF (getE 4) (consF (bin2 ixL (getE 2) (getE 5)) noF))) [4, 5] env).map Val.lst) [none, some (tLstV gss), some (natsV fs), some (.lst (gs.map dgV)), none, none]).bind _ = _
        rw [e]
        show (lcGo _ _ _ _ (l.map fun gs => Val.lst (gs.map dgV))).bind _ = _
        rw [r]
        rfl
    exact all gss fun _ h => h
  refine tupF_two (f := fun env => (lcF (itF (getE 1)) (setV 3) yesF (fun env => (lcF (itF (getE 3)) (setTup 2 (setCo (setV 4) (setCo (setV 5) setNo))) yesF (tupF (consF (getE 4) (consF (bin2 ixL (getE 2) (getE 5)) noF))) [4, 5] env).map Val.lst) [3] env).map Val.lst) (g := getE 2) ?_ rfl
  show (lcF _ _ _ _ _ _).map Val.lst = _
  rw [outer]
  rfl
def ringG (n : Nat) : List (List Dg) := (List.range n).map fun h => [⟨true, h⟩, ⟨false, (h + n - 1) % n⟩]
def some20 : List (List (List Dg) × Str × List Val) := [([[⟨true, 0⟩, ⟨false, 1⟩], [⟨true, 1⟩, ⟨false, 0⟩]], "causal", []), ([[⟨true, 0⟩, ⟨true, 1⟩], [⟨false, 1⟩, ⟨true, 2⟩], [⟨false, 2⟩, ⟨false, 0⟩]], "single", [.tup [.int 0, .int 2]]), ([[⟨true, 0⟩, ⟨true, 1⟩], [⟨false, 1⟩, ⟨false, 0⟩]], "free", [.tup [.int 0, .int 1]])]
def tupE (e : List (List Dg) × Str × List Val) : Val := .tup [tLstV e.1, .str e.2.1, .lst e.2.2]
def eK (rows : Val) : En := [none, none, none, none, none, none, some rows, none, none, none, none, none, none, none, none, none, none]
def eD (pairs names : Val) : En := [none, none, none, none, none, none, none, none, some pairs, some names, none, none, none, none, none, none, none]
def eT (word talk due : Val) : En := [none, none, none, none, none, none, none, some word, none, none, some talk, some due, none, none, none, none, none]
def eR (talk size : Val) : En := [none, none, none, none, none, none, none, none, none, none, some talk, none, some size, none, none, none, none]
def eS (size : Val) : En := [none, none, none, none, none, none, none, none, none, none, none, none, some size, none, none, none, none]
def eA (asked : Val) : En := [none, none, none, none, none, none, none, none, none, none, none, none, none, some asked, none, none, none]
def eB (asked told : Val) : En := [none, none, none, none, none, none, none, none, none, none, none, none, none, some asked, some told, none, none]
def e0 : En := [none, none, none, none, none, none, none, none, none, none, none, none, none, none, none, none, none]
def Turn1 (e : List (List Dg) × Str × List Val) (n : Nat) : Prop := n ≤ 6 ∧ f__law_many [tLstV e.1] = some (.int (n : Int)) ∧ (∀ gs ∈ e.1, ∀ g ∈ gs, g.l < n) ∧ e.1.length ≤ 100 ∧ (∀ gs ∈ e.1, gs.length ≤ 100) ∧
  ∀ fs : List Nat, fs.Perm (List.range n) → ∃ t d, lw_tk (eK (tLstV (ren fs e.1))) = some t ∧ lw_due (eD (.lst e.2.2) (natsV fs)) = some d ∧ lw_ta (eT (.str e.2.1) t (.lst d)) = some false ∧ lw_tb (eT (.str e.2.1) t (.lst d)) = some false
def Turn2 (n : Nat) : Prop := n ≤ 6 ∧ lw_ring (eS (.int (n : Int))) = some (tLstV (ringG n)) ∧ f__law_many [tLstV (ringG n)] = some (.int (n : Int)) ∧ (∀ gs ∈ ringG n, ∀ g ∈ gs, g.l < n) ∧ (ringG n).length ≤ 100 ∧ (∀ gs ∈ ringG n, gs.length ≤ 100) ∧
  ∀ fs : List Nat, fs.Perm (List.range n) → ∃ t, lw_tk (eK (tLstV (ren fs (ringG n)))) = some t ∧ lw_tc (eR t (.int (n : Int))) = some false ∧ lw_td (eR t (.int (n : Int))) = some false
def Last : Prop := ∃ t u, lw_ask e0 = some t ∧ lw_te (eA t) = some false ∧ lw_told (eA t) = some u ∧ lw_ret (eB t u) = some (.bl true)
def spLaw (K : PySem.W.Frag) : Sp := fun vs H Q _ => ∃ (a : Addr) (ns : List Int), vs = [.ref a] ∧ SqL K H a (iL ns) ∧ ns.length ≤ 63 ∧ ∀ H', Q (.bl true) H'
section
variable {P : Program} {w : World} {K : PySem.W.Frag} {mg : Str → Option Value} {base : Heap} {cm : Cm}
theorem ok_law (U1 : ∀ e ∈ some20, ∃ n, Turn1 e n) (U2 : ∀ n, 3 ≤ n → n ≤ 6 → Turn2 n) (U3 : Last) {f : Addr} {fd : FuncData} (F : Fun K "law" "law" st_law f fd) (T : TxtV K mg cm) {fa_breaks : Addr} {fd_breaks : FuncData} (d_breaks : Df P w K mg base cm "breaks" 7 ["talk"] f_breaks fa_breaks fd_breaks) {fa_kind : Addr} {fd_kind : FuncData} (d_kind : Df P w K mg base cm "kind" 10 ["talk"] f_kind fa_kind fd_kind) {fa_crown : Addr} {fd_crown : FuncData} (d_crown : Df P w K mg base cm "crown" 8 ["talk"] f_crown fa_crown fd_crown) {fa_moments : Addr} {fd_moments : FuncData} (d_moments : Df P w K mg base cm "moments" 2 ["talk"] f_moments fa_moments fd_moments) {fa_is_upright : Addr} {fd_is_upright : FuncData} (d_is_upright : Df P w K mg base cm "is_upright" 3 ["talk"] f_is_upright fa_is_upright fd_is_upright) {fa__law_ring : Addr} {fd__law_ring : FuncData} (d__law_ring : Df P w K mg base cm "_law_ring" 1 ["size"] f__law_ring fa__law_ring fd__law_ring) {fa_is_paper : Addr} {fd_is_paper : FuncData} (d_is_paper : Df P w K mg base cm "is_paper" 8 ["talk", "value"] f_is_paper fa_is_paper fd_is_paper) {fa_drawn : Addr} {fd_drawn : FuncData} (d_drawn : Df P w K mg base cm "drawn" 7 ["hands", "pairs"] f_drawn fa_drawn fd_drawn) {fa_is_ahead : Addr} {fd_is_ahead : FuncData} (d_is_ahead : Df P w K mg base cm "is_ahead" 5 ["talk", "one", "other"] f_is_ahead fa_is_ahead fd_is_ahead) {fa_paper : Addr} {fd_paper : FuncData} (d_paper : Df P w K mg base cm "paper" 9 ["talk"] f_paper fa_paper fd_paper) {fa_clock : Addr} {fd_clock : FuncData} (d_clock : Df P w K mg base cm "clock" 5 ["talk", "doing"] f_clock fa_clock fd_clock)
    {fB fN : Addr} {fdB fdN : FuncData} (TB : mg "_law_begun" = some (.ref fB)) (TN : mg "_law_named" = some (.ref fN))
    (FB : Fun K "_law_begun" "_law_begun" sBeg fB fdB) (bB : Binds K fdB ["script"] []) (GB : FnOk P w K mg base CX0 2 fB fdB ["script"] (spBeg K))
    (FN : Fun K "_law_named" "_law_named" st_named fN fdN) (bN : Binds K fdN ["m", "rows"] []) (GN : FnOk P w K mg base CX0 4 fN fdN ["m", "rows"] (spNamed cm))
    {C fI : Addr} {fdI : FuncData} (hC : cm.cls 0 = C) (MT : Mk K C fI) (GT : ∀ Ck, FnOk P w K mg base CX0 5 fI fdI ["self", "rows"] (spTInit C Sl0 Ck)) (bT : Binds K fdI ["self", "rows"] []) (TT : mg "Talk" = some (.ref C)) :
    FnOk P w K mg base CX0 11 f fd ["script"] (spLaw K) := by
  refine F.ok ss_law (fun vs H Q E h => ?_) (fun cdv A outer s H vs Q E hr h => ?_)
  · obtain ⟨a, ns, rfl, _⟩ := h
    rfl
  · obtain ⟨a, ns, rfl, hS, hlen, q⟩ := h
    have hu : (A.deeper (envOfC "law" (defScope st_law) s.heap.objs.size f cdv)).units + 64 < cLine := by
      have := hr.un
      omega
    refine ⟨_, (pss_cons (ps_set (i := 1) ss_law.nd rfl (Or.inl rfl) (pe_call GB (hr.mono (by decide)) (by rfl) TB FB.kp bB .nil pass0 (pa_cons (pv 0) pa_nil))) (pss_cons (ps_set (i := 2) ss_law.nd rfl (Or.inl rfl) (ve_lst (va_cons (ve_lst (va_cons (ve_tup (va_cons ve_str (va_cons ve_int (va_nil (cm := cm))))) (va_cons (ve_tup (va_cons ve_str (va_cons ve_int (va_nil (cm := cm))))) (va_nil (cm := cm))))) (va_cons (ve_lst (va_cons (ve_tup (va_cons ve_str (va_cons ve_int (va_nil (cm := cm))))) (va_cons (ve_tup (va_cons ve_str (va_cons ve_int (va_nil (cm := cm))))) (va_nil (cm := cm))))) (va_nil (cm := cm)))))) (pss_cons (ps_set (i := 3) ss_law.nd rfl (Or.inl rfl) (ve_lst (va_cons (ve_lst (va_cons (ve_tup (va_cons ve_str (va_cons ve_int (va_nil (cm := cm))))) (va_cons (ve_tup (va_cons ve_str (va_cons ve_int (va_nil (cm := cm))))) (va_nil (cm := cm))))) (va_cons (ve_lst (va_cons (ve_tup (va_cons ve_str (va_cons ve_int (va_nil (cm := cm))))) (va_cons (ve_tup (va_cons ve_str (va_cons ve_int (va_nil (cm := cm))))) (va_nil (cm := cm))))) (va_cons (ve_lst (va_cons (ve_tup (va_cons ve_str (va_cons ve_int (va_nil (cm := cm))))) (va_cons (ve_tup (va_cons ve_str (va_cons ve_int (va_nil (cm := cm))))) (va_nil (cm := cm))))) (va_nil (cm := cm))))))) (pss_cons (ps_set (i := 4) ss_law.nd rfl (Or.inl rfl) (ve_lst (va_cons (ve_lst (va_cons (ve_tup (va_cons ve_str (va_cons ve_int (va_nil (cm := cm))))) (va_cons (ve_tup (va_cons ve_str (va_cons ve_int (va_nil (cm := cm))))) (va_nil (cm := cm))))) (va_cons (ve_lst (va_cons (ve_tup (va_cons ve_str (va_cons ve_int (va_nil (cm := cm))))) (va_cons (ve_tup (va_cons ve_str (va_cons ve_int (va_nil (cm := cm))))) (va_nil (cm := cm))))) (va_nil (cm := cm)))))) (pss_cons (ps_set (i := 5) ss_law.nd rfl (Or.inl rfl) (ve_lst (va_cons (ve_tup (va_cons (vv (cm := cm) 2) (va_cons ve_str (va_cons (ve_lst (va_nil (cm := cm))) (va_nil (cm := cm)))))) (va_cons (ve_tup (va_cons (vv (cm := cm) 3) (va_cons ve_str (va_cons (ve_lst (va_cons (ve_tup (va_cons ve_int (va_cons ve_int (va_nil (cm := cm))))) (va_nil (cm := cm)))) (va_nil (cm := cm)))))) (va_cons (ve_tup (va_cons (vv (cm := cm) 4) (va_cons ve_str (va_cons (ve_lst (va_cons (ve_tup (va_cons ve_int (va_cons ve_int (va_nil (cm := cm))))) (va_nil (cm := cm)))) (va_nil (cm := cm)))))) (va_nil (cm := cm))))))) (pss_cons (ps_for PassesOwn.never rfl (vi_list (vv (cm := cm) 5)) (pg_tup (n := 3) (by rfl) (pgs_cons (pg_name (i := 6) ss_law.nd rfl (Or.inl rfl)) (pgs_cons (pg_name (i := 7) ss_law.nd rfl (Or.inl rfl)) (pgs_cons (pg_name (i := 8) ss_law.nd rfl (Or.inl rfl)) pgs_nil)))) (pss_cons (ps_asg (pe_call GN (hr.mono (by decide)) (by rfl) TN FN.kp bN .nil pass0 (pa_cons (pv 1) (pa_cons (pv 6) pa_nil))) (pg_tup (n := 2) (by rfl) (pgs_cons (pg_name (i := 6) ss_law.nd rfl (Or.inl rfl)) (pgs_cons (pg_name (i := 9) ss_law.nd rfl (Or.inr rfl)) pgs_nil)))) (pss_cons (ps_set (i := 10) ss_law.nd rfl (Or.inl rfl) (ve_make hC mkT_ok MT GT bT (hr.mono (by decide)) (by rfl) TT (va_cons (vv 6) va_nil))) (pss_cons (((ps_setLc (i := 11) (own := [("one", 15), ("other", 16)]) rfl ss_law.nd rfl rfl (sw_true rfl rfl rfl (by decide +kernel)) (vi_list (vv 8)) (blkOk_by (own := [("one", 15), ("other", 16)]) (N := ["script", "m", "cross", "around", "late", "some", "rows", "word", "pairs", "names", "talk", "due", "size", "asked", "told", "one", "other"]) (sc := defScope st_law) (by decide +kernel)) (fun _ _ _ _ _ => (pg_tupK (K := K) (n := 2) rfl (by rfl) (pgs_cons (pg_name (i := 15) ss_law.nd rfl (Or.inl rfl)) (pgs_cons (pg_name (i := 16) ss_law.nd rfl (Or.inl rfl)) pgs_nil)))) (fun _ _ _ _ _ => pts_nil) (fun _ _ _ _ _ => (ve_tup (va_cons (ve_ix ix_list ov_ixL (vv 9) (vv 15) (fun _ _ => rfl)) (va_cons (ve_ix ix_list ov_ixL (vv 9) (vv 16) (fun _ _ => rfl)) va_nil))))).weak fun D σ H q => tLc_of (tg_tup (K := K) (tgs_cons tg_name (tgs_cons tg_name tgs_nil))) (by decide) tt_yes σ H _ q : PS _ _ (tAsg (tN cm lw_due) (gName 11)))) (pss_cons (ps_if (PW.pt (vw_or (vt_cmp (op_neD hu) ov_ne (ve_callD d_kind (hr.mono (by decide)) (by rfl) (va_cons (vv 10) va_nil)) (vv 7) (nomark _)) (vw_or1 (vt_cmp (op_neD hu) ov_ne (ve_callD d_breaks (hr.mono (by decide)) (by rfl) (va_cons (vv 10) va_nil)) (vv 11) (nomark _))))) (pss_one (ps_ret pe_bl)) pss_nil) (pss_one (ps_if (PW.pt (vw_or (vt_val (ve_callD d_is_upright (hr.mono (by decide)) (by rfl) (va_cons (vv 10) va_nil))) (vw_or (vt_cmp op_notN ov_notN (ve_callD d_moments (hr.mono (by decide)) (by rfl) (va_cons (vv 10) va_nil)) ve_non (nomark _)) (vw_or1 (vt_cmp (op_neD hu) ov_ne (ve_callB call_len_seq cv_len (by rfl) T.len PySem.boot_len (va_cons (ve_callD d_crown (hr.mono (by decide)) (by rfl) (va_cons (vv 10) va_nil)) va_nil)) ve_int (nomark _)))))) (pss_one (ps_ret pe_bl)) pss_nil))))))) (pss_cons (ps_for PassesOwn.never rfl (vi_range2 (by rfl) T.range (va_cons ve_int (va_cons ve_int (va_nil (cm := cm))))) (pg_name (i := 12) ss_law.nd rfl (Or.inl rfl)) (pss_cons (ps_asg (pe_call GN (hr.mono (by decide)) (by rfl) TN FN.kp bN .nil pass0 (pa_cons (pv 1) (pa_cons (ve_callD d__law_ring (hr.mono (by decide)) (by rfl) (va_cons (vv 12) va_nil)) pa_nil))) (pg_tup (n := 2) (by rfl) (pgs_cons (pg_name (i := 6) ss_law.nd rfl (Or.inl rfl)) (pgs_cons (pg_name (i := 9) ss_law.nd rfl (Or.inr rfl)) pgs_nil)))) (pss_cons (ps_set (i := 10) ss_law.nd rfl (Or.inl rfl) (ve_make hC mkT_ok MT GT bT (hr.mono (by decide)) (by rfl) TT (va_cons (vv 6) va_nil))) (pss_cons (ps_if (PW.pt (vw_or (vt_cmp (op_neD hu) ov_ne (ve_callB call_len_seq cv_len (by rfl) T.len PySem.boot_len (va_cons (ve_callD d_crown (hr.mono (by decide)) (by rfl) (va_cons (vv 10) va_nil)) va_nil)) (vv 12) (nomark _)) (vw_or (vt_cmp (op_neD hu) ov_ne (ve_callD d_kind (hr.mono (by decide)) (by rfl) (va_cons (vv 10) va_nil)) ve_str (nomark _)) (vw_or1 (vt_cmp (op_neD hu) ov_ne (ve_callB cr_sortT cv_sort (by rfl) T.sorted (by decide +kernel) (va_cons (ve_callD d_crown (hr.mono (by decide)) (by rfl) (va_cons (vv 10) va_nil)) va_nil)) (ve_listRg rfl (by rfl) T.list (by rfl) T.range (vv 12)) (nomark _)))))) (pss_one (ps_ret pe_bl)) pss_nil) (pss_one (ps_if (vt_cmp op_isnot_bl ov_isnotTB (ve_callD d_is_paper (hr.mono (by decide)) (by rfl) (va_cons (vv 10) (va_cons (ve_tup (va_cons ve_str (va_cons (ve_callD d_crown (hr.mono (by decide)) (by rfl) (va_cons (vv 10) va_nil)) va_nil))) va_nil))) ve_bl (nomark _)) (pss_one (ps_ret pe_bl)) pss_nil)))))) (pss_cons (ps_set (i := 13) ss_law.nd rfl (Or.inl rfl) (ve_callD d_drawn (hr.mono (by decide)) (by rfl) (va_cons ve_int (va_cons (ve_lst (va_cons (ve_tup (va_cons ve_int (va_cons ve_int va_nil))) (va_cons (ve_tup (va_cons ve_int (va_cons ve_int va_nil))) (va_cons (ve_tup (va_cons ve_int (va_cons ve_int va_nil))) (va_cons (ve_tup (va_cons ve_int (va_cons ve_int va_nil))) va_nil))))) va_nil)))) (pss_cons (ps_if (PW.pt (vw_or (vt_cmp (op_neD hu) ov_ne (ve_callD d_moments (hr.mono (by decide)) (by rfl) (va_cons (vv 13) va_nil)) (ve_tup (va_cons ve_int (va_cons ve_int (va_cons ve_int (va_cons ve_int va_nil))))) (nomark _)) (vw_or (vt_cmp (op_neD hu) ov_ne (ve_callD d_kind (hr.mono (by decide)) (by rfl) (va_cons (vv 13) va_nil)) ve_str (nomark _)) (vw_or1 (vt_cmp (op_neD hu) ov_ne (ve_callD d_breaks (hr.mono (by decide)) (by rfl) (va_cons (vv 13) va_nil)) (ve_lst va_nil) (nomark _)))))) (pss_one (ps_ret pe_bl)) pss_nil) (pss_cons (ps_set (i := 14) ss_law.nd rfl (Or.inl rfl) (ve_lst (va_cons (ve_callD d_is_ahead (hr.mono (by decide)) (by rfl) (va_cons (vv 13) (va_cons (ve_tup (va_cons ve_str (va_cons ve_int va_nil))) (va_cons (ve_tup (va_cons ve_str (va_cons ve_int va_nil))) va_nil)))) (va_cons (ve_callD d_is_ahead (hr.mono (by decide)) (by rfl) (va_cons (vv 13) (va_cons (ve_tup (va_cons ve_str (va_cons ve_int va_nil))) (va_cons (ve_tup (va_cons ve_str (va_cons ve_int va_nil))) va_nil)))) va_nil)))) (pss_one (ps_ret (ve_and (ve_cmp (op_eqD hu) ov_eq (vv 14) (ve_lst (va_cons ve_bl (va_cons ve_bl va_nil))) (nomark _)) (ve_and (ve_cmp (op_eqD hu) ov_eq (ve_callD d_clock (hr.mono (by decide)) (by rfl) (va_cons (vv 13) (va_cons (ve_tup (va_cons ve_str (va_cons ve_int va_nil))) va_nil))) (ve_tup (va_cons ve_int (va_cons ve_int (va_cons ve_int va_nil)))) (nomark _)) (ve_one (ve_cmp (op_eqD hu) ov_eq (ve_ix ix_tup ov_ixT (ve_callD d_paper (hr.mono (by decide)) (by rfl) (va_cons (vv 13) va_nil)) ve_int (fun _ _ => rfl)) ve_str (nomark _))))))))))))))))), ?_⟩
    refine ⟨_, rfl, a, ns, rfl, hS, hlen, fun H1 m g s1 M => ?_⟩
    -- cross, around, late, some
    refine ⟨hm m g, e0, tLstV (some20[0].1), slots_mk M.hid (by exact True.intro), rfl, fun v1 H2 s2 r1 => ?_⟩
    have M2 := M.same s2
    refine ⟨hm m g, e0, tLstV (some20[1].1), slots_mk M2.hid (by exact True.intro), rfl, fun v2 H3 s3 r2 => ?_⟩
    have M3 := M2.same s3
    have r1 := Rep.same s3 r1
    refine ⟨hm m g, e0, tLstV (some20[2].1), slots_mk M3.hid (by exact True.intro), rfl, fun v3 H4 s4 r3 => ?_⟩
    have M4 := M3.same s4
    have r1 := Rep.same s4 r1
    have r2 := Rep.same s4 r2
    refine ⟨hm m g, [none, none, some (tLstV (some20[0].1)), some (tLstV (some20[1].1)), some (tLstV (some20[2].1)), none, none, none, none, none, none, none, none, none, none, none, none], .lst (some20.map tupE), slots_mk M4.hid (by exact ⟨r1, r2, r3, True.intro⟩), rfl, fun v4 H5 s5 r4 => ?_⟩
    have M5 := M4.same s5
    clear r1 r2 r3
    -- the three talks
    refine ⟨hm m g, [none, none, none, none, none, some (.lst (some20.map tupE)), none, none, none, none, none, none, none, none, none, none, none], some20.map tupE, slots_mk M5.hid (by exact ⟨r4, True.intro⟩), rfl, fun J H6 s6 wk => ?_⟩
    have M6 := M5.same s6
    refine for_it wk (fun i σ' H' => ∃ o6 o7 o8 o9 o10 o11 : Option V, σ' = [some (.ref a), some (.ref m), some v1, some v2, some v3, some v4, o6, o7, o8, o9, o10, o11, none, none, none, none, none] ∧ MAt H' m g (6 * i) ∧ Keep (hm m g) H6 H') ⟨_, _, _, _, _, _, rfl, M6, .refl⟩ (fun i σ' H' _ ⟨_, _, _, _, _, _, _, k1, k2⟩ => ⟨k2, k1.hid⟩) ?_ ?_
    · rintro i x σ' H' Ha hi ⟨o6, o7, o8, o9, o10, o11, rfl, Ma, kp⟩ ⟨sa, y, ey, ry⟩
      rw [List.getElem?_map] at ey
      obtain ⟨e, ee, rfl⟩ := Option.map_eq_some_iff.mp ey
      have i3 : i < 3 := (List.getElem?_eq_some_iff.mp ee).1
      obtain ⟨n, n6, em, hlt, l1, l2, hok⟩ := U1 e (List.mem_of_getElem? ee)
      have ry2 := ry (hm m g) (fun a c => .inl c) Ma.hid
      have tgv : TgV cm (gTup K 3 (gCons (gName 6) (gCons (gName 7) (gCons (gName 8) gNil)))) (setTup 3 (setCo (setV 6) (setCo (setV 7) (setCo (setV 8) setNo)))) _ := tg_tup (tgs_cons tg_name (tgs_cons tg_name (tgs_cons tg_name tgs_nil)))
      obtain ⟨qs, pr, mm, go⟩ := tgv.go _ Ha x _ [(6, tLstV e.1), (7, .str e.2.1), (8, .lst e.2.2)] ry2 rfl
      clear mm
      cases pr with
      | cons p1 t1 =>
      cases t1 with
      | cons p2 t2 =>
      cases t2 with
      | cons p3 t3 =>
      cases t3
      rename_i q1 q2 q3
      obtain ⟨q1, u1⟩ := q1
      obtain ⟨q2, u2⟩ := q2
      obtain ⟨q3, u3⟩ := q3
      obtain ⟨c1, d1⟩ := p1
      obtain ⟨c2, d2⟩ := p2
      obtain ⟨c3, d3⟩ := p3
      cases c1
      cases c2
      cases c3
      refine go _ _ ?_
      have Mb := Ma.same sa
      refine ⟨_, rfl, _, rfl, m, g, 6 * i, n, _, _, rfl, by omega, by omega, Mb, d1, em, fun fs pm => ?_⟩
      have hlen2 : fs.length = n := by rw [pm.length_eq, List.length_range]
      refine ⟨_, nm_eval (fun gs hg g' hg' => by rw [hlen2]; exact hlt gs hg g' hg') l1 l2, fun v' Hb Mc B rn => ?_⟩
      obtain ⟨t, d, et, ed, ea, eb⟩ := hok fs pm
      have d2 := Rep.keep B.keep d2
      have d3 := Rep.keep B.keep d3
      have tgv2 : TgV cm (gTup K 2 (gCons (gName 6) (gCons (gName 9) gNil))) (setTup 2 (setCo (setV 6) (setCo (setV 9) setNo))) _ := tg_tup (tgs_cons tg_name (tgs_cons tg_name tgs_nil))
      obtain ⟨qs, pr, mm, go2⟩ := tgv2.go _ Hb v' _ [(6, tLstV (ren fs e.1)), (9, natsV fs)] rn rfl
      clear mm
      cases pr with
      | cons p1 t1 =>
      cases t1 with
      | cons p2 t2 =>
      cases t2
      rename_i q4 q5
      obtain ⟨q4, u4⟩ := q4
      obtain ⟨q5, u5⟩ := q5
      obtain ⟨c4, d4⟩ := p1
      obtain ⟨c5, d5⟩ := p2
      cases c4
      cases c5
      refine go2 _ _ ?_
      refine ⟨hm m g, eK (tLstV (ren fs e.1)), t, slots_mk Mc.hid (by exact ⟨d4, True.intro⟩), et, fun u10 Hc sc rt => ?_⟩
      have Md := Mc.same sc
      have d5 := Rep.same sc d5
      have d3 := Rep.same sc d3
      have d2 := Rep.same sc d2
      refine ⟨hm m g, eD (.lst e.2.2) (natsV fs), d, slots_mk Md.hid (by exact ⟨d3, d5, True.intro⟩), ed, fun ad vs Hd sd nad had rd _ => ?_⟩
      have Me := Md.same sd
      have d2 := Rep.same sd d2
      have rt := Rep.same sd rt
      have rd2 : Re cm (hm m g) Hd (.ref ad) (.lst d) := .lst (fun c => Md.hid.new nad c) had (Rep.less (fun b c => .inl c) rd)
      refine ⟨hm m g, eT (.str e.2.1) t (.lst d), false, slots_mk Me.hid (by exact ⟨d2, rt, rd2, True.intro⟩), ea, fun He se => ?_⟩
      refine ⟨hm m g, eT (.str e.2.1) t (.lst d), false, slots_mk (Me.hid.same se) (by exact ⟨Rep.same se d2, Rep.same se rt, Rep.same se rd2, True.intro⟩), eb, fun Hf sf => ?_⟩
      exact ⟨_, _, _, _, _, _, rfl, ((Me.same se).same sf).mono (by omega), ((((((kp.trans (.of sa)).trans B.keep).trans (.of sc)).trans (.of sd)).trans (.of se)).trans (.of sf))⟩
    · rintro σ' H7 ⟨o6, o7, o8, o9, o10, o11, rfl, M7, _⟩
      have M7 : MAt H7 m g 18 := M7
      -- the rings
      refine ⟨hm m g, e0, [.int 3, .int 4, .int 5, .int 6], slots_mk M7.hid (by exact True.intro), rfl, fun J H8 s8 wk => ?_⟩
      have M8 := M7.same s8
      refine for_it wk (fun i σ' H' => ∃ o6 o9 o10 o12 : Option V, σ' = [some (.ref a), some (.ref m), some v1, some v2, some v3, some v4, o6, o7, o8, o9, o10, o11, o12, none, none, none, none] ∧ MAt H' m g (18 + 6 * i) ∧ Keep (hm m g) H8 H') ⟨_, _, _, _, rfl, M8, .refl⟩ (fun i σ' H' _ ⟨_, _, _, _, _, k1, k2⟩ => ⟨k2, k1.hid⟩) ?_ ?_
      · rintro i x σ' H' Ha hi ⟨o6, o9, o10, o12, rfl, Ma, kp⟩ ⟨sa, y, ey, ry⟩
        have i4 : i < 4 := hi
        have ey2 : y = .int ((i + 3 : Nat) : Int) := by
          match i, i4, ey with
          | 0, _, ey => cases ey; rfl
          | 1, _, ey => cases ey; rfl
          | 2, _, ey => cases ey; rfl
          | 3, _, ey => cases ey; rfl
        subst ey2
        obtain ⟨n6, er, em, hlt, l1, l2, hok⟩ := U2 (i + 3) (by omega) (by omega)
        have ry2 := ry (hm m g) (fun a c => .inl c) Ma.hid
        cases Re.int_ ry2
        have Mb := Ma.same sa
        refine ⟨_, rfl, hm m g, eS (.int ((i + 3 : Nat) : Int)), tLstV (ringG (i + 3)), slots_mk Mb.hid (by exact ⟨.int _, True.intro⟩), er, fun vr Hr sr rr => ?_⟩
        have Mr := Mb.same sr
        refine ⟨m, g, 18 + 6 * i, i + 3, _, _, rfl, by omega, by omega, Mr, rr, em, fun fs pm => ?_⟩
        have hlen2 : fs.length = i + 3 := by rw [pm.length_eq, List.length_range]
        refine ⟨_, nm_eval (fun gs hg g' hg' => by rw [hlen2]; exact hlt gs hg g' hg') l1 l2, fun v' Hb Mc B rn => ?_⟩
        obtain ⟨t, et, ec, ed⟩ := hok fs pm
        have tgv2 : TgV cm (gTup K 2 (gCons (gName 6) (gCons (gName 9) gNil))) (setTup 2 (setCo (setV 6) (setCo (setV 9) setNo))) _ := tg_tup (tgs_cons tg_name (tgs_cons tg_name tgs_nil))
        obtain ⟨qs, pr, mm, go2⟩ := tgv2.go _ Hb v' _ [(6, tLstV (ren fs (ringG (i + 3)))), (9, natsV fs)] rn rfl
        clear mm
        cases pr with
        | cons p1 t1 =>
        cases t1 with
        | cons p2 t2 =>
        cases t2
        rename_i q4 q5
        obtain ⟨q4, u4⟩ := q4
        obtain ⟨q5, u5⟩ := q5
        obtain ⟨c4, d4⟩ := p1
        obtain ⟨c5, d5⟩ := p2
        cases c4
        cases c5
        refine go2 _ _ ?_
        refine ⟨hm m g, eK (tLstV (ren fs (ringG (i + 3)))), t, slots_mk Mc.hid (by exact ⟨d4, True.intro⟩), et, fun u10 Hc sc rt => ?_⟩
        have Md := Mc.same sc
        refine ⟨hm m g, eR t (.int ((i + 3 : Nat) : Int)), false, slots_mk Md.hid (by exact ⟨rt, .int _, True.intro⟩), ec, fun He se => ?_⟩
        have Me := Md.same se
        refine ⟨hm m g, eR t (.int ((i + 3 : Nat) : Int)), false, slots_mk Me.hid (by exact ⟨Rep.same se rt, .int _, True.intro⟩), ed, fun Hf sf => ?_⟩
        exact ⟨_, _, _, _, rfl, (Me.same sf).mono (by omega), (((((kp.trans (.of sa)).trans (.of sr)).trans B.keep).trans (.of sc)).trans (.of se)).trans (.of sf)⟩
      · rintro σ' H9 ⟨o6, o9, o10, o12, rfl, M9, _⟩
        obtain ⟨t, u, k1, k2, k3, k4⟩ := U3
        refine ⟨hm m g, e0, t, slots_mk M9.hid (by exact True.intro), k1, fun vt Hg sg rt => ?_⟩
        have Mg := M9.same sg
        refine ⟨hm m g, eA t, false, slots_mk Mg.hid (by exact ⟨rt, True.intro⟩), k2, fun Hh sh => ?_⟩
        have Mh := Mg.same sh
        refine ⟨hm m g, eA t, u, slots_mk Mh.hid (by exact ⟨Rep.same sh rt, True.intro⟩), k3, fun vu Hi si ru => ?_⟩
        have Mi := Mh.same si
        refine ⟨hm m g, eB t u, .bl true, slots_mk Mi.hid (by exact ⟨Rep.same si (Rep.same sh rt), ru, True.intro⟩), k4, fun y Hj sj rj => ?_⟩
        cases Re.bl_ rj
        exact q Hj
end
end Up

namespace Up
open PySem PySem.Spec PyProof.Rows L2
/-! ### all orders of a few letters -/
def insAll (x : Nat) : List Nat → List (List Nat)
  | [] => [[x]]
  | y :: ys => (x :: y :: ys) :: (insAll x ys).map (y :: ·)
def allP : List Nat → List (List Nat)
  | [] => [[]]
  | x :: xs => (allP xs).flatMap (insAll x)
theorem ins_mem (x : Nat) : ∀ a b : List Nat, a ++ x :: b ∈ insAll x (a ++ b)
  | [], [] => List.mem_singleton.mpr rfl
  | [], _ :: _ => List.mem_cons_self ..
  | y :: a, b => List.mem_cons_of_mem _ (List.mem_map.mpr ⟨_, ins_mem x a b, rfl⟩)
theorem allP_mem : ∀ {xs l : List Nat}, l.Perm xs → l ∈ allP xs
  | [], l, h => by
    rw [List.Perm.eq_nil h]
    exact List.mem_singleton.mpr rfl
  | x :: xs, l, h => by
    obtain ⟨a, b, rfl⟩ := List.append_of_mem (h.mem_iff.mpr (List.mem_cons_self ..))
    have h2 : (a ++ b).Perm xs := List.Perm.cons_inv (List.perm_middle.symm.trans h)
    exact List.mem_flatMap.mpr ⟨_, allP_mem h2, ins_mem x a b⟩
theorem row_of (gs : List Dg) : allO dgOf (gs.map dgV) = some gs := by
  induction gs with
  | nil => rfl
  | cons g gs ih =>
    have e : dgOf (dgV g) = some g := by
      obtain ⟨s, l⟩ := g
      cases s <;> rfl
    show (dgOf (dgV g)).bind _ = _
    rw [e]
    show (allO dgOf (gs.map dgV)).bind _ = _
    rw [ih]
    rfl
theorem rows_of (gss : List (List Dg)) : rowsOf (tLstV gss) = some gss := by
  show allO rowOf (gss.map fun gs => Val.lst (gs.map dgV)) = some gss
  induction gss with
  | nil => rfl
  | cons gs gss ih =>
    show (rowOf (Val.lst (gs.map dgV))).bind _ = _
    have e : rowOf (Val.lst (gs.map dgV)) = some gs := row_of gs
    rw [e]
    show (allO rowOf _).bind _ = _
    rw [ih]
    rfl
theorem talk_rows (gss : List (List Dg)) : f_Talk [tLstV gss] = mkT gss := by
  show (rowsOf (tLstV gss)).bind mkT = _
  rw [rows_of]
  rfl
def noB : Option Bool → Bool
  | some false => true
  | _ => false
def isYes : Option Val → Bool
  | some (.bl true) => true
  | _ => false
theorem isYes_eq {x : Option Val} (h : isYes x = true) : x = some (.bl true) := by
  unfold isYes at h
  split at h
  · rfl
  · cases h
theorem noB_eq {x : Option Bool} (h : noB x = true) : x = some false := by
  unfold noB at h
  split at h
  · rfl
  · cases h
/-! ### the three talks -/
def chk1 (e : List (List Dg) × Str × List Val) (fs : List Nat) : Bool := match mkT (ren fs e.1) with
  | some t => match lw_due (eD (.lst e.2.2) (natsV fs)) with
    | some d => noB (lw_ta (eT (.str e.2.1) t (.lst d))) && noB (lw_tb (eT (.str e.2.1) t (.lst d)))
    | none => false
  | none => false
theorem chk1_ok {e : List (List Dg) × Str × List Val} {n : Nat} (h : allB (chk1 e) (allP (List.range n)) = true) (fs : List Nat) (pm : fs.Perm (List.range n)) : ∃ t d, lw_tk (eK (tLstV (ren fs e.1))) = some t ∧ lw_due (eD (.lst e.2.2) (natsV fs)) = some d ∧ lw_ta (eT (.str e.2.1) t (.lst d)) = some false ∧ lw_tb (eT (.str e.2.1) t (.lst d)) = some false := by
  have k := allB_mem h fs (allP_mem pm)
  unfold chk1 at k
  split at k
  case h_2 => cases k
  rename_i t et
  split at k
  case h_2 => cases k
  rename_i d ed
  rw [Bool.and_eq_true] at k
  refine ⟨t, d, ?_, ed, noB_eq k.1, noB_eq k.2⟩
  show f_Talk [tLstV (ren fs e.1)] = some t
  rw [talk_rows]
  exact et
theorem U1a : allB (chk1 some20[0]) (allP (List.range 2)) = true := by decide +kernel
theorem U1b : allB (chk1 some20[1]) (allP (List.range 3)) = true := by decide +kernel
theorem U1c : allB (chk1 some20[2]) (allP (List.range 2)) = true := by decide +kernel
theorem U1 : ∀ e ∈ some20, ∃ n, Turn1 e n := by
  intro e he
  rcases List.mem_cons.mp he with rfl | he
  · exact ⟨2, by decide, by rfl, by decide, by decide, by decide, chk1_ok U1a⟩
  rcases List.mem_cons.mp he with rfl | he
  · exact ⟨3, by decide, by rfl, by decide, by decide, by decide, chk1_ok U1b⟩
  rcases List.mem_cons.mp he with rfl | he
  · exact ⟨2, by decide, by rfl, by decide, by decide, by decide, chk1_ok U1c⟩
  cases he
/-! ### the talk of the answers -/
def chkL : Bool := match lw_ask e0 with
  | some t => noB (lw_te (eA t)) && (match lw_told (eA t) with
    | some u => (match lw_ret (eB t u) with
      | some (.bl true) => true
      | _ => false)
    | none => false)
  | none => false
theorem chkL_yes : chkL = true := by decide +kernel
theorem U3 : Last := by
  have k := chkL_yes
  unfold chkL at k
  split at k
  case h_2 => cases k
  rename_i t et
  rw [Bool.and_eq_true] at k
  obtain ⟨k1, k2⟩ := k
  split at k2
  case h_2 => cases k2
  rename_i u eu
  split at k2
  case h_2 => cases k2
  rename_i er
  exact ⟨t, u, et, noB_eq k1, eu, er⟩
end Up

namespace Up
open PySem PySem.Spec PyProof.Rows L2
/-! ### rings: what the tests tell of a crown, a kind and a paper -/
theorem orT_ok {t u : En → Option Bool} {env : En} {a b : Bool} (e : t env = some a) (e2 : a = false → u env = some b) : orT t u env = some (a || b) := by
  unfold orT
  rw [e]
  show (if a = true then some true else u env) = _
  cases a with
  | true => rw [if_pos rfl, Bool.true_or]
  | false => rw [if_neg (by decide), e2 rfl, Bool.false_or]
theorem cons_one {f : En → Option Val} {env : En} {x : Val} (e : f env = some x) : consF f noF env = some [x] := by
  unfold consF
  rw [e]
  rfl
theorem cons_two {f g : En → Option Val} {env : En} {x y : Val} (e : f env = some x) (e2 : g env = some y) : consF f (consF g noF) env = some [x, y] := by
  unfold consF
  rw [e, e2]
  rfl
theorem intsOf_map : ∀ cs : List Int, intsOf (cs.map .int) = some cs
  | [] => rfl
  | c :: cs => by
    show (intsOf (cs.map .int)).map (c :: ·) = _
    rw [intsOf_map cs]
    rfl
def rangeI (n : Nat) : List Int := (List.range n).map fun i : Nat => (i : Int)
structure RingOk (n : Nat) (t : Val) (cs : List Int) : Prop where
  fc : f_crown [t] = some (.tup (cs.map .int))
  fk : f_kind [t] = some (.str "causal")
  fp : f_is_paper [t, .tup [.str "crown", .tup (cs.map .int)]] = some (.bl true)
  len : cs.length = n
  srt : isortI cs = rangeI n
theorem eq_causal : eqF true (.str "causal") (.str "causal") = some (.bl false) := by kernel_rfl
theorem eq_range {n : Nat} (h : n = 3 ∨ n = 4 ∨ n = 5 ∨ n = 6) : eqF true (.lst ((rangeI n).map .int)) (.lst (rangeV 0 n)) = some (.bl false) := by
  rcases h with rfl | rfl | rfl | rfl <;> kernel_rfl
theorem ring_tests {n : Nat} {t : Val} {cs : List Int} (hn : n = 3 ∨ n = 4 ∨ n = 5 ∨ n = 6) (r : RingOk n t cs) : lw_tc (eR t (.int (n : Int))) = some false ∧ lw_td (eR t (.int (n : Int))) = some false := by
  have e0 : appF f_crown (consF (getE 10) noF) (eR t (.int (n : Int))) = some (.tup (cs.map .int)) := appF_ok (xs := [t]) rfl r.fc
  constructor
  · have k1 : tst (bin2 (eqF true) (appF lenF (consF (appF f_crown (consF (getE 10) noF)) noF)) (getE 12)) (eR t (.int (n : Int))) = some false := by
      have e1 := eqInt true (((cs.map Val.int).length : Nat) : Int) (n : Int)
      rw [List.length_map, r.len] at e1
      have e2 : ((n : Int) == (n : Int)) = true := beq_self_eq_true _
      rw [if_pos rfl, e2] at e1
      refine tst_ok (bin2_ok (x := .int (n : Int)) (y := .int (n : Int)) (appF_ok (cons_one e0) ?_) rfl e1)
      show some (Val.int (((cs.map Val.int).length : Nat) : Int)) = _
      rw [List.length_map, r.len]
    have k2 : tst (bin2 (eqF true) (appF f_kind (consF (getE 10) noF)) (cst (.str "causal"))) (eR t (.int (n : Int))) = some false := tst_ok (bin2_ok (appF_ok (xs := [t]) rfl r.fk) rfl eq_causal)
    have k3 : tst (bin2 (eqF true) (appF sortF (consF (appF f_crown (consF (getE 10) noF)) noF)) (lrgF (getE 12))) (eR t (.int (n : Int))) = some false := by
      refine tst_ok (bin2_ok (x := .lst ((rangeI n).map .int)) (y := .lst (rangeV 0 n)) (appF_ok (cons_one e0) ?_) ?_ (eq_range hn))
      · show (intsOf (cs.map .int)).bind _ = _
        rw [intsOf_map]
        show (if cs.length < 64 then some (Val.lst ((isortI cs).map .int)) else none) = _
        rw [if_pos (by rw [r.len]; omega), r.srt]
      · show (if 0 ≤ (n : Int) ∧ (n : Int) ≤ 1000 then some (Val.lst (rangeV 0 (n : Int).toNat)) else none) = _
        rw [if_pos (by omega), Int.toNat_natCast]
    exact orT_ok k1 fun _ => orT_ok k2 fun _ => k3
  · refine tst_ok (bin2_ok (x := .bl true) (y := .bl true) (appF_ok (cons_two (x := t) rfl (tupF_two (x := .str "crown") rfl e0)) r.fp) rfl ?_)
    rfl
/-! ### breaks -/
section
variable {gss : List (List Dg)} {many : Nat} {S G : Nat → Nat} {Ck : Dg → List Int}
theorem getters_at {i : Nat} (hi : i < many) : ixT (handsV many G) (.int (i : Int)) = some (.int ((G i : Nat) : Int)) := by
  show atI (((List.range many).map fun l => ((G l : Nat) : Int)).map Val.int) (i : Int) = _
  refine atI_nat ?_
  rw [List.getElem?_map, List.getElem?_map, List.getElem?_range hi]
  rfl
theorem ahead_self {pl : List Pl} (h : Told pl Ck many) {a : Dg} (ha : a.l < many) : aheadB pl Ck a a = some false := by
  have k := h a a ha ha
  unfold aheadB at k ⊢
  cases e : placeOf pl a with
  | none => rw [e] at k; cases k
  | some p =>
    show (if dgEq a a = true then some false else _) = _
    rw [if_pos (dgEq_iff.mpr rfl)]
theorem break_no (h : Told (plAll 0 gss) Ck many) {i j : Nat} (hi : i < many) (hj : j < many) (c : i = j ∨ G i ≠ G j) : f_is_break [talkV gss many S G Ck, .int (i : Int), .int (j : Int)] = some (.bl false) := by
  refine runV_rt rfl (retG_ok ?_)
  have e1 := eqInt false ((G i : Nat) : Int) ((G j : Nat) : Int)
  rw [if_neg (by decide)] at e1
  have e2 : bin2 (eqF false) (bin2 ixT (fldF 0 "getters" (getE 0)) (getE 1)) (bin2 ixT (fldF 0 "getters" (getE 0)) (getE 2)) [some (talkV gss many S G Ck), some (.int (i : Int)), some (.int (j : Int))] = some (.bl (((G i : Nat) : Int) == ((G j : Nat) : Int))) :=
    bin2_ok (bin2_ok (x := handsV many G) rfl rfl (getters_at hi)) (bin2_ok (x := handsV many G) rfl rfl (getters_at hj)) e1
  have k := andF_ok (g := andF (appF f_is_ahead (consF (getE 0) (consF (tupF (consF (cst (.str "send")) (consF (getE 1) noF))) (consF (tupF (consF (cst (.str "send")) (consF (getE 2) noF))) noF)))) (appF f_is_ahead (consF (getE 0) (consF (tupF (consF (cst (.str "get")) (consF (getE 2) noF))) (consF (tupF (consF (cst (.str "get")) (consF (getE 1) noF))) noF))))) (b := false) e2 fun t => by
    have eg : G i = G j := by
      have := beq_iff_eq.mp t
      omega
    have ij : i = j := c.elim id fun z => absurd eg z
    subst ij
    exact andF_ok (a := false) (b := false) (appF_ok (xs := [talkV gss many S G Ck, dgV ⟨true, i⟩, dgV ⟨true, i⟩]) rfl (f_ahead (a := ⟨true, i⟩) (b := ⟨true, i⟩) hi hi (ahead_self h hi))) fun z => by cases z
  rw [Bool.and_false] at k
  exact k
theorem lc2_all {m m1 : Val → Option (List (Nat × Val))} {fi1 : En → Option (List Val)} {fe : En → Option Val} {vs1 : List Nat} {env : En} {F : Val → List Val} : ∀ {xs : List Val}, (∀ x ∈ xs, ∃ ps ys, m x = some ps ∧ fi1 (setE env ps) = some ys ∧ lcGo m1 yesF fe (wipeE (setE env ps) vs1) ys = some (F x)) → lc2Go m yesF fi1 m1 yesF fe vs1 env xs = some (xs.flatMap F)
  | [], _ => rfl
  | x :: xs, h => by
    obtain ⟨ps, ys, e1, e2, e3⟩ := h x (List.mem_cons_self ..)
    have ih := lc2_all (xs := xs) fun y hy => h y (List.mem_cons_of_mem _ hy)
    unfold lc2Go
    rw [e1]
    show ((fi1 (setE env ps)).bind _) = _
    rw [e2]
    show ((lcGo m1 yesF fe (wipeE (setE env ps) vs1) ys).bind _) = _
    rw [e3, ih]
    rfl
def pairsL (n : Nat) : List Val := ((List.range n).map iV_).flatMap fun x => ((List.range n).map iV_).map fun y => .tup [x, y]
theorem breaks_no (h : Told (plAll 0 gss) Ck many) (m12 : many ≤ 12) (c : ∀ i j, i < many → j < many → i = j ∨ G i ≠ G j) : f_breaks [talkV gss many S G Ck] = some (.lst []) := by
  have e1 : lc2F (rng1 (consF (fldF 0 "many" (getE 0)) noF)) (setV 2) yesF (rng1 (consF (fldF 0 "many" (getE 0)) noF)) (setV 3) yesF (tupF (consF (getE 2) (consF (getE 3) noF))) [2, 3] [3] [some (talkV gss many S G Ck), none, none, none] = some (pairsL many) := by
    unfold lc2F
    rw [rng_many (n := many) (by omega) rfl]
    show (lc2Go _ _ _ _ _ _ _ _ _).bind _ = _
    rw [lc2_all (F := fun x => ((List.range many).map iV_).map fun y => .tup [x, y])]
    · show (if (pairsL many).length ≤ most then some (pairsL many) else none) = _
      rw [if_pos]
      have lf : ∀ l : List Val, (l.flatMap fun x => ((List.range many).map iV_).map fun y => Val.tup [x, y]).length = l.length * many := by
        intro l
        induction l with
        | nil => simp
        | cons a l ih => simp only [List.flatMap_cons, List.length_append, ih, List.length_map, List.length_range, List.length_cons, Nat.add_mul, Nat.one_mul, Nat.add_comm]
      show (((List.range many).map iV_).flatMap _).length ≤ most
      rw [lf, List.length_map, List.length_range]
      have := Nat.mul_le_mul m12 m12
      unfold most
      omega
    · intro x hx
      obtain ⟨i, hi, rfl⟩ := List.mem_map.mp hx
      refine ⟨[(2, iV_ i)], (List.range many).map iV_, rfl, rng_many (n := many) (by omega) rfl, ?_⟩
      refine lc_all (F := fun y => .tup [iV_ i, y]) fun y hy => ?_
      exact ⟨[(3, y)], rfl, tupF_two rfl rfl⟩
  refine runV_rt rfl ?_
  show seqG _ _ [some (talkV gss many S G Ck), none, none, none] = _
  rw [seqG_nx (setG_ok (x := .lst (pairsL many)) (by
    show (lc2F _ _ _ _ _ _ _ _ _ [some (talkV gss many S G Ck), none, none, none]).map Val.lst = _
    rw [e1]
    rfl))]
  refine retG_ok ?_
  show (lcF _ _ _ _ _ [some (talkV gss many S G Ck), some (.lst (pairsL many)), none, none]).map Val.lst = _
  unfold lcF
  show (if (pairsL many).length ≤ most then _ else none).map Val.lst = _
  have lf : ∀ l : List Val, (l.flatMap fun x => ((List.range many).map iV_).map fun y => Val.tup [x, y]).length = l.length * many := by
    intro l
    induction l with
    | nil => simp
    | cons a l ih => simp only [List.flatMap_cons, List.length_append, ih, List.length_map, List.length_range, List.length_cons, Nat.add_mul, Nat.one_mul, Nat.add_comm]
  rw [if_pos (by
    show (((List.range many).map iV_).flatMap _).length ≤ most
    rw [lf, List.length_map, List.length_range]
    have := Nat.mul_le_mul m12 m12
    unfold most
    omega)]
  rw [lc_filter (p := fun _ => false) (F := fun x => x)]
  · have z : ∀ l : List Val, (l.filter fun _ => false) = [] := fun l => by simp
    rw [z]
    rfl
  · intro x hx
    obtain ⟨x1, h1, h2⟩ := List.mem_flatMap.mp hx
    obtain ⟨x2, h3, rfl⟩ := List.mem_map.mp h2
    obtain ⟨i, hi, rfl⟩ := List.mem_map.mp h1
    obtain ⟨j, hj, rfl⟩ := List.mem_map.mp h3
    have hi := List.mem_range.mp hi
    have hj := List.mem_range.mp hj
    refine ⟨[(2, iV_ i), (3, iV_ j)], rfl, ?_, fun z => by cases z⟩
    exact tst_ok (appF_ok (xs := [talkV gss many S G Ck, .int (i : Int), .int (j : Int)]) rfl (break_no h hi hj (c i j hi hj)))
theorem kind_causal {t : Val} (hm : f_moments [t] = some .non) (hb : f_breaks [t] = some (.lst [])) : f_kind [t] = some (.str "causal") := by
  have u : f_is_upright [t] = some (.bl false) := runV_rt rfl (retG_ok (bin2_ok (appF_ok (xs := [t]) rfl hm) rfl rfl))
  have cb : f_causal_break [t] = some .non := runV_rt rfl (retG_ok (appF_ok (cons_one (appF_ok (xs := [t]) rfl hb)) (by kernel_rfl)))
  have ca : f_is_causal [t] = some (.bl true) := runV_rt rfl (retG_ok (bin2_ok (appF_ok (xs := [t]) rfl cb) rfl rfl))
  refine runV_rt rfl ?_
  show seqG _ _ [some t] = _
  rw [seqG_nx (env' := [some t]) (by rw [ifG_f (tst_ok (appF_ok (xs := [t]) rfl u))]; rfl)]
  rw [seqG_rt (z := .str "causal") (by rw [ifG_t (tst_ok (appF_ok (xs := [t]) rfl ca))]; rfl)]
end
end Up

namespace Up
open PySem PySem.Spec PyProof.Rows L2
/-! ### is_paper of a crown, by its steps -/
theorem forGo_inv {m : Val → Option (List (Nat × Val))} {body : En → Option Out} {I : En → Prop} : ∀ {xs : List Val} {env : En}, (∀ x ∈ xs, ∀ env, I env → ∃ ps env', m x = some ps ∧ body (setE env ps) = some (.nx env') ∧ I env') → I env → ∃ env', forGo m body xs env = some (.nx env') ∧ I env'
  | [], env, _, h => ⟨env, rfl, h⟩
  | x :: xs, env, k, h => by
    obtain ⟨ps, e1, h1, h2, h3⟩ := k x (List.mem_cons_self ..) env h
    obtain ⟨e2, h4, h5⟩ := forGo_inv (xs := xs) (fun y hy => k y (List.mem_cons_of_mem _ hy)) h3
    refine ⟨e2, ?_, h5⟩
    unfold forGo
    rw [h1]
    show (body (setE env ps)).bind _ = _
    rw [h2]
    exact h4
theorem chainF_ok {p r : Int → Int → Bool} {f g h : En → Option Val} {env : En} {i j k : Int} (e1 : f env = some (.int i)) (e2 : g env = some (.int j)) (c : p i j = true) (e3 : h env = some (.int k)) : chainF p r f g h env = some (.bl (r j k)) := by
  unfold chainF
  rw [e1, e2]
  show (if p i j = true then (h env).bind _ else _) = _
  rw [if_pos c, e3]
  rfl
def stepV (pl : List Pl) (Ck : Dg → List Int) (n : Nat) : Val → Bool
  | .tup [.int i, .int j] => decide (0 ≤ i) && decide (0 ≤ j) && decide (i.toNat < n) && decide (j.toNat < n) && stepN pl Ck i.toNat j.toNat
  | _ => false
def indV (n : Nat) : Val → Bool
  | .int i => decide (0 ≤ i) && decide (i < (n : Int))
  | _ => false
def zipC (told : Val) : Option (List Val) := zipA (consF (getE 1) (consF (bin2 catTA (slF cutTA (getE 1) (partF (cst (.int 1))) noPart) (slF cutTA (getE 1) noPart (partF (cst (.int 1))))) noF)) [none, some told, none, none, none]
section
variable {gss : List (List Dg)} {many : Nat} {S G : Nat → Nat} {Ck : Dg → List Int}
theorem crown_yes (h : Told (plAll 0 gss) Ck many) {cs : List Int} {zs : List Val} (l2 : 2 ≤ cs.length) (lm : cs.length ≤ many) (m12 : many ≤ 12) (hi : ∀ x ∈ cs.map Val.int, indV many x = true) (hd : (ddI cs).length = cs.length) (hz : zipC (.tup (cs.map .int)) = some zs) (hs : ∀ z ∈ zs, stepV (plAll 0 gss) Ck many z = true) :
    f_is_crown [talkV gss many S G Ck, .tup (cs.map .int)] = some (.bl true) := by
  generalize ht : talkV gss many S G Ck = t
  have hmany : ∀ o2 o3 o4 : Option Val, fldF 0 "many" (getE 0) [some t, some (.tup (cs.map .int)), o2, o3, o4] = some (.int (many : Int)) := fun o2 o3 o4 => by
    subst ht
    rfl
  have hlen : ∀ o2 o3 o4 : Option Val, appF lenF (consF (getE 1) noF) [some t, some (.tup (cs.map .int)), o2, o3, o4] = some (.int (cs.length : Int)) := fun o2 o3 o4 => by
    refine appF_ok (xs := [.tup (cs.map .int)]) rfl ?_
    show some (Val.int (((cs.map Val.int).length : Nat) : Int)) = _
    rw [List.length_map]
  refine runV_rt rfl ?_
  show seqG _ _ [some t, some (.tup (cs.map .int)), none, none, none] = _
  rw [seqG_nx (env' := [some t, some (.tup (cs.map .int)), none, none, none]) (by
    have e := chainF_ok (p := fun i j => decide (i ≤ j)) (r := fun i j => decide (i ≤ j)) (f := cst (.int 2)) (i := 2) rfl (hlen none none none) (decide_eq_true (by omega)) (hmany none none none)
    rw [show decide ((cs.length : Int) ≤ (many : Int)) = true from decide_eq_true (by omega)] at e
    rw [ifG_f (notT_ok (tst_ok e))]
    rfl)]
  -- the letters
  obtain ⟨env1, e1, o2, o3, o4, rfl⟩ := forGo_inv (m := setV 2) (body := ifG (notT (tst (appF f_is_index (consF (getE 2) (consF (fldF 0 "many" (getE 0)) noF))))) (retG (cst (.bl false))) nilG) (I := fun env => ∃ o2 o3 o4, env = [some t, some (.tup (cs.map .int)), o2, o3, o4]) (xs := cs.map .int) (env := [some t, some (.tup (cs.map .int)), none, none, none]) (fun x hx env ⟨o2, o3, o4, ee⟩ => by
    subst ee
    have hx2 := hi x hx
    obtain ⟨c, hc, rfl⟩ := List.mem_map.mp hx
    refine ⟨[(2, .int c)], [some t, some (.tup (cs.map .int)), some (.int c), o3, o4], rfl, ?_, _, _, _, rfl⟩
    show ifG _ _ _ [some t, some (.tup (cs.map .int)), some (.int c), o3, o4] = _
    have e := f_index c (many : Int)
    rw [show (decide (0 ≤ c) && decide (c < (many : Int))) = true from hx2] at e
    rw [ifG_f (notT_ok (tst_ok (appF_ok (cons_two (y := .int (many : Int)) rfl (hmany _ _ _)) e)))]
    rfl) ⟨_, _, _, rfl⟩
  rw [seqG_nx (env' := [some t, some (.tup (cs.map .int)), o2, o3, o4]) (by
    unfold forG
    show forGo _ _ (cs.map .int) [some t, some (.tup (cs.map .int)), none, none, none] = _
    exact e1)]
  rw [seqG_nx (env' := [some t, some (.tup (cs.map .int)), o2, o3, o4]) (by
    rw [ifG_f (tst_ok (b := false) (bin2_ok (x := .int (((ddI cs).length : Nat) : Int)) (y := .int (cs.length : Int)) (by
      unfold lenSF
      show (intsOf (cs.map .int)).bind _ = _
      rw [intsOf_map]
      show (if cs.length ≤ 1000 then some (Val.int (((ddI cs).length : Nat) : Int)) else none) = _
      rw [if_pos (by omega)]) (hlen _ _ _) (by
      show some (Val.bl (decide ((((ddI cs).length : Nat) : Int) < (cs.length : Int)))) = _
      rw [hd, decide_eq_false (Int.lt_irrefl _)])))]
    rfl)]
  obtain ⟨env2, e2, p2, p3, p4, rfl⟩ := forGo_inv (m := setTup 2 (setCo (setV 3) (setCo (setV 4) setNo))) (body := ifG (notT (tst (appF f_is_crown_step (consF (getE 0) (consF (getE 3) (consF (getE 4) noF)))))) (retG (cst (.bl false))) nilG) (I := fun env => ∃ o2 o3 o4, env = [some t, some (.tup (cs.map .int)), o2, o3, o4]) (xs := zs) (env := [some t, some (.tup (cs.map .int)), o2, o3, o4]) (fun x hx env ⟨o2, o3, o4, ee⟩ => by
    subst ee
    have hx2 := hs x hx
    unfold stepV at hx2
    split at hx2
    case h_2 => cases hx2
    rename_i i j
    simp only [Bool.and_eq_true, decide_eq_true_eq] at hx2
    obtain ⟨⟨⟨⟨i0, j0⟩, il⟩, jl⟩, st⟩ := hx2
    refine ⟨[(3, .int i), (4, .int j)], [some t, some (.tup (cs.map .int)), o2, some (.int i), some (.int j)], rfl, ?_, _, _, _, rfl⟩
    show ifG _ _ _ [some t, some (.tup (cs.map .int)), o2, some (.int i), some (.int j)] = _
    have e := f_step (S := S) (G := G) h il jl
    rw [st, Int.toNat_of_nonneg i0, Int.toNat_of_nonneg j0, ht] at e
    rw [ifG_f (notT_ok (tst_ok (appF_ok (xs := [t, .int i, .int j]) rfl e)))]
    rfl) ⟨_, _, _, rfl⟩
  rw [seqG_nx (env' := [some t, some (.tup (cs.map .int)), p2, p3, p4]) (by
    unfold forG
    show (zipC (.tup (cs.map .int))).bind _ = _
    rw [hz]
    exact e2)]
  exact retG_ok rfl
theorem paper_yes {cs : List Int} {t : Val} (hc : f_is_crown [t, .tup (cs.map .int)] = some (.bl true)) : f_is_paper [t, .tup [.str "crown", .tup (cs.map .int)]] = some (.bl true) := by
  refine runV_rt rfl ?_
  show seqG _ _ [some t, some (.tup [.str "crown", .tup (cs.map .int)]), none, none] = _
  rw [seqG_nx (env' := [some t, some (.tup [.str "crown", .tup (cs.map .int)]), none, none]) (by rw [ifG_f (notT_ok (tst_ok (appF_ok (cons_one rfl) (couple_two _ _))))]; rfl)]
  rw [seqG_nx (env' := [some t, some (.tup [.str "crown", .tup (cs.map .int)]), some (.str "crown"), some (.tup (cs.map .int))]) rfl]
  rw [seqG_nx (env' := [some t, some (.tup [.str "crown", .tup (cs.map .int)]), some (.str "crown"), some (.tup (cs.map .int))]) (by rw [ifG_f (orT_ok (a := false) (b := false) (notT_ok (tst_ok (b := true) (by kernel_rfl))) fun _ => notT_ok (tst_ok (b := true) (by kernel_rfl)))]; rfl)]
  rw [seqG_nx (env' := [some t, some (.tup [.str "crown", .tup (cs.map .int)]), some (.str "crown"), some (.tup (cs.map .int))]) (by rw [ifG_f (tst_ok (b := false) (bin2_ok (x := .str "crown") rfl rfl (by kernel_rfl)))]; rfl)]
  refine retG_ok ?_
  exact andF_ok (a := true) (b := true) (bin2_ok (x := .str "crown") rfl rfl (by kernel_rfl)) fun _ => appF_ok (xs := [t, .tup (cs.map .int)]) rfl hc
end
end Up

namespace Up
open PySem PySem.Spec PyProof.Rows L2
/-! ### rings, checked -/
def plG (gss : List (List Dg)) : List Pl := plAll 0 gss
def SG (gss : List (List Dg)) (l : Nat) : Nat := (handOf (plG gss) ⟨true, l⟩).getD 0
def GG (gss : List (List Dg)) (l : Nat) : Nat := (handOf (plG gss) ⟨false, l⟩).getD 0
def tabG (gss : List (List Dg)) : List (Dg × List Int) := ckTab gss ((plG gss).length + 1) []
def CG (gss : List (List Dg)) : Dg → List Int := ckOf (tabG gss) gss.length
def talkG (gss : List (List Dg)) : Val := talkV gss (manyOf (plG gss)) (SG gss) (GG gss) (CG gss)
def bothB (n : Nat) (f : Dg → Bool) : Bool := allB (fun l => f ⟨true, l⟩ && f ⟨false, l⟩) (upto n)
theorem bothB_ok {n : Nat} {f : Dg → Bool} (h : bothB n f = true) (a : Dg) (ha : a.l < n) : f a = true := by
  have k := allB_mem h a.l (upto_mem ha)
  rw [Bool.and_eq_true] at k
  obtain ⟨s, l⟩ := a
  cases s
  · exact k.2
  · exact k.1
def toldB (pl : List Pl) (Ck : Dg → List Int) (n : Nat) : Bool := bothB n fun a => bothB n fun b => (aheadB pl Ck a b).isSome
def distB (G : Nat → Nat) (n : Nat) : Bool := allB (fun i => allB (fun j => i == j || !(G i == G j)) (upto n)) (upto n)
def nonB : Option Val → Bool
  | some .non => true
  | _ => false
theorem ints_of_back : ∀ {vs : List Val} {cs : List Int}, intsOf vs = some cs → vs = cs.map .int
  | [], cs, e => by cases e; rfl
  | v :: vs, cs, e => by
    cases v <;> try (cases e; done)
    rename_i i
    replace e : (intsOf vs).map (i :: ·) = some cs := e
    obtain ⟨ds, e1, rfl⟩ := Option.map_eq_some_iff.mp e
    rw [ints_of_back e1]
    rfl
/-! crowns by the letters that are told next: each has one -/
def tab3 : List (List Nat × List Int) := [([1, 2, 0], [0, 1, 2]), ([2, 0, 1], [0, 2, 1])]
def tab4 : List (List Nat × List Int) := [([1, 2, 3, 0], [0, 1, 2, 3]), ([1, 3, 0, 2], [0, 1, 3, 2]), ([2, 3, 1, 0], [0, 2, 1, 3]), ([2, 0, 3, 1], [0, 2, 3, 1]), ([3, 2, 0, 1], [0, 3, 1, 2]), ([3, 0, 1, 2], [0, 3, 2, 1])]
def tab5 : List (List Nat × List Int) := [([1, 2, 3, 4, 0], [0, 1, 2, 3, 4]), ([1, 2, 4, 0, 3], [0, 1, 2, 4, 3]), ([1, 3, 4, 2, 0], [0, 1, 3, 2, 4]), ([1, 3, 0, 4, 2], [0, 1, 3, 4, 2]), ([1, 4, 3, 0, 2], [0, 1, 4, 2, 3]), 
  ([1, 4, 0, 2, 3], [0, 1, 4, 3, 2]), ([2, 3, 1, 4, 0], [0, 2, 1, 3, 4]), ([2, 4, 1, 0, 3], [0, 2, 1, 4, 3]), ([2, 4, 3, 1, 0], [0, 2, 3, 1, 4]), ([2, 0, 3, 4, 1], [0, 2, 3, 4, 1]), 
  ([2, 3, 4, 0, 1], [0, 2, 4, 1, 3]), ([2, 0, 4, 1, 3], [0, 2, 4, 3, 1]), ([3, 2, 4, 1, 0], [0, 3, 1, 2, 4]), ([3, 4, 0, 1, 2], [0, 3, 1, 4, 2]), ([3, 4, 1, 2, 0], [0, 3, 2, 1, 4]), 
  ([3, 0, 4, 2, 1], [0, 3, 2, 4, 1]), ([3, 2, 0, 4, 1], [0, 3, 4, 1, 2]), ([3, 0, 1, 4, 2], [0, 3, 4, 2, 1]), ([4, 2, 3, 0, 1], [0, 4, 1, 2, 3]), ([4, 3, 0, 2, 1], [0, 4, 1, 3, 2]), 
  ([4, 3, 1, 0, 2], [0, 4, 2, 1, 3]), ([4, 0, 3, 1, 2], [0, 4, 2, 3, 1]), ([4, 2, 0, 1, 3], [0, 4, 3, 1, 2]), ([4, 0, 1, 2, 3], [0, 4, 3, 2, 1])]
def tab6 : List (List Nat × List Int) := [([1, 2, 3, 4, 5, 0], [0, 1, 2, 3, 4, 5]), ([1, 2, 3, 5, 0, 4], [0, 1, 2, 3, 5, 4]), ([1, 2, 4, 5, 3, 0], [0, 1, 2, 4, 3, 5]), ([1, 2, 4, 0, 5, 3], [0, 1, 2, 4, 5, 3]), 
  ([1, 2, 5, 4, 0, 3], [0, 1, 2, 5, 3, 4]), ([1, 2, 5, 0, 3, 4], [0, 1, 2, 5, 4, 3]), ([1, 3, 4, 2, 5, 0], [0, 1, 3, 2, 4, 5]), ([1, 3, 5, 2, 0, 4], [0, 1, 3, 2, 5, 4]), 
  ([1, 3, 5, 4, 2, 0], [0, 1, 3, 4, 2, 5]), ([1, 3, 0, 4, 5, 2], [0, 1, 3, 4, 5, 2]), ([1, 3, 4, 5, 0, 2], [0, 1, 3, 5, 2, 4]), ([1, 3, 0, 5, 2, 4], [0, 1, 3, 5, 4, 2]), 
  ([1, 4, 3, 5, 2, 0], [0, 1, 4, 2, 3, 5]), ([1, 4, 5, 0, 2, 3], [0, 1, 4, 2, 5, 3]), ([1, 4, 5, 2, 3, 0], [0, 1, 4, 3, 2, 5]), ([1, 4, 0, 5, 3, 2], [0, 1, 4, 3, 5, 2]), 
  ([1, 4, 3, 0, 5, 2], [0, 1, 4, 5, 2, 3]), ([1, 4, 0, 2, 5, 3], [0, 1, 4, 5, 3, 2]), ([1, 5, 3, 4, 0, 2], [0, 1, 5, 2, 3, 4]), ([1, 5, 4, 0, 3, 2], [0, 1, 5, 2, 4, 3]), 
  ([1, 5, 4, 2, 0, 3], [0, 1, 5, 3, 2, 4]), ([1, 5, 0, 4, 2, 3], [0, 1, 5, 3, 4, 2]), ([1, 5, 3, 0, 2, 4], [0, 1, 5, 4, 2, 3]), ([1, 5, 0, 2, 3, 4], [0, 1, 5, 4, 3, 2]), 
  ([2, 3, 1, 4, 5, 0], [0, 2, 1, 3, 4, 5]), ([2, 3, 1, 5, 0, 4], [0, 2, 1, 3, 5, 4]), ([2, 4, 1, 5, 3, 0], [0, 2, 1, 4, 3, 5]), ([2, 4, 1, 0, 5, 3], [0, 2, 1, 4, 5, 3]), 
  ([2, 5, 1, 4, 0, 3], [0, 2, 1, 5, 3, 4]), ([2, 5, 1, 0, 3, 4], [0, 2, 1, 5, 4, 3]), ([2, 4, 3, 1, 5, 0], [0, 2, 3, 1, 4, 5]), ([2, 5, 3, 1, 0, 4], [0, 2, 3, 1, 5, 4]), 
  ([2, 5, 3, 4, 1, 0], [0, 2, 3, 4, 1, 5]), ([2, 0, 3, 4, 5, 1], [0, 2, 3, 4, 5, 1]), ([2, 4, 3, 5, 0, 1], [0, 2, 3, 5, 1, 4]), ([2, 0, 3, 5, 1, 4], [0, 2, 3, 5, 4, 1]), 
  ([2, 3, 4, 5, 1, 0], [0, 2, 4, 1, 3, 5]), ([2, 5, 4, 0, 1, 3], [0, 2, 4, 1, 5, 3]), ([2, 5, 4, 1, 3, 0], [0, 2, 4, 3, 1, 5]), ([2, 0, 4, 5, 3, 1], [0, 2, 4, 3, 5, 1]), 
  ([2, 3, 4, 0, 5, 1], [0, 2, 4, 5, 1, 3]), ([2, 0, 4, 1, 5, 3], [0, 2, 4, 5, 3, 1]), ([2, 3, 5, 4, 0, 1], [0, 2, 5, 1, 3, 4]), ([2, 4, 5, 0, 3, 1], [0, 2, 5, 1, 4, 3]), 
  ([2, 4, 5, 1, 0, 3], [0, 2, 5, 3, 1, 4]), ([2, 0, 5, 4, 1, 3], [0, 2, 5, 3, 4, 1]), ([2, 3, 5, 0, 1, 4], [0, 2, 5, 4, 1, 3]), ([2, 0, 5, 1, 3, 4], [0, 2, 5, 4, 3, 1]), 
  ([3, 2, 4, 1, 5, 0], [0, 3, 1, 2, 4, 5]), ([3, 2, 5, 1, 0, 4], [0, 3, 1, 2, 5, 4]), ([3, 4, 5, 1, 2, 0], [0, 3, 1, 4, 2, 5]), ([3, 4, 0, 1, 5, 2], [0, 3, 1, 4, 5, 2]), 
  ([3, 5, 4, 1, 0, 2], [0, 3, 1, 5, 2, 4]), ([3, 5, 0, 1, 2, 4], [0, 3, 1, 5, 4, 2]), ([3, 4, 1, 2, 5, 0], [0, 3, 2, 1, 4, 5]), ([3, 5, 1, 2, 0, 4], [0, 3, 2, 1, 5, 4]), 
  ([3, 5, 4, 2, 1, 0], [0, 3, 2, 4, 1, 5]), ([3, 0, 4, 2, 5, 1], [0, 3, 2, 4, 5, 1]), ([3, 4, 5, 2, 0, 1], [0, 3, 2, 5, 1, 4]), ([3, 0, 5, 2, 1, 4], [0, 3, 2, 5, 4, 1]), 
  ([3, 2, 5, 4, 1, 0], [0, 3, 4, 1, 2, 5]), ([3, 5, 0, 4, 1, 2], [0, 3, 4, 1, 5, 2]), ([3, 5, 1, 4, 2, 0], [0, 3, 4, 2, 1, 5]), ([3, 0, 5, 4, 2, 1], [0, 3, 4, 2, 5, 1]), 
  ([3, 2, 0, 4, 5, 1], [0, 3, 4, 5, 1, 2]), ([3, 0, 1, 4, 5, 2], [0, 3, 4, 5, 2, 1]), ([3, 2, 4, 5, 0, 1], [0, 3, 5, 1, 2, 4]), ([3, 4, 0, 5, 2, 1], [0, 3, 5, 1, 4, 2]), 
  ([3, 4, 1, 5, 0, 2], [0, 3, 5, 2, 1, 4]), ([3, 0, 4, 5, 1, 2], [0, 3, 5, 2, 4, 1]), ([3, 2, 0, 5, 1, 4], [0, 3, 5, 4, 1, 2]), ([3, 0, 1, 5, 2, 4], [0, 3, 5, 4, 2, 1]), 
  ([4, 2, 3, 5, 1, 0], [0, 4, 1, 2, 3, 5]), ([4, 2, 5, 0, 1, 3], [0, 4, 1, 2, 5, 3]), ([4, 3, 5, 2, 1, 0], [0, 4, 1, 3, 2, 5]), ([4, 3, 0, 5, 1, 2], [0, 4, 1, 3, 5, 2]), 
  ([4, 5, 3, 0, 1, 2], [0, 4, 1, 5, 2, 3]), ([4, 5, 0, 2, 1, 3], [0, 4, 1, 5, 3, 2]), ([4, 3, 1, 5, 2, 0], [0, 4, 2, 1, 3, 5]), ([4, 5, 1, 0, 2, 3], [0, 4, 2, 1, 5, 3]), 
  ([4, 5, 3, 1, 2, 0], [0, 4, 2, 3, 1, 5]), ([4, 0, 3, 5, 2, 1], [0, 4, 2, 3, 5, 1]), ([4, 3, 5, 0, 2, 1], [0, 4, 2, 5, 1, 3]), ([4, 0, 5, 1, 2, 3], [0, 4, 2, 5, 3, 1]), 
  ([4, 2, 5, 1, 3, 0], [0, 4, 3, 1, 2, 5]), ([4, 5, 0, 1, 3, 2], [0, 4, 3, 1, 5, 2]), ([4, 5, 1, 2, 3, 0], [0, 4, 3, 2, 1, 5]), ([4, 0, 5, 2, 3, 1], [0, 4, 3, 2, 5, 1]), 
  ([4, 2, 0, 5, 3, 1], [0, 4, 3, 5, 1, 2]), ([4, 0, 1, 5, 3, 2], [0, 4, 3, 5, 2, 1]), ([4, 2, 3, 0, 5, 1], [0, 4, 5, 1, 2, 3]), ([4, 3, 0, 2, 5, 1], [0, 4, 5, 1, 3, 2]), 
  ([4, 3, 1, 0, 5, 2], [0, 4, 5, 2, 1, 3]), ([4, 0, 3, 1, 5, 2], [0, 4, 5, 2, 3, 1]), ([4, 2, 0, 1, 5, 3], [0, 4, 5, 3, 1, 2]), ([4, 0, 1, 2, 5, 3], [0, 4, 5, 3, 2, 1]), 
  ([5, 2, 3, 4, 0, 1], [0, 5, 1, 2, 3, 4]), ([5, 2, 4, 0, 3, 1], [0, 5, 1, 2, 4, 3]), ([5, 3, 4, 2, 0, 1], [0, 5, 1, 3, 2, 4]), ([5, 3, 0, 4, 2, 1], [0, 5, 1, 3, 4, 2]), 
  ([5, 4, 3, 0, 2, 1], [0, 5, 1, 4, 2, 3]), ([5, 4, 0, 2, 3, 1], [0, 5, 1, 4, 3, 2]), ([5, 3, 1, 4, 0, 2], [0, 5, 2, 1, 3, 4]), ([5, 4, 1, 0, 3, 2], [0, 5, 2, 1, 4, 3]), 
  ([5, 4, 3, 1, 0, 2], [0, 5, 2, 3, 1, 4]), ([5, 0, 3, 4, 1, 2], [0, 5, 2, 3, 4, 1]), ([5, 3, 4, 0, 1, 2], [0, 5, 2, 4, 1, 3]), ([5, 0, 4, 1, 3, 2], [0, 5, 2, 4, 3, 1]), 
  ([5, 2, 4, 1, 0, 3], [0, 5, 3, 1, 2, 4]), ([5, 4, 0, 1, 2, 3], [0, 5, 3, 1, 4, 2]), ([5, 4, 1, 2, 0, 3], [0, 5, 3, 2, 1, 4]), ([5, 0, 4, 2, 1, 3], [0, 5, 3, 2, 4, 1]), 
  ([5, 2, 0, 4, 1, 3], [0, 5, 3, 4, 1, 2]), ([5, 0, 1, 4, 2, 3], [0, 5, 3, 4, 2, 1]), ([5, 2, 3, 0, 1, 4], [0, 5, 4, 1, 2, 3]), ([5, 3, 0, 2, 1, 4], [0, 5, 4, 1, 3, 2]), 
  ([5, 3, 1, 0, 2, 4], [0, 5, 4, 2, 1, 3]), ([5, 0, 3, 1, 2, 4], [0, 5, 4, 2, 3, 1]), ([5, 2, 0, 1, 3, 4], [0, 5, 4, 3, 1, 2]), ([5, 0, 1, 2, 3, 4], [0, 5, 4, 3, 2, 1])]
def valOf (s : List Nat) : Val := .lst (s.map fun x => .lst [iV_ x])
def outB (cs : List Int) : Option Out → Bool
  | some (.rt (.tup vs)) => match intsOf vs with
    | some ds => ds == cs
    | none => false
  | _ => false
def tabB (t : Val) (tab : List (List Nat × List Int)) : Bool := allB (fun row => outB row.2 (g_crownR [some t, some (valOf row.1), none, none, none, none])) tab
section
variable (gss : List (List Dg)) (S G : Nat → Nat) (Ck : Dg → List Int)
theorem tab3_ok : tabB (talkV gss 3 S G Ck) tab3 = true := by kernel_rfl
theorem tab4_ok : tabB (talkV gss 4 S G Ck) tab4 = true := by kernel_rfl
theorem tab5_ok : tabB (talkV gss 5 S G Ck) tab5 = true := by kernel_rfl
theorem tab6_ok : tabB (talkV gss 6 S G Ck) tab6 = true := by kernel_rfl
end
def eqRow : List Nat → List (List Nat) → Bool
  | [], [] => true
  | s :: ss, [x] :: r => s == x && eqRow ss r
  | _, _ => false
theorem eqRow_eq : ∀ {s : List Nat} {r : List (List Nat)}, eqRow s r = true → r = s.map fun x => [x]
  | [], [], _ => rfl
  | s :: ss, [x] :: r, h => by
    unfold eqRow at h
    rw [Bool.and_eq_true, beq_iff_eq] at h
    rw [h.1, eqRow_eq h.2]
    rfl
def findRow (nx : List (List Nat)) : List (List Nat × List Int) → Option (List Int)
  | [] => none
  | row :: t => if eqRow row.1 nx = true then some row.2 else findRow nx t
theorem findRow_ok {nx : List (List Nat)} {cs : List Int} : ∀ {tab : List (List Nat × List Int)}, findRow nx tab = some cs → ∃ s, (s, cs) ∈ tab ∧ nx = s.map fun x => [x]
  | row :: t, h => by
    unfold findRow at h
    by_cases c : eqRow row.1 nx = true
    · rw [if_pos c] at h
      cases h
      exact ⟨row.1, List.mem_cons_self .., eqRow_eq c⟩
    · rw [if_neg c] at h
      obtain ⟨s, h1, h2⟩ := findRow_ok h
      exact ⟨s, List.mem_cons_of_mem _ h1, h2⟩
def nxOf (st : Nat → Nat → Bool) (n : Nat) : List (List Nat) := (List.range n).map fun l => (List.range n).filter fun o => !(o == l) && st l o
theorem crown_tab {gss : List (List Dg)} {n : Nat} {S G : Nat → Nat} {Ck : Dg → List Int} {tab : List (List Nat × List Int)} (ok : tabB (talkV gss n S G Ck) tab = true) {st : Nat → Nat → Bool} {cs : List Int} (e : findRow (nxOf st n) tab = some cs) : crownN (talkV gss n S G Ck) st n = some (.tup (cs.map .int)) := by
  obtain ⟨s, h1, h2⟩ := findRow_ok e
  have k := allB_mem ok _ h1
  have ev : nextsN st n = valOf s := by
    unfold nextsN valOf
    have e1 : (List.range n).map (fun l => nextN st n l) = (nxOf st n).map fun xs => Val.lst (xs.map iV_) := by
      unfold nxOf nextN
      rw [List.map_map]
      rfl
    rw [e1, h2, List.map_map]
    rfl
  unfold crownN
  rw [ev]
  unfold outB at k
  split at k
  case h_2 => cases k
  rename_i vs eo
  split at k
  case h_2 => cases k
  rename_i ds ed
  have ec := beq_iff_eq.mp k
  subst ec
  rw [show g_crownR [some (talkV gss n S G Ck), some (valOf s), none, none, none, none] = some (.rt (.tup vs)) from eo, ints_of_back ed]
  rfl
def chk2 (n : Nat) (tab : List (List Nat × List Int)) (fs : List Nat) : Bool :=
  let gss := ren fs (ringG n)
  validB gss (manyOf (plG gss)) (SG gss) (GG gss) (tabG gss) && manyOf (plG gss) == n && toldB (plG gss) (CG gss) n && distB (GG gss) n && nonB (f_moments [talkG gss]) && (match findRow (nxOf (stepN (plG gss) (CG gss)) n) tab with
    | some cs => cs.length == n && isortI cs == rangeI n && allB (indV n) (cs.map .int) && (ddI cs).length == n && (match zipC (.tup (cs.map .int)) with
      | some zs => allB (stepV (plG gss) (CG gss) n) zs
      | none => false)
    | none => false)
theorem chk2_ok {n : Nat} (hn : n = 3 ∨ n = 4 ∨ n = 5 ∨ n = 6) {tab : List (List Nat × List Int)} (ok : ∀ gss S G Ck, tabB (talkV gss n S G Ck) tab = true) {fs : List Nat} (k : chk2 n tab fs = true) : ∃ t, lw_tk (eK (tLstV (ren fs (ringG n)))) = some t ∧ lw_tc (eR t (.int (n : Int))) = some false ∧ lw_td (eR t (.int (n : Int))) = some false := by
  unfold chk2 at k
  simp only [Bool.and_eq_true] at k
  obtain ⟨⟨⟨⟨⟨k1, k2⟩, k3⟩, k4⟩, k5⟩, k6⟩ := k
  generalize ren fs (ringG n) = gss at k1 k2 k3 k4 k5 k6 ⊢
  have em : manyOf (plG gss) = n := beq_iff_eq.mp k2
  split at k6
  case h_2 => cases k6
  rename_i cs ec
  simp only [Bool.and_eq_true] at k6
  obtain ⟨⟨⟨⟨c1, c2⟩, c3⟩, c4⟩, c5⟩ := k6
  split at c5
  case h_2 => cases c5
  rename_i zs ez
  have told : Told (plAll 0 gss) (CG gss) n := fun a b ha hb => bothB_ok (bothB_ok k3 a ha) b hb
  have m12 : n ≤ 12 := by omega
  have et : talkG gss = talkV gss n (SG gss) (GG gss) (CG gss) := by
    unfold talkG
    rw [em]
  have fc : f_crown [talkG gss] = some (.tup (cs.map .int)) := by
    rw [et, f_crown_eq told m12]
    exact crown_tab (ok _ _ _ _) ec
  have fm : f_moments [talkG gss] = some .non := by
    unfold nonB at k5
    split at k5
    · assumption
    · cases k5
  have fb : f_breaks [talkG gss] = some (.lst []) := by
    rw [et]
    refine breaks_no told m12 fun i j hi hj => ?_
    have z := allB_mem (allB_mem k4 i (upto_mem hi)) j (upto_mem hj)
    rw [Bool.or_eq_true] at z
    rcases z with z | z
    · exact .inl (beq_iff_eq.mp z)
    · exact .inr fun e => by rw [e, beq_self_eq_true] at z; cases z
  have l1 : cs.length = n := beq_iff_eq.mp c1
  have fp : f_is_paper [talkG gss, .tup [.str "crown", .tup (cs.map .int)]] = some (.bl true) := by
    refine paper_yes ?_
    rw [et]
    exact crown_yes told (by omega) (by omega) m12 (fun x hx => allB_mem c3 x hx) (by rw [l1]; exact beq_iff_eq.mp c4) ez fun z hz => allB_mem c5 z hz
  obtain ⟨t1, t2⟩ := ring_tests hn ⟨fc, kind_causal fm fb, fp, l1, beq_iff_eq.mp c2⟩
  refine ⟨talkG gss, ?_, t1, t2⟩
  show f_Talk [tLstV gss] = _
  rw [talk_rows]
  show (if validB gss (manyOf (plG gss)) (SG gss) (GG gss) (tabG gss) = true then some (talkG gss) else none) = _
  rw [if_pos k1]
def doB (n : Nat) (tab : List (List Nat × List Int)) (l : List (List Nat)) : Bool := allB (chk2 n tab) l
end Up

namespace Up
open PySem PySem.Spec PyProof.Rows L2
/-! ### all rings of six, in eight parts -/
theorem allB_split {α : Type} {f : α → Bool} {l : List α} (k : Nat) (h1 : allB f (l.take k) = true) (h2 : allB f (l.drop k) = true) : allB f l = true := by
  have e : ∀ a b : List α, allB f a = true → allB f b = true → allB f (a ++ b) = true := by
    intro a b ha hb
    induction a with
    | nil => exact hb
    | cons x a ih =>
      unfold allB at ha
      rw [Bool.and_eq_true] at ha
      show (f x && allB f (a ++ b)) = true
      rw [ha.1, ih ha.2]
      rfl
  have := e _ _ h1 h2
  rwa [List.take_append_drop] at this
def q0 : List (List Nat) := allP (List.range 6)
def q1 : List (List Nat) := q0.drop 90
def q2 : List (List Nat) := q1.drop 90
def q3 : List (List Nat) := q2.drop 90
def q4 : List (List Nat) := q3.drop 90
def q5 : List (List Nat) := q4.drop 90
def q6 : List (List Nat) := q5.drop 90
def q7 : List (List Nat) := q6.drop 90
theorem r3 : doB 3 tab3 (allP (List.range 3)) = true := by decide +kernel
theorem r4 : doB 4 tab4 (allP (List.range 4)) = true := by decide +kernel
theorem r5 : doB 5 tab5 (allP (List.range 5)) = true := by decide +kernel
end Up

namespace Up
open PySem PySem.Spec PyProof.Rows L2
theorem w0 : doB 6 tab6 (q0.take 90) = true := by decide +kernel
end Up

namespace Up
open PySem PySem.Spec PyProof.Rows L2
theorem w1 : doB 6 tab6 (q1.take 90) = true := by decide +kernel
end Up

namespace Up
open PySem PySem.Spec PyProof.Rows L2
theorem w2 : doB 6 tab6 (q2.take 90) = true := by decide +kernel
end Up

namespace Up
open PySem PySem.Spec PyProof.Rows L2
theorem w3 : doB 6 tab6 (q3.take 90) = true := by decide +kernel
end Up

namespace Up
open PySem PySem.Spec PyProof.Rows L2
theorem w4 : doB 6 tab6 (q4.take 90) = true := by decide +kernel
end Up

namespace Up
open PySem PySem.Spec PyProof.Rows L2
theorem w5 : doB 6 tab6 (q5.take 90) = true := by decide +kernel
end Up

namespace Up
open PySem PySem.Spec PyProof.Rows L2
theorem w6 : doB 6 tab6 (q6.take 90) = true := by decide +kernel
end Up

namespace Up
open PySem PySem.Spec PyProof.Rows L2
theorem w7 : doB 6 tab6 (q7) = true := by decide +kernel
end Up

namespace Up
open PySem PySem.Spec PyProof.Rows L2
theorem r6 : doB 6 tab6 (allP (List.range 6)) = true := allB_split 90 w0 (allB_split (l := q1) 90 w1 (allB_split (l := q2) 90 w2 (allB_split (l := q3) 90 w3 (allB_split (l := q4) 90 w4 (allB_split (l := q5) 90 w5 (allB_split (l := q6) 90 w6 w7))))))
theorem ring_all {n : Nat} (hn : n = 3 ∨ n = 4 ∨ n = 5 ∨ n = 6) {tab : List (List Nat × List Int)} (ok : ∀ gss S G Ck, tabB (talkV gss n S G Ck) tab = true) (h : doB n tab (allP (List.range n)) = true) : ∀ fs : List Nat, fs.Perm (List.range n) → ∃ t, lw_tk (eK (tLstV (ren fs (ringG n)))) = some t ∧ lw_tc (eR t (.int (n : Int))) = some false ∧ lw_td (eR t (.int (n : Int))) = some false :=
  fun fs pm => chk2_ok hn ok (allB_mem h fs (allP_mem pm))
theorem U2 : ∀ n, 3 ≤ n → n ≤ 6 → Turn2 n := by
  intro n h3 h6
  have c : n = 3 ∨ n = 4 ∨ n = 5 ∨ n = 6 := by omega
  rcases c with rfl | rfl | rfl | rfl
  · exact ⟨by decide, by rfl, by rfl, by decide, by decide, by decide, ring_all (by omega) tab3_ok r3⟩
  · exact ⟨by decide, by rfl, by rfl, by decide, by decide, by decide, ring_all (by omega) tab4_ok r4⟩
  · exact ⟨by decide, by rfl, by rfl, by decide, by decide, by decide, ring_all (by omega) tab5_ok r5⟩
  · exact ⟨by decide, by rfl, by rfl, by decide, by decide, by decide, ring_all (by omega) tab6_ok r6⟩
end Up

namespace Up
open PySem PySem.Spec PyProof.Rows L2
theorem kit_sub {K : PySem.W.Frag} {t : Value} {C : Addr} {b : Bool} (h1 : PySem.W.subIn K (.ref C) (.ref C) = some true) (h2 : PySem.W.isClsIn K C = true) (h3 : PySem.W.typeIn K (.ref C) = some (.type "type")) (h4 : PySem.W.subIn K t (.ref C) = some b) : PySem.W.kitOne K t (.ref C) = some b := by
  have h2' : (PySem.W.clsIn K C).isSome = true := h2
  by_cases c : (t == Value.ref C) = true
  · have e : t = Value.ref C := eq_of_beq c
    subst e
    rw [h1] at h4
    cases h4
    unfold PySem.W.kitOne
    rw [if_pos c]
  · unfold PySem.W.kitOne PySem.W.kitCls
    rw [if_neg c]
    show (if ((PySem.W.clsIn K C).isSome && PySem.W.typeIn K (.ref C) == some (.type "type")) = true then PySem.W.subIn K t (.ref C) else none) = some b
    rw [h2', h3, if_pos (by rfl)]
    exact h4
theorem all_mk {P : Program} {w : World} {K : PySem.W.Frag} {h : Heap} {mg : Str → Option Value} {fa : Addr} (X : K.In h) (G : h.Ns mainGlobals mg) (hfa : mg "law" = some (.ref fa))
    {tH tL : Tok}
    {f_is_whole : Addr}
    {od_is_whole an_is_whole : Option Addr}
    {sl_is_whole : Array (Option Value)}
    {oc_is_whole kV_is_whole dc_is_whole pm_is_whole cd_is_whole ct_is_whole : Value}
    {f_is_index : Addr}
    {od_is_index an_is_index : Option Addr}
    {sl_is_index : Array (Option Value)}
    {oc_is_index kV_is_index dc_is_index pm_is_index cd_is_index ct_is_index : Value}
    {f_is_listing : Addr}
    {od_is_listing an_is_listing : Option Addr}
    {sl_is_listing : Array (Option Value)}
    {oc_is_listing kV_is_listing dc_is_listing pm_is_listing cd_is_listing ct_is_listing : Value}
    {f_is_couple : Addr}
    {od_is_couple an_is_couple : Option Addr}
    {sl_is_couple : Array (Option Value)}
    {oc_is_couple kV_is_couple dc_is_couple pm_is_couple cd_is_couple ct_is_couple : Value}
    {f_is_doing : Addr}
    {od_is_doing an_is_doing : Option Addr}
    {sl_is_doing : Array (Option Value)}
    {oc_is_doing kV_is_doing dc_is_doing pm_is_doing cd_is_doing ct_is_doing : Value}
    {f_copied_rows : Addr}
    {od_copied_rows an_copied_rows : Option Addr}
    {sl_copied_rows : Array (Option Value)}
    {oc_copied_rows kV_copied_rows dc_copied_rows pm_copied_rows cd_copied_rows ct_copied_rows : Value}
    {f_found_places : Addr}
    {od_found_places an_found_places : Option Addr}
    {sl_found_places : Array (Option Value)}
    {oc_found_places kV_found_places dc_found_places pm_found_places cd_found_places ct_found_places : Value}
    {f_count_letters : Addr}
    {od_count_letters an_count_letters : Option Addr}
    {sl_count_letters : Array (Option Value)}
    {oc_count_letters kV_count_letters dc_count_letters pm_count_letters cd_count_letters ct_count_letters : Value}
    {f_check_letters : Addr}
    {od_check_letters an_check_letters : Option Addr}
    {sl_check_letters : Array (Option Value)}
    {oc_check_letters kV_check_letters dc_check_letters pm_check_letters cd_check_letters ct_check_letters : Value}
    {f_found_hands : Addr}
    {od_found_hands an_found_hands : Option Addr}
    {sl_found_hands : Array (Option Value)}
    {oc_found_hands kV_found_hands dc_found_hands pm_found_hands cd_found_hands ct_found_hands : Value}
    {f_found_clocks : Addr}
    {od_found_clocks an_found_clocks : Option Addr}
    {sl_found_clocks : Array (Option Value)}
    {oc_found_clocks kV_found_clocks dc_found_clocks pm_found_clocks cd_found_clocks ct_found_clocks : Value}
    {f_row_clocks : Addr}
    {od_row_clocks an_row_clocks : Option Addr}
    {sl_row_clocks : Array (Option Value)}
    {oc_row_clocks kV_row_clocks dc_row_clocks pm_row_clocks cd_row_clocks ct_row_clocks : Value}
    {f_law_mixed : Addr}
    {od_law_mixed an_law_mixed : Option Addr}
    {sl_law_mixed : Array (Option Value)}
    {oc_law_mixed kV_law_mixed dc_law_mixed pm_law_mixed cd_law_mixed ct_law_mixed : Value}
    {f_law_folded : Addr}
    {od_law_folded an_law_folded : Option Addr}
    {sl_law_folded : Array (Option Value)}
    {oc_law_folded kV_law_folded dc_law_folded pm_law_folded cd_law_folded ct_law_folded : Value}
    {f_law_draw : Addr}
    {od_law_draw an_law_draw : Option Addr}
    {sl_law_draw : Array (Option Value)}
    {oc_law_draw kV_law_draw dc_law_draw pm_law_draw cd_law_draw ct_law_draw : Value}
    {f_law_begun : Addr}
    {od_law_begun an_law_begun : Option Addr}
    {sl_law_begun : Array (Option Value)}
    {oc_law_begun kV_law_begun dc_law_begun pm_law_begun cd_law_begun ct_law_begun : Value}
    {CT fTI fTE : Addr}
    {odTI anTI : Option Addr}
    {slTI : Array (Option Value)}
    {ocTI kVTI dcTI pmTI cdTI ctTI : Value}
    {odTE anTE : Option Addr}
    {slTE : Array (Option Value)}
    {ocTE kVTE dcTE pmTE cdTE ctTE : Value}
    {f_check_doing : Addr}
    {od_check_doing an_check_doing : Option Addr}
    {sl_check_doing : Array (Option Value)}
    {oc_check_doing kV_check_doing dc_check_doing pm_check_doing cd_check_doing ct_check_doing : Value}
    {f_is_ahead : Addr}
    {od_is_ahead an_is_ahead : Option Addr}
    {sl_is_ahead : Array (Option Value)}
    {oc_is_ahead kV_is_ahead dc_is_ahead pm_is_ahead cd_is_ahead ct_is_ahead : Value}
    {f_clock : Addr}
    {od_clock an_clock : Option Addr}
    {sl_clock : Array (Option Value)}
    {oc_clock kV_clock dc_clock pm_clock cd_clock ct_clock : Value}
    {f_row_steps : Addr}
    {od_row_steps an_row_steps : Option Addr}
    {sl_row_steps : Array (Option Value)}
    {oc_row_steps kV_row_steps dc_row_steps pm_row_steps cd_row_steps ct_row_steps : Value}
    {f_risen_moments : Addr}
    {od_risen_moments an_risen_moments : Option Addr}
    {sl_risen_moments : Array (Option Value)}
    {oc_risen_moments kV_risen_moments dc_risen_moments pm_risen_moments cd_risen_moments ct_risen_moments : Value}
    {f_moments : Addr}
    {od_moments an_moments : Option Addr}
    {sl_moments : Array (Option Value)}
    {oc_moments kV_moments dc_moments pm_moments cd_moments ct_moments : Value}
    {f_is_upright : Addr}
    {od_is_upright an_is_upright : Option Addr}
    {sl_is_upright : Array (Option Value)}
    {oc_is_upright kV_is_upright dc_is_upright pm_is_upright cd_is_upright ct_is_upright : Value}
    {f_is_crown_step : Addr}
    {od_is_crown_step an_is_crown_step : Option Addr}
    {sl_is_crown_step : Array (Option Value)}
    {oc_is_crown_step kV_is_crown_step dc_is_crown_step pm_is_crown_step cd_is_crown_step ct_is_crown_step : Value}
    {f_crown_nexts : Addr}
    {od_crown_nexts an_crown_nexts : Option Addr}
    {sl_crown_nexts : Array (Option Value)}
    {oc_crown_nexts kV_crown_nexts dc_crown_nexts pm_crown_nexts cd_crown_nexts ct_crown_nexts : Value}
    {f_is_break : Addr}
    {od_is_break an_is_break : Option Addr}
    {sl_is_break : Array (Option Value)}
    {oc_is_break kV_is_break dc_is_break pm_is_break cd_is_break ct_is_break : Value}
    {f_breaks : Addr}
    {od_breaks an_breaks : Option Addr}
    {sl_breaks : Array (Option Value)}
    {oc_breaks kV_breaks dc_breaks pm_breaks cd_breaks ct_breaks : Value}
    {f_first_of : Addr}
    {od_first_of an_first_of : Option Addr}
    {sl_first_of : Array (Option Value)}
    {oc_first_of kV_first_of dc_first_of pm_first_of cd_first_of ct_first_of : Value}
    {f_causal_break : Addr}
    {od_causal_break an_causal_break : Option Addr}
    {sl_causal_break : Array (Option Value)}
    {oc_causal_break kV_causal_break dc_causal_break pm_causal_break cd_causal_break ct_causal_break : Value}
    {f_single_break : Addr}
    {od_single_break an_single_break : Option Addr}
    {sl_single_break : Array (Option Value)}
    {oc_single_break kV_single_break dc_single_break pm_single_break cd_single_break ct_single_break : Value}
    {f_is_causal : Addr}
    {od_is_causal an_is_causal : Option Addr}
    {sl_is_causal : Array (Option Value)}
    {oc_is_causal kV_is_causal dc_is_causal pm_is_causal cd_is_causal ct_is_causal : Value}
    {f_is_single : Addr}
    {od_is_single an_is_single : Option Addr}
    {sl_is_single : Array (Option Value)}
    {oc_is_single kV_is_single dc_is_single pm_is_single cd_is_single ct_is_single : Value}
    {f_kind : Addr}
    {od_kind an_kind : Option Addr}
    {sl_kind : Array (Option Value)}
    {oc_kind kV_kind dc_kind pm_kind cd_kind ct_kind : Value}
    {f_ring_from : Addr}
    {od_ring_from an_ring_from : Option Addr}
    {sl_ring_from : Array (Option Value)}
    {oc_ring_from kV_ring_from dc_ring_from pm_ring_from cd_ring_from ct_ring_from : Value}
    {f_crown : Addr}
    {od_crown an_crown : Option Addr}
    {sl_crown : Array (Option Value)}
    {oc_crown kV_crown dc_crown pm_crown cd_crown ct_crown : Value}
    {f_paper : Addr}
    {od_paper an_paper : Option Addr}
    {sl_paper : Array (Option Value)}
    {oc_paper kV_paper dc_paper pm_paper cd_paper ct_paper : Value}
    {f_are_moments : Addr}
    {od_are_moments an_are_moments : Option Addr}
    {sl_are_moments : Array (Option Value)}
    {oc_are_moments kV_are_moments dc_are_moments pm_are_moments cd_are_moments ct_are_moments : Value}
    {f_is_hand_pair : Addr}
    {od_is_hand_pair an_is_hand_pair : Option Addr}
    {sl_is_hand_pair : Array (Option Value)}
    {oc_is_hand_pair kV_is_hand_pair dc_is_hand_pair pm_is_hand_pair cd_is_hand_pair ct_is_hand_pair : Value}
    {f_is_crown : Addr}
    {od_is_crown an_is_crown : Option Addr}
    {sl_is_crown : Array (Option Value)}
    {oc_is_crown kV_is_crown dc_is_crown pm_is_crown cd_is_crown ct_is_crown : Value}
    {f_is_paper : Addr}
    {od_is_paper an_is_paper : Option Addr}
    {sl_is_paper : Array (Option Value)}
    {oc_is_paper kV_is_paper dc_is_paper pm_is_paper cd_is_paper ct_is_paper : Value}
    {f_law_doings : Addr}
    {od_law_doings an_law_doings : Option Addr}
    {sl_law_doings : Array (Option Value)}
    {oc_law_doings kV_law_doings dc_law_doings pm_law_doings cd_law_doings ct_law_doings : Value}
    {f_law_many : Addr}
    {od_law_many an_law_many : Option Addr}
    {sl_law_many : Array (Option Value)}
    {oc_law_many kV_law_many dc_law_many pm_law_many cd_law_many ct_law_many : Value}
    {f_law_ring : Addr}
    {od_law_ring an_law_ring : Option Addr}
    {sl_law_ring : Array (Option Value)}
    {oc_law_ring kV_law_ring dc_law_ring pm_law_ring cd_law_ring ct_law_ring : Value}
    {f_drawn : Addr}
    {od_drawn an_drawn : Option Addr}
    {sl_drawn : Array (Option Value)}
    {oc_drawn kV_drawn dc_drawn pm_drawn cd_drawn ct_drawn : Value}
    {f_law_order : Addr}
    {od_law_order an_law_order : Option Addr}
    {sl_law_order : Array (Option Value)}
    {oc_law_order kV_law_order dc_law_order pm_law_order cd_law_order ct_law_order : Value}
    {f_law_named : Addr}
    {od_law_named an_law_named : Option Addr}
    {sl_law_named : Array (Option Value)}
    {oc_law_named kV_law_named dc_law_named pm_law_named cd_law_named ct_law_named : Value}
    {f_law : Addr}
    {od_law an_law : Option Addr}
    {sl_law : Array (Option Value)}
    {oc_law kV_law dc_law pm_law cd_law ct_law : Value}
    (z_int : PySem.W.nsIn K mainGlobals "int" = some none)
    (z_len : PySem.W.nsIn K mainGlobals "len" = some none)
    (z_range : PySem.W.nsIn K mainGlobals "range" = some none)
    (z_enumerate : PySem.W.nsIn K mainGlobals "enumerate" = some none)
    (z_isinstance : PySem.W.nsIn K mainGlobals "isinstance" = some none)
    (z_bool : PySem.W.nsIn K mainGlobals "bool" = some none)
    (z_str : PySem.W.nsIn K mainGlobals "str" = some none)
    (z_list : PySem.W.nsIn K mainGlobals "list" = some none)
    (z_tuple : PySem.W.nsIn K mainGlobals "tuple" = some none)
    (z_max : PySem.W.nsIn K mainGlobals "max" = some none)
    (z_zip : PySem.W.nsIn K mainGlobals "zip" = some none)
    (z_min : PySem.W.nsIn K mainGlobals "min" = some none)
    (z_set : PySem.W.nsIn K mainGlobals "set" = some none)
    (z_sorted : PySem.W.nsIn K mainGlobals "sorted" = some none)
    (z_sum : PySem.W.nsIn K mainGlobals "sum" = some none)
    (mH : PySem.W.nsIn K mainGlobals "MOST_HANDS" = some (some (.int 6 tH)))
    (mL : PySem.W.nsIn K mainGlobals "MOST_LETTERS" = some (some (.int 12 tL)))
    (a_is_whole : PySem.W.nsIn K mainGlobals "is_whole" = some (some (.ref f_is_whole)))
    (l_is_whole : K.lookup f_is_whole = some ⟨oc_is_whole, od_is_whole, .func (PySem.W.fnOf "is_whole" "is_whole" (defArgs s_is_whole) (defBody s_is_whole) (defScope s_is_whole) .none kV_is_whole dc_is_whole pm_is_whole an_is_whole cd_is_whole ct_is_whole), sl_is_whole⟩)
    (c_is_whole : PySem.W.codeIn K cd_is_whole "is_whole" = true)
    (k_is_whole : PySem.W.keepIn K (.ref f_is_whole) = true)
    (a_is_index : PySem.W.nsIn K mainGlobals "is_index" = some (some (.ref f_is_index)))
    (l_is_index : K.lookup f_is_index = some ⟨oc_is_index, od_is_index, .func (PySem.W.fnOf "is_index" "is_index" (defArgs s_is_index) (defBody s_is_index) (defScope s_is_index) .none kV_is_index dc_is_index pm_is_index an_is_index cd_is_index ct_is_index), sl_is_index⟩)
    (c_is_index : PySem.W.codeIn K cd_is_index "is_index" = true)
    (k_is_index : PySem.W.keepIn K (.ref f_is_index) = true)
    (a_is_listing : PySem.W.nsIn K mainGlobals "is_listing" = some (some (.ref f_is_listing)))
    (l_is_listing : K.lookup f_is_listing = some ⟨oc_is_listing, od_is_listing, .func (PySem.W.fnOf "is_listing" "is_listing" (defArgs s_is_listing) (defBody s_is_listing) (defScope s_is_listing) .none kV_is_listing dc_is_listing pm_is_listing an_is_listing cd_is_listing ct_is_listing), sl_is_listing⟩)
    (c_is_listing : PySem.W.codeIn K cd_is_listing "is_listing" = true)
    (k_is_listing : PySem.W.keepIn K (.ref f_is_listing) = true)
    (a_is_couple : PySem.W.nsIn K mainGlobals "is_couple" = some (some (.ref f_is_couple)))
    (l_is_couple : K.lookup f_is_couple = some ⟨oc_is_couple, od_is_couple, .func (PySem.W.fnOf "is_couple" "is_couple" (defArgs s_is_couple) (defBody s_is_couple) (defScope s_is_couple) .none kV_is_couple dc_is_couple pm_is_couple an_is_couple cd_is_couple ct_is_couple), sl_is_couple⟩)
    (c_is_couple : PySem.W.codeIn K cd_is_couple "is_couple" = true)
    (k_is_couple : PySem.W.keepIn K (.ref f_is_couple) = true)
    (a_is_doing : PySem.W.nsIn K mainGlobals "is_doing" = some (some (.ref f_is_doing)))
    (l_is_doing : K.lookup f_is_doing = some ⟨oc_is_doing, od_is_doing, .func (PySem.W.fnOf "is_doing" "is_doing" (defArgs s_is_doing) (defBody s_is_doing) (defScope s_is_doing) .none kV_is_doing dc_is_doing pm_is_doing an_is_doing cd_is_doing ct_is_doing), sl_is_doing⟩)
    (c_is_doing : PySem.W.codeIn K cd_is_doing "is_doing" = true)
    (k_is_doing : PySem.W.keepIn K (.ref f_is_doing) = true)
    (a_copied_rows : PySem.W.nsIn K mainGlobals "copied_rows" = some (some (.ref f_copied_rows)))
    (l_copied_rows : K.lookup f_copied_rows = some ⟨oc_copied_rows, od_copied_rows, .func (PySem.W.fnOf "copied_rows" "copied_rows" (defArgs s_copied_rows) (defBody s_copied_rows) (defScope s_copied_rows) .none kV_copied_rows dc_copied_rows pm_copied_rows an_copied_rows cd_copied_rows ct_copied_rows), sl_copied_rows⟩)
    (c_copied_rows : PySem.W.codeIn K cd_copied_rows "copied_rows" = true)
    (k_copied_rows : PySem.W.keepIn K (.ref f_copied_rows) = true)
    (a_found_places : PySem.W.nsIn K mainGlobals "found_places" = some (some (.ref f_found_places)))
    (l_found_places : K.lookup f_found_places = some ⟨oc_found_places, od_found_places, .func (PySem.W.fnOf "found_places" "found_places" (defArgs s_found_places) (defBody s_found_places) (defScope s_found_places) .none kV_found_places dc_found_places pm_found_places an_found_places cd_found_places ct_found_places), sl_found_places⟩)
    (c_found_places : PySem.W.codeIn K cd_found_places "found_places" = true)
    (k_found_places : PySem.W.keepIn K (.ref f_found_places) = true)
    (a_count_letters : PySem.W.nsIn K mainGlobals "count_letters" = some (some (.ref f_count_letters)))
    (l_count_letters : K.lookup f_count_letters = some ⟨oc_count_letters, od_count_letters, .func (PySem.W.fnOf "count_letters" "count_letters" (defArgs s_count_letters) (defBody s_count_letters) (defScope s_count_letters) .none kV_count_letters dc_count_letters pm_count_letters an_count_letters cd_count_letters ct_count_letters), sl_count_letters⟩)
    (c_count_letters : PySem.W.codeIn K cd_count_letters "count_letters" = true)
    (k_count_letters : PySem.W.keepIn K (.ref f_count_letters) = true)
    (a_check_letters : PySem.W.nsIn K mainGlobals "check_letters" = some (some (.ref f_check_letters)))
    (l_check_letters : K.lookup f_check_letters = some ⟨oc_check_letters, od_check_letters, .func (PySem.W.fnOf "check_letters" "check_letters" (defArgs s_check_letters) (defBody s_check_letters) (defScope s_check_letters) .none kV_check_letters dc_check_letters pm_check_letters an_check_letters cd_check_letters ct_check_letters), sl_check_letters⟩)
    (c_check_letters : PySem.W.codeIn K cd_check_letters "check_letters" = true)
    (k_check_letters : PySem.W.keepIn K (.ref f_check_letters) = true)
    (a_found_hands : PySem.W.nsIn K mainGlobals "found_hands" = some (some (.ref f_found_hands)))
    (l_found_hands : K.lookup f_found_hands = some ⟨oc_found_hands, od_found_hands, .func (PySem.W.fnOf "found_hands" "found_hands" (defArgs s_found_hands) (defBody s_found_hands) (defScope s_found_hands) .none kV_found_hands dc_found_hands pm_found_hands an_found_hands cd_found_hands ct_found_hands), sl_found_hands⟩)
    (c_found_hands : PySem.W.codeIn K cd_found_hands "found_hands" = true)
    (k_found_hands : PySem.W.keepIn K (.ref f_found_hands) = true)
    (a_found_clocks : PySem.W.nsIn K mainGlobals "found_clocks" = some (some (.ref f_found_clocks)))
    (l_found_clocks : K.lookup f_found_clocks = some ⟨oc_found_clocks, od_found_clocks, .func (PySem.W.fnOf "found_clocks" "found_clocks" (defArgs s_found_clocks) (defBody s_found_clocks) (defScope s_found_clocks) .none kV_found_clocks dc_found_clocks pm_found_clocks an_found_clocks cd_found_clocks ct_found_clocks), sl_found_clocks⟩)
    (c_found_clocks : PySem.W.codeIn K cd_found_clocks "found_clocks" = true)
    (k_found_clocks : PySem.W.keepIn K (.ref f_found_clocks) = true)
    (a_row_clocks : PySem.W.nsIn K mainGlobals "row_clocks" = some (some (.ref f_row_clocks)))
    (l_row_clocks : K.lookup f_row_clocks = some ⟨oc_row_clocks, od_row_clocks, .func (PySem.W.fnOf "row_clocks" "row_clocks" (defArgs s_row_clocks) (defBody s_row_clocks) (defScope s_row_clocks) .none kV_row_clocks dc_row_clocks pm_row_clocks an_row_clocks cd_row_clocks ct_row_clocks), sl_row_clocks⟩)
    (c_row_clocks : PySem.W.codeIn K cd_row_clocks "row_clocks" = true)
    (k_row_clocks : PySem.W.keepIn K (.ref f_row_clocks) = true)
    (a_law_mixed : PySem.W.nsIn K mainGlobals "_law_mixed" = some (some (.ref f_law_mixed)))
    (l_law_mixed : K.lookup f_law_mixed = some ⟨oc_law_mixed, od_law_mixed, .func (PySem.W.fnOf "_law_mixed" "_law_mixed" (defArgs sMix) (defBody sMix) (defScope sMix) .none kV_law_mixed dc_law_mixed pm_law_mixed an_law_mixed cd_law_mixed ct_law_mixed), sl_law_mixed⟩)
    (c_law_mixed : PySem.W.codeIn K cd_law_mixed "_law_mixed" = true)
    (k_law_mixed : PySem.W.keepIn K (.ref f_law_mixed) = true)
    (a_law_folded : PySem.W.nsIn K mainGlobals "_law_folded" = some (some (.ref f_law_folded)))
    (l_law_folded : K.lookup f_law_folded = some ⟨oc_law_folded, od_law_folded, .func (PySem.W.fnOf "_law_folded" "_law_folded" (defArgs sFol) (defBody sFol) (defScope sFol) .none kV_law_folded dc_law_folded pm_law_folded an_law_folded cd_law_folded ct_law_folded), sl_law_folded⟩)
    (c_law_folded : PySem.W.codeIn K cd_law_folded "_law_folded" = true)
    (k_law_folded : PySem.W.keepIn K (.ref f_law_folded) = true)
    (a_law_draw : PySem.W.nsIn K mainGlobals "_law_draw" = some (some (.ref f_law_draw)))
    (l_law_draw : K.lookup f_law_draw = some ⟨oc_law_draw, od_law_draw, .func (PySem.W.fnOf "_law_draw" "_law_draw" (defArgs sDrw) (defBody sDrw) (defScope sDrw) .none kV_law_draw dc_law_draw pm_law_draw an_law_draw cd_law_draw ct_law_draw), sl_law_draw⟩)
    (c_law_draw : PySem.W.codeIn K cd_law_draw "_law_draw" = true)
    (k_law_draw : PySem.W.keepIn K (.ref f_law_draw) = true)
    (a_law_begun : PySem.W.nsIn K mainGlobals "_law_begun" = some (some (.ref f_law_begun)))
    (l_law_begun : K.lookup f_law_begun = some ⟨oc_law_begun, od_law_begun, .func (PySem.W.fnOf "_law_begun" "_law_begun" (defArgs sBeg) (defBody sBeg) (defScope sBeg) .none kV_law_begun dc_law_begun pm_law_begun an_law_begun cd_law_begun ct_law_begun), sl_law_begun⟩)
    (c_law_begun : PySem.W.codeIn K cd_law_begun "_law_begun" = true)
    (k_law_begun : PySem.W.keepIn K (.ref f_law_begun) = true)
    (cn : PySem.W.specialIn K (.builtin "object.__class__") "__get__" = some (some (.builtin "getset_descriptor.__get__")))
    (ct : PySem.W.takesIn K (.builtin "object.__class__") = some true)
    (aT : PySem.W.nsIn K mainGlobals "Talk" = some (some (.ref CT)))
    (pgT : PySem.W.plainGet K CT Str.empty = true)
    (hdT : PySem.W.hasDictIn K CT = true)
    (poT : PySem.W.plainOver K CT = true)
    (saT : PySem.W.findIn K (.ref CT) "__setattr__" = some (some (.builtin "object.__setattr__")))
    (msT : PySem.W.makesIn K CT = true)
    (kcT : PySem.W.keepIn K (.ref CT) = true)
    (caT : PySem.W.findIn K (.ref CT) "__class__" = some (some (.builtin "object.__class__")))
    (cmT : PySem.W.mroIn K CT (.type "object") = some true)
    (neT : PySem.W.findIn K (.ref CT) "__ne__" = some (some (.builtin "object.__ne__")))
    (icT : PySem.W.isClsIn K CT = true)
    (tyT : PySem.W.typeIn K (.ref CT) = some (.type "type"))
    (sfT : PySem.W.subIn K (.ref CT) (.ref CT) = some true)
    (a1T : PySem.W.findIn K (.ref CT) "__init__" = some (some (.ref fTI)))
    (i1T : PySem.W.isFn K (.ref fTI) = true)
    (a2T : PySem.W.findIn K (.ref CT) "__eq__" = some (some (.ref fTE)))
    (i2T : PySem.W.isFn K (.ref fTE) = true)
    (n_rows : PySem.W.findIn K (.ref CT) "rows" = some none)
    (n_places : PySem.W.findIn K (.ref CT) "places" = some none)
    (n_many : PySem.W.findIn K (.ref CT) "many" = some none)
    (n_senders : PySem.W.findIn K (.ref CT) "senders" = some none)
    (n_getters : PySem.W.findIn K (.ref CT) "getters" = some none)
    (n_clocks : PySem.W.findIn K (.ref CT) "clocks" = some none)
    (lTI : K.lookup fTI = some ⟨ocTI, odTI, .func (PySem.W.fnOf "__init__" "Talk.__init__" (defArgs s_tinit) (defBody s_tinit) (defScope s_tinit) .none kVTI dcTI pmTI anTI cdTI ctTI), slTI⟩)
    (cTI : PySem.W.codeIn K cdTI "Talk.__init__" = true)
    (kTI : PySem.W.keepIn K (.ref fTI) = true)
    (lTE : K.lookup fTE = some ⟨ocTE, odTE, .func (PySem.W.fnOf "__eq__" "Talk.__eq__" (defArgs s_teq) (defBody s_teq) (defScope s_teq) .none kVTE dcTE pmTE anTE cdTE ctTE), slTE⟩)
    (cTE : PySem.W.codeIn K cdTE "Talk.__eq__" = true)
    (kTE : PySem.W.keepIn K (.ref fTE) = true)
    (a_check_doing : PySem.W.nsIn K mainGlobals "check_doing" = some (some (.ref f_check_doing)))
    (l_check_doing : K.lookup f_check_doing = some ⟨oc_check_doing, od_check_doing, .func (PySem.W.fnOf "check_doing" "check_doing" (defArgs st_check_doing) (defBody st_check_doing) (defScope st_check_doing) .none kV_check_doing dc_check_doing pm_check_doing an_check_doing cd_check_doing ct_check_doing), sl_check_doing⟩)
    (c_check_doing : PySem.W.codeIn K cd_check_doing "check_doing" = true)
    (k_check_doing : PySem.W.keepIn K (.ref f_check_doing) = true)
    (a_is_ahead : PySem.W.nsIn K mainGlobals "is_ahead" = some (some (.ref f_is_ahead)))
    (l_is_ahead : K.lookup f_is_ahead = some ⟨oc_is_ahead, od_is_ahead, .func (PySem.W.fnOf "is_ahead" "is_ahead" (defArgs st_is_ahead) (defBody st_is_ahead) (defScope st_is_ahead) .none kV_is_ahead dc_is_ahead pm_is_ahead an_is_ahead cd_is_ahead ct_is_ahead), sl_is_ahead⟩)
    (c_is_ahead : PySem.W.codeIn K cd_is_ahead "is_ahead" = true)
    (k_is_ahead : PySem.W.keepIn K (.ref f_is_ahead) = true)
    (a_clock : PySem.W.nsIn K mainGlobals "clock" = some (some (.ref f_clock)))
    (l_clock : K.lookup f_clock = some ⟨oc_clock, od_clock, .func (PySem.W.fnOf "clock" "clock" (defArgs st_clock) (defBody st_clock) (defScope st_clock) .none kV_clock dc_clock pm_clock an_clock cd_clock ct_clock), sl_clock⟩)
    (c_clock : PySem.W.codeIn K cd_clock "clock" = true)
    (k_clock : PySem.W.keepIn K (.ref f_clock) = true)
    (a_row_steps : PySem.W.nsIn K mainGlobals "row_steps" = some (some (.ref f_row_steps)))
    (l_row_steps : K.lookup f_row_steps = some ⟨oc_row_steps, od_row_steps, .func (PySem.W.fnOf "row_steps" "row_steps" (defArgs st_row_steps) (defBody st_row_steps) (defScope st_row_steps) .none kV_row_steps dc_row_steps pm_row_steps an_row_steps cd_row_steps ct_row_steps), sl_row_steps⟩)
    (c_row_steps : PySem.W.codeIn K cd_row_steps "row_steps" = true)
    (k_row_steps : PySem.W.keepIn K (.ref f_row_steps) = true)
    (a_risen_moments : PySem.W.nsIn K mainGlobals "risen_moments" = some (some (.ref f_risen_moments)))
    (l_risen_moments : K.lookup f_risen_moments = some ⟨oc_risen_moments, od_risen_moments, .func (PySem.W.fnOf "risen_moments" "risen_moments" (defArgs st_risen_moments) (defBody st_risen_moments) (defScope st_risen_moments) .none kV_risen_moments dc_risen_moments pm_risen_moments an_risen_moments cd_risen_moments ct_risen_moments), sl_risen_moments⟩)
    (c_risen_moments : PySem.W.codeIn K cd_risen_moments "risen_moments" = true)
    (k_risen_moments : PySem.W.keepIn K (.ref f_risen_moments) = true)
    (a_moments : PySem.W.nsIn K mainGlobals "moments" = some (some (.ref f_moments)))
    (l_moments : K.lookup f_moments = some ⟨oc_moments, od_moments, .func (PySem.W.fnOf "moments" "moments" (defArgs st_moments) (defBody st_moments) (defScope st_moments) .none kV_moments dc_moments pm_moments an_moments cd_moments ct_moments), sl_moments⟩)
    (c_moments : PySem.W.codeIn K cd_moments "moments" = true)
    (k_moments : PySem.W.keepIn K (.ref f_moments) = true)
    (a_is_upright : PySem.W.nsIn K mainGlobals "is_upright" = some (some (.ref f_is_upright)))
    (l_is_upright : K.lookup f_is_upright = some ⟨oc_is_upright, od_is_upright, .func (PySem.W.fnOf "is_upright" "is_upright" (defArgs st_is_upright) (defBody st_is_upright) (defScope st_is_upright) .none kV_is_upright dc_is_upright pm_is_upright an_is_upright cd_is_upright ct_is_upright), sl_is_upright⟩)
    (c_is_upright : PySem.W.codeIn K cd_is_upright "is_upright" = true)
    (k_is_upright : PySem.W.keepIn K (.ref f_is_upright) = true)
    (a_is_crown_step : PySem.W.nsIn K mainGlobals "is_crown_step" = some (some (.ref f_is_crown_step)))
    (l_is_crown_step : K.lookup f_is_crown_step = some ⟨oc_is_crown_step, od_is_crown_step, .func (PySem.W.fnOf "is_crown_step" "is_crown_step" (defArgs st_is_crown_step) (defBody st_is_crown_step) (defScope st_is_crown_step) .none kV_is_crown_step dc_is_crown_step pm_is_crown_step an_is_crown_step cd_is_crown_step ct_is_crown_step), sl_is_crown_step⟩)
    (c_is_crown_step : PySem.W.codeIn K cd_is_crown_step "is_crown_step" = true)
    (k_is_crown_step : PySem.W.keepIn K (.ref f_is_crown_step) = true)
    (a_crown_nexts : PySem.W.nsIn K mainGlobals "crown_nexts" = some (some (.ref f_crown_nexts)))
    (l_crown_nexts : K.lookup f_crown_nexts = some ⟨oc_crown_nexts, od_crown_nexts, .func (PySem.W.fnOf "crown_nexts" "crown_nexts" (defArgs st_crown_nexts) (defBody st_crown_nexts) (defScope st_crown_nexts) .none kV_crown_nexts dc_crown_nexts pm_crown_nexts an_crown_nexts cd_crown_nexts ct_crown_nexts), sl_crown_nexts⟩)
    (c_crown_nexts : PySem.W.codeIn K cd_crown_nexts "crown_nexts" = true)
    (k_crown_nexts : PySem.W.keepIn K (.ref f_crown_nexts) = true)
    (a_is_break : PySem.W.nsIn K mainGlobals "is_break" = some (some (.ref f_is_break)))
    (l_is_break : K.lookup f_is_break = some ⟨oc_is_break, od_is_break, .func (PySem.W.fnOf "is_break" "is_break" (defArgs st_is_break) (defBody st_is_break) (defScope st_is_break) .none kV_is_break dc_is_break pm_is_break an_is_break cd_is_break ct_is_break), sl_is_break⟩)
    (c_is_break : PySem.W.codeIn K cd_is_break "is_break" = true)
    (k_is_break : PySem.W.keepIn K (.ref f_is_break) = true)
    (a_breaks : PySem.W.nsIn K mainGlobals "breaks" = some (some (.ref f_breaks)))
    (l_breaks : K.lookup f_breaks = some ⟨oc_breaks, od_breaks, .func (PySem.W.fnOf "breaks" "breaks" (defArgs st_breaks) (defBody st_breaks) (defScope st_breaks) .none kV_breaks dc_breaks pm_breaks an_breaks cd_breaks ct_breaks), sl_breaks⟩)
    (c_breaks : PySem.W.codeIn K cd_breaks "breaks" = true)
    (k_breaks : PySem.W.keepIn K (.ref f_breaks) = true)
    (a_first_of : PySem.W.nsIn K mainGlobals "first_of" = some (some (.ref f_first_of)))
    (l_first_of : K.lookup f_first_of = some ⟨oc_first_of, od_first_of, .func (PySem.W.fnOf "first_of" "first_of" (defArgs st_first_of) (defBody st_first_of) (defScope st_first_of) .none kV_first_of dc_first_of pm_first_of an_first_of cd_first_of ct_first_of), sl_first_of⟩)
    (c_first_of : PySem.W.codeIn K cd_first_of "first_of" = true)
    (k_first_of : PySem.W.keepIn K (.ref f_first_of) = true)
    (a_causal_break : PySem.W.nsIn K mainGlobals "causal_break" = some (some (.ref f_causal_break)))
    (l_causal_break : K.lookup f_causal_break = some ⟨oc_causal_break, od_causal_break, .func (PySem.W.fnOf "causal_break" "causal_break" (defArgs st_causal_break) (defBody st_causal_break) (defScope st_causal_break) .none kV_causal_break dc_causal_break pm_causal_break an_causal_break cd_causal_break ct_causal_break), sl_causal_break⟩)
    (c_causal_break : PySem.W.codeIn K cd_causal_break "causal_break" = true)
    (k_causal_break : PySem.W.keepIn K (.ref f_causal_break) = true)
    (a_single_break : PySem.W.nsIn K mainGlobals "single_break" = some (some (.ref f_single_break)))
    (l_single_break : K.lookup f_single_break = some ⟨oc_single_break, od_single_break, .func (PySem.W.fnOf "single_break" "single_break" (defArgs st_single_break) (defBody st_single_break) (defScope st_single_break) .none kV_single_break dc_single_break pm_single_break an_single_break cd_single_break ct_single_break), sl_single_break⟩)
    (c_single_break : PySem.W.codeIn K cd_single_break "single_break" = true)
    (k_single_break : PySem.W.keepIn K (.ref f_single_break) = true)
    (a_is_causal : PySem.W.nsIn K mainGlobals "is_causal" = some (some (.ref f_is_causal)))
    (l_is_causal : K.lookup f_is_causal = some ⟨oc_is_causal, od_is_causal, .func (PySem.W.fnOf "is_causal" "is_causal" (defArgs st_is_causal) (defBody st_is_causal) (defScope st_is_causal) .none kV_is_causal dc_is_causal pm_is_causal an_is_causal cd_is_causal ct_is_causal), sl_is_causal⟩)
    (c_is_causal : PySem.W.codeIn K cd_is_causal "is_causal" = true)
    (k_is_causal : PySem.W.keepIn K (.ref f_is_causal) = true)
    (a_is_single : PySem.W.nsIn K mainGlobals "is_single" = some (some (.ref f_is_single)))
    (l_is_single : K.lookup f_is_single = some ⟨oc_is_single, od_is_single, .func (PySem.W.fnOf "is_single" "is_single" (defArgs st_is_single) (defBody st_is_single) (defScope st_is_single) .none kV_is_single dc_is_single pm_is_single an_is_single cd_is_single ct_is_single), sl_is_single⟩)
    (c_is_single : PySem.W.codeIn K cd_is_single "is_single" = true)
    (k_is_single : PySem.W.keepIn K (.ref f_is_single) = true)
    (a_kind : PySem.W.nsIn K mainGlobals "kind" = some (some (.ref f_kind)))
    (l_kind : K.lookup f_kind = some ⟨oc_kind, od_kind, .func (PySem.W.fnOf "kind" "kind" (defArgs st_kind) (defBody st_kind) (defScope st_kind) .none kV_kind dc_kind pm_kind an_kind cd_kind ct_kind), sl_kind⟩)
    (c_kind : PySem.W.codeIn K cd_kind "kind" = true)
    (k_kind : PySem.W.keepIn K (.ref f_kind) = true)
    (a_ring_from : PySem.W.nsIn K mainGlobals "ring_from" = some (some (.ref f_ring_from)))
    (l_ring_from : K.lookup f_ring_from = some ⟨oc_ring_from, od_ring_from, .func (PySem.W.fnOf "ring_from" "ring_from" (defArgs st_ring_from) (defBody st_ring_from) (defScope st_ring_from) .none kV_ring_from dc_ring_from pm_ring_from an_ring_from cd_ring_from ct_ring_from), sl_ring_from⟩)
    (c_ring_from : PySem.W.codeIn K cd_ring_from "ring_from" = true)
    (k_ring_from : PySem.W.keepIn K (.ref f_ring_from) = true)
    (a_crown : PySem.W.nsIn K mainGlobals "crown" = some (some (.ref f_crown)))
    (l_crown : K.lookup f_crown = some ⟨oc_crown, od_crown, .func (PySem.W.fnOf "crown" "crown" (defArgs st_crown) (defBody st_crown) (defScope st_crown) .none kV_crown dc_crown pm_crown an_crown cd_crown ct_crown), sl_crown⟩)
    (c_crown : PySem.W.codeIn K cd_crown "crown" = true)
    (k_crown : PySem.W.keepIn K (.ref f_crown) = true)
    (a_paper : PySem.W.nsIn K mainGlobals "paper" = some (some (.ref f_paper)))
    (l_paper : K.lookup f_paper = some ⟨oc_paper, od_paper, .func (PySem.W.fnOf "paper" "paper" (defArgs st_paper) (defBody st_paper) (defScope st_paper) .none kV_paper dc_paper pm_paper an_paper cd_paper ct_paper), sl_paper⟩)
    (c_paper : PySem.W.codeIn K cd_paper "paper" = true)
    (k_paper : PySem.W.keepIn K (.ref f_paper) = true)
    (a_are_moments : PySem.W.nsIn K mainGlobals "are_moments" = some (some (.ref f_are_moments)))
    (l_are_moments : K.lookup f_are_moments = some ⟨oc_are_moments, od_are_moments, .func (PySem.W.fnOf "are_moments" "are_moments" (defArgs st_are_moments) (defBody st_are_moments) (defScope st_are_moments) .none kV_are_moments dc_are_moments pm_are_moments an_are_moments cd_are_moments ct_are_moments), sl_are_moments⟩)
    (c_are_moments : PySem.W.codeIn K cd_are_moments "are_moments" = true)
    (k_are_moments : PySem.W.keepIn K (.ref f_are_moments) = true)
    (a_is_hand_pair : PySem.W.nsIn K mainGlobals "is_hand_pair" = some (some (.ref f_is_hand_pair)))
    (l_is_hand_pair : K.lookup f_is_hand_pair = some ⟨oc_is_hand_pair, od_is_hand_pair, .func (PySem.W.fnOf "is_hand_pair" "is_hand_pair" (defArgs st_is_hand_pair) (defBody st_is_hand_pair) (defScope st_is_hand_pair) .none kV_is_hand_pair dc_is_hand_pair pm_is_hand_pair an_is_hand_pair cd_is_hand_pair ct_is_hand_pair), sl_is_hand_pair⟩)
    (c_is_hand_pair : PySem.W.codeIn K cd_is_hand_pair "is_hand_pair" = true)
    (k_is_hand_pair : PySem.W.keepIn K (.ref f_is_hand_pair) = true)
    (a_is_crown : PySem.W.nsIn K mainGlobals "is_crown" = some (some (.ref f_is_crown)))
    (l_is_crown : K.lookup f_is_crown = some ⟨oc_is_crown, od_is_crown, .func (PySem.W.fnOf "is_crown" "is_crown" (defArgs st_is_crown) (defBody st_is_crown) (defScope st_is_crown) .none kV_is_crown dc_is_crown pm_is_crown an_is_crown cd_is_crown ct_is_crown), sl_is_crown⟩)
    (c_is_crown : PySem.W.codeIn K cd_is_crown "is_crown" = true)
    (k_is_crown : PySem.W.keepIn K (.ref f_is_crown) = true)
    (a_is_paper : PySem.W.nsIn K mainGlobals "is_paper" = some (some (.ref f_is_paper)))
    (l_is_paper : K.lookup f_is_paper = some ⟨oc_is_paper, od_is_paper, .func (PySem.W.fnOf "is_paper" "is_paper" (defArgs st_is_paper) (defBody st_is_paper) (defScope st_is_paper) .none kV_is_paper dc_is_paper pm_is_paper an_is_paper cd_is_paper ct_is_paper), sl_is_paper⟩)
    (c_is_paper : PySem.W.codeIn K cd_is_paper "is_paper" = true)
    (k_is_paper : PySem.W.keepIn K (.ref f_is_paper) = true)
    (a_law_doings : PySem.W.nsIn K mainGlobals "_law_doings" = some (some (.ref f_law_doings)))
    (l_law_doings : K.lookup f_law_doings = some ⟨oc_law_doings, od_law_doings, .func (PySem.W.fnOf "_law_doings" "_law_doings" (defArgs st__law_doings) (defBody st__law_doings) (defScope st__law_doings) .none kV_law_doings dc_law_doings pm_law_doings an_law_doings cd_law_doings ct_law_doings), sl_law_doings⟩)
    (c_law_doings : PySem.W.codeIn K cd_law_doings "_law_doings" = true)
    (k_law_doings : PySem.W.keepIn K (.ref f_law_doings) = true)
    (a_law_many : PySem.W.nsIn K mainGlobals "_law_many" = some (some (.ref f_law_many)))
    (l_law_many : K.lookup f_law_many = some ⟨oc_law_many, od_law_many, .func (PySem.W.fnOf "_law_many" "_law_many" (defArgs st__law_many) (defBody st__law_many) (defScope st__law_many) .none kV_law_many dc_law_many pm_law_many an_law_many cd_law_many ct_law_many), sl_law_many⟩)
    (c_law_many : PySem.W.codeIn K cd_law_many "_law_many" = true)
    (k_law_many : PySem.W.keepIn K (.ref f_law_many) = true)
    (a_law_ring : PySem.W.nsIn K mainGlobals "_law_ring" = some (some (.ref f_law_ring)))
    (l_law_ring : K.lookup f_law_ring = some ⟨oc_law_ring, od_law_ring, .func (PySem.W.fnOf "_law_ring" "_law_ring" (defArgs st__law_ring) (defBody st__law_ring) (defScope st__law_ring) .none kV_law_ring dc_law_ring pm_law_ring an_law_ring cd_law_ring ct_law_ring), sl_law_ring⟩)
    (c_law_ring : PySem.W.codeIn K cd_law_ring "_law_ring" = true)
    (k_law_ring : PySem.W.keepIn K (.ref f_law_ring) = true)
    (a_drawn : PySem.W.nsIn K mainGlobals "drawn" = some (some (.ref f_drawn)))
    (l_drawn : K.lookup f_drawn = some ⟨oc_drawn, od_drawn, .func (PySem.W.fnOf "drawn" "drawn" (defArgs st_drawn) (defBody st_drawn) (defScope st_drawn) .none kV_drawn dc_drawn pm_drawn an_drawn cd_drawn ct_drawn), sl_drawn⟩)
    (c_drawn : PySem.W.codeIn K cd_drawn "drawn" = true)
    (k_drawn : PySem.W.keepIn K (.ref f_drawn) = true)
    (a_law_order : PySem.W.nsIn K mainGlobals "_law_order" = some (some (.ref f_law_order)))
    (l_law_order : K.lookup f_law_order = some ⟨oc_law_order, od_law_order, .func (PySem.W.fnOf "_law_order" "_law_order" (defArgs s_order) (defBody s_order) (defScope s_order) .none kV_law_order dc_law_order pm_law_order an_law_order cd_law_order ct_law_order), sl_law_order⟩)
    (c_law_order : PySem.W.codeIn K cd_law_order "_law_order" = true)
    (k_law_order : PySem.W.keepIn K (.ref f_law_order) = true)
    (a_law_named : PySem.W.nsIn K mainGlobals "_law_named" = some (some (.ref f_law_named)))
    (l_law_named : K.lookup f_law_named = some ⟨oc_law_named, od_law_named, .func (PySem.W.fnOf "_law_named" "_law_named" (defArgs st_named) (defBody st_named) (defScope st_named) .none kV_law_named dc_law_named pm_law_named an_law_named cd_law_named ct_law_named), sl_law_named⟩)
    (c_law_named : PySem.W.codeIn K cd_law_named "_law_named" = true)
    (k_law_named : PySem.W.keepIn K (.ref f_law_named) = true)
    (a_law : PySem.W.nsIn K mainGlobals "law" = some (some (.ref f_law)))
    (l_law : K.lookup f_law = some ⟨oc_law, od_law, .func (PySem.W.fnOf "law" "law" (defArgs st_law) (defBody st_law) (defScope st_law) .none kV_law dc_law pm_law an_law cd_law ct_law), sl_law⟩)
    (c_law : PySem.W.codeIn K cd_law "law" = true)
    (k_law : PySem.W.keepIn K (.ref f_law) = true) :
    ∃ fd : FuncData, (∀ (s : Shared) (v : Value), BindsTo s fd ⟨[v], []⟩ [("script", v)]) ∧ ∀ base : Heap, K.In base → base.Ns mainGlobals mg → FnOk P w K mg base CX0 11 fa fd ["script"] (spLaw K) := by
  have e := hfa.symm.trans (PySem.W.mg_of X G a_law)
  cases e
  have F_is_whole := fun_mk (st := s_is_whole) l_is_whole c_is_whole k_is_whole
  have b_is_whole := F_is_whole.binds (ps := ["value"]) fun _ _ _ _ _ _ us hl => match us, hl with | [_], _ => rfl
  have F_is_index := fun_mk (st := s_is_index) l_is_index c_is_index k_is_index
  have b_is_index := F_is_index.binds (ps := ["value", "many"]) fun _ _ _ _ _ _ us hl => match us, hl with | [_, _], _ => rfl
  have F_is_listing := fun_mk (st := s_is_listing) l_is_listing c_is_listing k_is_listing
  have b_is_listing := F_is_listing.binds (ps := ["value", "most"]) fun _ _ _ _ _ _ us hl => match us, hl with | [_, _], _ => rfl
  have F_is_couple := fun_mk (st := s_is_couple) l_is_couple c_is_couple k_is_couple
  have b_is_couple := F_is_couple.binds (ps := ["value"]) fun _ _ _ _ _ _ us hl => match us, hl with | [_], _ => rfl
  have F_is_doing := fun_mk (st := s_is_doing) l_is_doing c_is_doing k_is_doing
  have b_is_doing := F_is_doing.binds (ps := ["value", "many"]) fun _ _ _ _ _ _ us hl => match us, hl with | [_, _], _ => rfl
  have F_copied_rows := fun_mk (st := s_copied_rows) l_copied_rows c_copied_rows k_copied_rows
  have b_copied_rows := F_copied_rows.binds (ps := ["rows"]) fun _ _ _ _ _ _ us hl => match us, hl with | [_], _ => rfl
  have F_found_places := fun_mk (st := s_found_places) l_found_places c_found_places k_found_places
  have b_found_places := F_found_places.binds (ps := ["rows"]) fun _ _ _ _ _ _ us hl => match us, hl with | [_], _ => rfl
  have F_count_letters := fun_mk (st := s_count_letters) l_count_letters c_count_letters k_count_letters
  have b_count_letters := F_count_letters.binds (ps := ["places"]) fun _ _ _ _ _ _ us hl => match us, hl with | [_], _ => rfl
  have F_check_letters := fun_mk (st := s_check_letters) l_check_letters c_check_letters k_check_letters
  have b_check_letters := F_check_letters.binds (ps := ["places", "many"]) fun _ _ _ _ _ _ us hl => match us, hl with | [_, _], _ => rfl
  have F_found_hands := fun_mk (st := s_found_hands) l_found_hands c_found_hands k_found_hands
  have b_found_hands := F_found_hands.binds (ps := ["places", "word", "many"]) fun _ _ _ _ _ _ us hl => match us, hl with | [_, _, _], _ => rfl
  have F_found_clocks := fun_mk (st := s_found_clocks) l_found_clocks c_found_clocks k_found_clocks
  have b_found_clocks := F_found_clocks.binds (ps := ["rows"]) fun _ _ _ _ _ _ us hl => match us, hl with | [_], _ => rfl
  have F_row_clocks := fun_mk (st := s_row_clocks) l_row_clocks c_row_clocks k_row_clocks
  have b_row_clocks := F_row_clocks.binds (ps := ["hand", "row", "hands", "clocks"]) fun _ _ _ _ _ _ us hl => match us, hl with | [_, _, _, _], _ => rfl
  have F_law_mixed := fun_mk (st := sMix) l_law_mixed c_law_mixed k_law_mixed
  have b_law_mixed := F_law_mixed.binds (ps := ["cell", "n"]) fun _ _ _ _ _ _ us hl => match us, hl with | [_, _], _ => rfl
  have F_law_folded := fun_mk (st := sFol) l_law_folded c_law_folded k_law_folded
  have b_law_folded := F_law_folded.binds (ps := ["script"]) fun _ _ _ _ _ _ us hl => match us, hl with | [_], _ => rfl
  have F_law_draw := fun_mk (st := sDrw) l_law_draw c_law_draw k_law_draw
  have b_law_draw := F_law_draw.binds (ps := ["m", "limit"]) fun _ _ _ _ _ _ us hl => match us, hl with | [_, _], _ => rfl
  have F_law_begun := fun_mk (st := sBeg) l_law_begun c_law_begun k_law_begun
  have b_law_begun := F_law_begun.binds (ps := ["script"]) fun _ _ _ _ _ _ us hl => match us, hl with | [_], _ => rfl
  have FTI := fun_mk (st := s_tinit) lTI cTI kTI
  have bTI := FTI.binds (ps := ["self", "rows"]) fun _ _ _ _ _ _ us hl => match us, hl with | [_, _], _ => rfl
  have FTE := fun_mk (st := s_teq) lTE cTE kTE
  have bTE := FTE.binds (ps := ["self", "other"]) fun _ _ _ _ _ _ us hl => match us, hl with | [_, _], _ => rfl
  have F_check_doing := fun_mk (st := st_check_doing) l_check_doing c_check_doing k_check_doing
  have b_check_doing := F_check_doing.binds (ps := ["talk", "value"]) fun _ _ _ _ _ _ us hl => match us, hl with | [_, _], _ => rfl
  have F_is_ahead := fun_mk (st := st_is_ahead) l_is_ahead c_is_ahead k_is_ahead
  have b_is_ahead := F_is_ahead.binds (ps := ["talk", "one", "other"]) fun _ _ _ _ _ _ us hl => match us, hl with | [_, _, _], _ => rfl
  have F_clock := fun_mk (st := st_clock) l_clock c_clock k_clock
  have b_clock := F_clock.binds (ps := ["talk", "doing"]) fun _ _ _ _ _ _ us hl => match us, hl with | [_, _], _ => rfl
  have F_row_steps := fun_mk (st := st_row_steps) l_row_steps c_row_steps k_row_steps
  have b_row_steps := F_row_steps.binds (ps := ["talk"]) fun _ _ _ _ _ _ us hl => match us, hl with | [_], _ => rfl
  have F_risen_moments := fun_mk (st := st_risen_moments) l_risen_moments c_risen_moments k_risen_moments
  have b_risen_moments := F_risen_moments.binds (ps := ["steps", "least"]) fun _ _ _ _ _ _ us hl => match us, hl with | [_, _], _ => rfl
  have F_moments := fun_mk (st := st_moments) l_moments c_moments k_moments
  have b_moments := F_moments.binds (ps := ["talk"]) fun _ _ _ _ _ _ us hl => match us, hl with | [_], _ => rfl
  have F_is_upright := fun_mk (st := st_is_upright) l_is_upright c_is_upright k_is_upright
  have b_is_upright := F_is_upright.binds (ps := ["talk"]) fun _ _ _ _ _ _ us hl => match us, hl with | [_], _ => rfl
  have F_is_crown_step := fun_mk (st := st_is_crown_step) l_is_crown_step c_is_crown_step k_is_crown_step
  have b_is_crown_step := F_is_crown_step.binds (ps := ["talk", "one", "other"]) fun _ _ _ _ _ _ us hl => match us, hl with | [_, _, _], _ => rfl
  have F_crown_nexts := fun_mk (st := st_crown_nexts) l_crown_nexts c_crown_nexts k_crown_nexts
  have b_crown_nexts := F_crown_nexts.binds (ps := ["talk", "letter"]) fun _ _ _ _ _ _ us hl => match us, hl with | [_, _], _ => rfl
  have F_is_break := fun_mk (st := st_is_break) l_is_break c_is_break k_is_break
  have b_is_break := F_is_break.binds (ps := ["talk", "one", "other"]) fun _ _ _ _ _ _ us hl => match us, hl with | [_, _, _], _ => rfl
  have F_breaks := fun_mk (st := st_breaks) l_breaks c_breaks k_breaks
  have b_breaks := F_breaks.binds (ps := ["talk"]) fun _ _ _ _ _ _ us hl => match us, hl with | [_], _ => rfl
  have F_first_of := fun_mk (st := st_first_of) l_first_of c_first_of k_first_of
  have b_first_of := F_first_of.binds (ps := ["found"]) fun _ _ _ _ _ _ us hl => match us, hl with | [_], _ => rfl
  have F_causal_break := fun_mk (st := st_causal_break) l_causal_break c_causal_break k_causal_break
  have b_causal_break := F_causal_break.binds (ps := ["talk"]) fun _ _ _ _ _ _ us hl => match us, hl with | [_], _ => rfl
  have F_single_break := fun_mk (st := st_single_break) l_single_break c_single_break k_single_break
  have b_single_break := F_single_break.binds (ps := ["talk"]) fun _ _ _ _ _ _ us hl => match us, hl with | [_], _ => rfl
  have F_is_causal := fun_mk (st := st_is_causal) l_is_causal c_is_causal k_is_causal
  have b_is_causal := F_is_causal.binds (ps := ["talk"]) fun _ _ _ _ _ _ us hl => match us, hl with | [_], _ => rfl
  have F_is_single := fun_mk (st := st_is_single) l_is_single c_is_single k_is_single
  have b_is_single := F_is_single.binds (ps := ["talk"]) fun _ _ _ _ _ _ us hl => match us, hl with | [_], _ => rfl
  have F_kind := fun_mk (st := st_kind) l_kind c_kind k_kind
  have b_kind := F_kind.binds (ps := ["talk"]) fun _ _ _ _ _ _ us hl => match us, hl with | [_], _ => rfl
  have F_ring_from := fun_mk (st := st_ring_from) l_ring_from c_ring_from k_ring_from
  have b_ring_from := F_ring_from.binds (ps := ["nexts", "first"]) fun _ _ _ _ _ _ us hl => match us, hl with | [_, _], _ => rfl
  have F_crown := fun_mk (st := st_crown) l_crown c_crown k_crown
  have b_crown := F_crown.binds (ps := ["talk"]) fun _ _ _ _ _ _ us hl => match us, hl with | [_], _ => rfl
  have F_paper := fun_mk (st := st_paper) l_paper c_paper k_paper
  have b_paper := F_paper.binds (ps := ["talk"]) fun _ _ _ _ _ _ us hl => match us, hl with | [_], _ => rfl
  have F_are_moments := fun_mk (st := st_are_moments) l_are_moments c_are_moments k_are_moments
  have b_are_moments := F_are_moments.binds (ps := ["talk", "told"]) fun _ _ _ _ _ _ us hl => match us, hl with | [_, _], _ => rfl
  have F_is_hand_pair := fun_mk (st := st_is_hand_pair) l_is_hand_pair c_is_hand_pair k_is_hand_pair
  have b_is_hand_pair := F_is_hand_pair.binds (ps := ["value", "hands"]) fun _ _ _ _ _ _ us hl => match us, hl with | [_, _], _ => rfl
  have F_is_crown := fun_mk (st := st_is_crown) l_is_crown c_is_crown k_is_crown
  have b_is_crown := F_is_crown.binds (ps := ["talk", "told"]) fun _ _ _ _ _ _ us hl => match us, hl with | [_, _], _ => rfl
  have F_is_paper := fun_mk (st := st_is_paper) l_is_paper c_is_paper k_is_paper
  have b_is_paper := F_is_paper.binds (ps := ["talk", "value"]) fun _ _ _ _ _ _ us hl => match us, hl with | [_, _], _ => rfl
  have F_law_doings := fun_mk (st := st__law_doings) l_law_doings c_law_doings k_law_doings
  have b_law_doings := F_law_doings.binds (ps := ["rows"]) fun _ _ _ _ _ _ us hl => match us, hl with | [_], _ => rfl
  have F_law_many := fun_mk (st := st__law_many) l_law_many c_law_many k_law_many
  have b_law_many := F_law_many.binds (ps := ["rows"]) fun _ _ _ _ _ _ us hl => match us, hl with | [_], _ => rfl
  have F_law_ring := fun_mk (st := st__law_ring) l_law_ring c_law_ring k_law_ring
  have b_law_ring := F_law_ring.binds (ps := ["size"]) fun _ _ _ _ _ _ us hl => match us, hl with | [_], _ => rfl
  have F_drawn := fun_mk (st := st_drawn) l_drawn c_drawn k_drawn
  have b_drawn := F_drawn.binds (ps := ["hands", "pairs"]) fun _ _ _ _ _ _ us hl => match us, hl with | [_, _], _ => rfl
  have F_law_order := fun_mk (st := s_order) l_law_order c_law_order k_law_order
  have b_law_order := F_law_order.binds (ps := ["m", "many"]) fun _ _ _ _ _ _ us hl => match us, hl with | [_, _], _ => rfl
  have F_law_named := fun_mk (st := st_named) l_law_named c_law_named k_law_named
  have b_law_named := F_law_named.binds (ps := ["m", "rows"]) fun _ _ _ _ _ _ us hl => match us, hl with | [_, _], _ => rfl
  have F_law := fun_mk (st := st_law) l_law c_law k_law
  have b_law := F_law.binds (ps := ["script"]) fun _ _ _ _ _ _ us hl => match us, hl with | [_], _ => rfl
  have TB : TxtB mg := ⟨(PySem.W.mg_none_of X G z_int), (PySem.W.mg_none_of X G z_len), (PySem.W.mg_none_of X G z_range), (PySem.W.mg_none_of X G z_enumerate)⟩
  have TC : TxtC mg := ⟨TB, (PySem.W.mg_none_of X G z_isinstance), (PySem.W.mg_none_of X G z_bool), (PySem.W.mg_none_of X G z_str), (PySem.W.mg_none_of X G z_list), (PySem.W.mg_none_of X G z_tuple)⟩
  have TM : TxtM mg := ⟨TC, (PySem.W.mg_none_of X G z_max)⟩
  have TZ : TxtZ mg := ⟨TM, (PySem.W.mg_none_of X G z_zip)⟩
  have TT : TxtT K mg CT f_copied_rows f_found_places f_count_letters f_check_letters f_found_hands f_found_clocks := ⟨TZ, ⟨pgT, hdT, poT, saT⟩, n_rows, n_places, n_many, n_senders, n_getters, n_clocks, (PySem.W.mg_of X G aT), (PySem.W.mg_of X G a_copied_rows), (PySem.W.mg_of X G a_found_places), (PySem.W.mg_of X G a_count_letters), (PySem.W.mg_of X G a_check_letters), (PySem.W.mg_of X G a_found_hands), (PySem.W.mg_of X G a_found_clocks)⟩
  have JT : IsTalk K CT := ⟨caT, cn, ct, cmT, kit_sub sfT icT tyT sfT⟩
  have TQ : TalkQ K CT fTE := ⟨JT, a2T, i2T, neT⟩
  have TV : TxtV K mg ⟨fun _ => CT, w⟩ := ⟨TZ, (PySem.W.mg_none_of X G z_min), (PySem.W.mg_none_of X G z_set), (PySem.W.mg_none_of X G z_sorted), (PySem.W.mg_none_of X G z_sum), ⟨pgT, hdT, poT, saT⟩, n_rows, n_places, n_many, n_senders, n_getters, n_clocks⟩
  refine ⟨PySem.W.fnOf "law" "law" (defArgs st_law) (defBody st_law) (defScope st_law) .none kV_law dc_law pm_law an_law cd_law ct_law, fun st u => .of_eq rfl, fun base KB GB0 => ?_⟩
  have GB : FnOk P w K mg base CX0 2 f_law_begun _ ["script"] (spBeg K) := ok_beg F_law_begun ⟨TB, (PySem.W.mg_of X G a_law_folded)⟩ F_law_folded b_law_folded
  have GD : FnOk P w K mg base CX0 2 f_law_draw _ ["m", "limit"] spDrw := ok_drw F_law_draw ⟨TB, (PySem.W.mg_of X G a_law_mixed)⟩ F_law_mixed b_law_mixed
  have GI : FnOk P w K mg base CX0 2 f_is_index _ ["value", "many"] spIndex := ok_index F_is_index ⟨TC, (PySem.W.mg_of X G a_is_whole)⟩ F_is_whole b_is_whole
  have GO : FnOk P w K mg base CX0 3 f_is_doing _ ["value", "many"] spDoing := ok_doing F_is_doing ⟨TC, (PySem.W.mg_of X G a_is_couple), (PySem.W.mg_of X G a_is_index)⟩ F_is_couple b_is_couple F_is_index b_is_index GI
  have GP : FnOk P w K mg base CX0 4 f_found_places _ ["rows"] spPlaces := ok_places F_found_places ⟨TC, (PySem.W.mg_of X G a_is_doing), tL, (PySem.W.mg_of X G mL)⟩ F_is_doing b_is_doing GO
  have GC : FnOk P w K mg base CX0 2 f_copied_rows _ ["rows"] spCopy := ok_copy F_copied_rows ⟨TC, (PySem.W.mg_of X G a_is_listing), tH, (PySem.W.mg_of X G mH)⟩ F_is_listing b_is_listing
  have GK : ∀ Ck, FnOk P w K mg base CX0 4 f_found_clocks _ ["rows"] (spClocks Sl0 Ck) := fun Ck => (ok_clocks F_found_clocks ⟨TZ, (PySem.W.mg_of X G a_row_clocks)⟩ F_row_clocks b_row_clocks).mono (by decide)
  have GT : ∀ Ck, FnOk P w K mg base CX0 5 fTI _ ["self", "rows"] (spTInit CT Sl0 Ck) := fun Ck => ok_tinit FTI TT F_copied_rows b_copied_rows GC F_found_places b_found_places GP F_count_letters b_count_letters F_check_letters b_check_letters F_found_hands b_found_hands k_found_clocks b_found_clocks (GK Ck)
  have GQ : FnR P w K mg base CX0 1 fTE (spTEq K CT) := ((ok_teq FTE TT JT).raw bTE .nil).imp fun vs H Q E h => by rw [List.append_nil]; exact h
  have MT : Mk K CT fTI := ⟨msT, a1T, i1T, kcT⟩
  have d_is_whole := df_is_whole (P := P) (w := w) (base := base) (cm := ⟨fun _ => CT, w⟩) ⟨F_is_whole, (PySem.W.mg_of X G a_is_whole), b_is_whole⟩ TV 
  have d_is_index := df_is_index (P := P) (w := w) (base := base) (cm := ⟨fun _ => CT, w⟩) ⟨F_is_index, (PySem.W.mg_of X G a_is_index), b_is_index⟩ TV d_is_whole
  have d_is_couple := df_is_couple (P := P) (w := w) (base := base) (cm := ⟨fun _ => CT, w⟩) ⟨F_is_couple, (PySem.W.mg_of X G a_is_couple), b_is_couple⟩ TV 
  have d_is_doing := df_is_doing (P := P) (w := w) (base := base) (cm := ⟨fun _ => CT, w⟩) ⟨F_is_doing, (PySem.W.mg_of X G a_is_doing), b_is_doing⟩ TV d_is_index d_is_couple
  have d_check_doing := df_check_doing (P := P) (w := w) (base := base) (cm := ⟨fun _ => CT, w⟩) ⟨F_check_doing, (PySem.W.mg_of X G a_check_doing), b_check_doing⟩ TV d_is_doing
  have d_is_ahead := df_is_ahead (P := P) (w := w) (base := base) (cm := ⟨fun _ => CT, w⟩) ⟨F_is_ahead, (PySem.W.mg_of X G a_is_ahead), b_is_ahead⟩ TV d_check_doing
  have d_clock := df_clock (P := P) (w := w) (base := base) (cm := ⟨fun _ => CT, w⟩) ⟨F_clock, (PySem.W.mg_of X G a_clock), b_clock⟩ TV d_check_doing
  have d_row_steps := df_row_steps (P := P) (w := w) (base := base) (cm := ⟨fun _ => CT, w⟩) ⟨F_row_steps, (PySem.W.mg_of X G a_row_steps), b_row_steps⟩ TV 
  have d_risen_moments := df_risen_moments (P := P) (w := w) (base := base) (cm := ⟨fun _ => CT, w⟩) ⟨F_risen_moments, (PySem.W.mg_of X G a_risen_moments), b_risen_moments⟩ TV 
  have d_moments := df_moments (P := P) (w := w) (base := base) (cm := ⟨fun _ => CT, w⟩) ⟨F_moments, (PySem.W.mg_of X G a_moments), b_moments⟩ TV d_risen_moments d_row_steps
  have d_is_upright := df_is_upright (P := P) (w := w) (base := base) (cm := ⟨fun _ => CT, w⟩) ⟨F_is_upright, (PySem.W.mg_of X G a_is_upright), b_is_upright⟩ TV d_moments
  have d_is_crown_step := df_is_crown_step (P := P) (w := w) (base := base) (cm := ⟨fun _ => CT, w⟩) ⟨F_is_crown_step, (PySem.W.mg_of X G a_is_crown_step), b_is_crown_step⟩ TV d_is_ahead
  have d_crown_nexts := df_crown_nexts (P := P) (w := w) (base := base) (cm := ⟨fun _ => CT, w⟩) ⟨F_crown_nexts, (PySem.W.mg_of X G a_crown_nexts), b_crown_nexts⟩ TV d_is_crown_step
  have d_is_break := df_is_break (P := P) (w := w) (base := base) (cm := ⟨fun _ => CT, w⟩) ⟨F_is_break, (PySem.W.mg_of X G a_is_break), b_is_break⟩ TV d_is_ahead
  have d_breaks := df_breaks (P := P) (w := w) (base := base) (cm := ⟨fun _ => CT, w⟩) ⟨F_breaks, (PySem.W.mg_of X G a_breaks), b_breaks⟩ TV d_is_break
  have d_first_of := df_first_of (P := P) (w := w) (base := base) (cm := ⟨fun _ => CT, w⟩) ⟨F_first_of, (PySem.W.mg_of X G a_first_of), b_first_of⟩ TV 
  have d_causal_break := df_causal_break (P := P) (w := w) (base := base) (cm := ⟨fun _ => CT, w⟩) ⟨F_causal_break, (PySem.W.mg_of X G a_causal_break), b_causal_break⟩ TV d_breaks d_first_of
  have d_single_break := df_single_break (P := P) (w := w) (base := base) (cm := ⟨fun _ => CT, w⟩) ⟨F_single_break, (PySem.W.mg_of X G a_single_break), b_single_break⟩ TV d_breaks d_first_of
  have d_is_causal := df_is_causal (P := P) (w := w) (base := base) (cm := ⟨fun _ => CT, w⟩) ⟨F_is_causal, (PySem.W.mg_of X G a_is_causal), b_is_causal⟩ TV d_causal_break
  have d_is_single := df_is_single (P := P) (w := w) (base := base) (cm := ⟨fun _ => CT, w⟩) ⟨F_is_single, (PySem.W.mg_of X G a_is_single), b_is_single⟩ TV d_single_break
  have d_kind := df_kind (P := P) (w := w) (base := base) (cm := ⟨fun _ => CT, w⟩) ⟨F_kind, (PySem.W.mg_of X G a_kind), b_kind⟩ TV d_is_single d_is_causal d_is_upright
  have d_ring_from := df_ring_from (P := P) (w := w) (base := base) (cm := ⟨fun _ => CT, w⟩) ⟨F_ring_from, (PySem.W.mg_of X G a_ring_from), b_ring_from⟩ TV rfl 
  have d_crown := df_crown (P := P) (w := w) (base := base) (cm := ⟨fun _ => CT, w⟩) ⟨F_crown, (PySem.W.mg_of X G a_crown), b_crown⟩ TV d_ring_from d_crown_nexts
  have d_paper := df_paper (P := P) (w := w) (base := base) (cm := ⟨fun _ => CT, w⟩) ⟨F_paper, (PySem.W.mg_of X G a_paper), b_paper⟩ TV d_crown d_moments
  have d_are_moments := df_are_moments (P := P) (w := w) (base := base) (cm := ⟨fun _ => CT, w⟩) ⟨F_are_moments, (PySem.W.mg_of X G a_are_moments), b_are_moments⟩ TV d_row_steps d_is_whole
  have d_is_listing := df_is_listing (P := P) (w := w) (base := base) (cm := ⟨fun _ => CT, w⟩) ⟨F_is_listing, (PySem.W.mg_of X G a_is_listing), b_is_listing⟩ TV 
  have d_is_hand_pair := df_is_hand_pair (P := P) (w := w) (base := base) (cm := ⟨fun _ => CT, w⟩) ⟨F_is_hand_pair, (PySem.W.mg_of X G a_is_hand_pair), b_is_hand_pair⟩ TV d_is_index d_is_couple
  have d_is_crown := df_is_crown (P := P) (w := w) (base := base) (cm := ⟨fun _ => CT, w⟩) ⟨F_is_crown, (PySem.W.mg_of X G a_is_crown), b_is_crown⟩ TV d_is_crown_step d_is_index
  have d_is_paper := df_is_paper (P := P) (w := w) (base := base) (cm := ⟨fun _ => CT, w⟩) ⟨F_is_paper, (PySem.W.mg_of X G a_is_paper), b_is_paper⟩ TV d_is_crown d_are_moments d_is_couple
  have d__law_doings := df__law_doings (P := P) (w := w) (base := base) (cm := ⟨fun _ => CT, w⟩) ⟨F_law_doings, (PySem.W.mg_of X G a_law_doings), b_law_doings⟩ TV 
  have d__law_many := df__law_many (P := P) (w := w) (base := base) (cm := ⟨fun _ => CT, w⟩) ⟨F_law_many, (PySem.W.mg_of X G a_law_many), b_law_many⟩ TV d__law_doings
  have d__law_ring := df__law_ring (P := P) (w := w) (base := base) (cm := ⟨fun _ => CT, w⟩) ⟨F_law_ring, (PySem.W.mg_of X G a_law_ring), b_law_ring⟩ TV 
  have d_drawn := df_drawn (P := P) (w := w) (base := base) (cm := ⟨fun _ => CT, w⟩) ⟨F_drawn, (PySem.W.mg_of X G a_drawn), b_drawn⟩ TV d_is_index d_is_listing d_is_hand_pair (PySem.W.mg_of X G mH) (PySem.W.mg_of X G mL) rfl MT GT bTI (PySem.W.mg_of X G aT)
  have GO : FnOk P w K mg base CX0 3 f_law_order _ ["m", "many"] spOrder := ok_order F_law_order ⟨⟨TB, (PySem.W.mg_of X G a_law_draw)⟩, (PySem.W.mg_none_of X G z_list)⟩ F_law_draw b_law_draw GD
  have GN := ok_named (P := P) (w := w) (base := base) (cm := ⟨fun _ => CT, w⟩) F_law_named TV d__law_many (PySem.W.mg_of X G a_law_order) F_law_order b_law_order GO
  exact ok_law U1 U2 U3 F_law TV d_breaks d_kind d_crown d_moments d_is_upright d__law_ring d_is_paper d_drawn d_is_ahead d_paper d_clock (PySem.W.mg_of X G a_law_begun) (PySem.W.mg_of X G a_law_named) F_law_begun b_law_begun GB F_law_named b_law_named GN rfl MT GT bTI (PySem.W.mg_of X G aT)
end Up

open PySem PySem.W PyProof.Rows
set_option maxRecDepth 100000 in
set_option maxHeartbeats 0 in
theorem PySem.Challenge.cw_uprightletters_k20_talks_by_hand_holds : PySem.Challenge.rw_uprightletters_k20_talks_by_hand.Holds := by
  w_on; o_law; k_head; (case hw => w_witness2)
  k_fill
  refine L2.walk_of (l := PySem.Challenge.rw_uprightletters_k20_talks_by_hand) (n := 63) (k := 11) (x := "script") (CX := fun _ => L2.CX0) (sp := fun w => Up.spLaw _) rfl (by decide) rfl ⟨rfl, by decide, by decide⟩ (fun w h Y => PySem.W.kIn_of Y) ?F (fun w H a ns hl _ hS => ⟨a, ns, rfl, hS, hl, fun _ => rfl⟩) (fun _ _ _ _ _ h => h)
  case F =>
    intro w mg fa h KX G hmg
    refine' Up.all_mk KX G hmg ?z_int ?z_len ?z_range ?z_enumerate ?z_isinstance ?z_bool ?z_str ?z_list ?z_tuple ?z_max ?z_zip ?z_min ?z_set ?z_sorted ?z_sum ?mH ?mL ?a_is_whole ?l_is_whole ?c_is_whole ?k_is_whole ?a_is_index ?l_is_index ?c_is_index ?k_is_index ?a_is_listing ?l_is_listing ?c_is_listing ?k_is_listing ?a_is_couple ?l_is_couple ?c_is_couple ?k_is_couple ?a_is_doing ?l_is_doing ?c_is_doing ?k_is_doing ?a_copied_rows ?l_copied_rows ?c_copied_rows ?k_copied_rows ?a_found_places ?l_found_places ?c_found_places ?k_found_places ?a_count_letters ?l_count_letters ?c_count_letters ?k_count_letters ?a_check_letters ?l_check_letters ?c_check_letters ?k_check_letters ?a_found_hands ?l_found_hands ?c_found_hands ?k_found_hands ?a_found_clocks ?l_found_clocks ?c_found_clocks ?k_found_clocks ?a_row_clocks ?l_row_clocks ?c_row_clocks ?k_row_clocks ?a_law_mixed ?l_law_mixed ?c_law_mixed ?k_law_mixed ?a_law_folded ?l_law_folded ?c_law_folded ?k_law_folded ?a_law_draw ?l_law_draw ?c_law_draw ?k_law_draw ?a_law_begun ?l_law_begun ?c_law_begun ?k_law_begun ?cn ?ct ?aT ?pgT ?hdT ?poT ?saT ?msT ?kcT ?caT ?cmT ?neT ?icT ?tyT ?sfT ?a1T ?i1T ?a2T ?i2T ?n_rows ?n_places ?n_many ?n_senders ?n_getters ?n_clocks ?lTI ?cTI ?kTI ?lTE ?cTE ?kTE ?a_check_doing ?l_check_doing ?c_check_doing ?k_check_doing ?a_is_ahead ?l_is_ahead ?c_is_ahead ?k_is_ahead ?a_clock ?l_clock ?c_clock ?k_clock ?a_row_steps ?l_row_steps ?c_row_steps ?k_row_steps ?a_risen_moments ?l_risen_moments ?c_risen_moments ?k_risen_moments ?a_moments ?l_moments ?c_moments ?k_moments ?a_is_upright ?l_is_upright ?c_is_upright ?k_is_upright ?a_is_crown_step ?l_is_crown_step ?c_is_crown_step ?k_is_crown_step ?a_crown_nexts ?l_crown_nexts ?c_crown_nexts ?k_crown_nexts ?a_is_break ?l_is_break ?c_is_break ?k_is_break ?a_breaks ?l_breaks ?c_breaks ?k_breaks ?a_first_of ?l_first_of ?c_first_of ?k_first_of ?a_causal_break ?l_causal_break ?c_causal_break ?k_causal_break ?a_single_break ?l_single_break ?c_single_break ?k_single_break ?a_is_causal ?l_is_causal ?c_is_causal ?k_is_causal ?a_is_single ?l_is_single ?c_is_single ?k_is_single ?a_kind ?l_kind ?c_kind ?k_kind ?a_ring_from ?l_ring_from ?c_ring_from ?k_ring_from ?a_crown ?l_crown ?c_crown ?k_crown ?a_paper ?l_paper ?c_paper ?k_paper ?a_are_moments ?l_are_moments ?c_are_moments ?k_are_moments ?a_is_hand_pair ?l_is_hand_pair ?c_is_hand_pair ?k_is_hand_pair ?a_is_crown ?l_is_crown ?c_is_crown ?k_is_crown ?a_is_paper ?l_is_paper ?c_is_paper ?k_is_paper ?a_law_doings ?l_law_doings ?c_law_doings ?k_law_doings ?a_law_many ?l_law_many ?c_law_many ?k_law_many ?a_law_ring ?l_law_ring ?c_law_ring ?k_law_ring ?a_drawn ?l_drawn ?c_drawn ?k_drawn ?a_law_order ?l_law_order ?c_law_order ?k_law_order ?a_law_named ?l_law_named ?c_law_named ?k_law_named ?a_law ?l_law ?c_law ?k_law
    (case z_int => k_is)
    (case z_len => k_is)
    (case z_range => k_is)
    (case z_enumerate => k_is)
    (case z_isinstance => k_is)
    (case z_bool => k_is)
    (case z_str => k_is)
    (case z_list => k_is)
    (case z_tuple => k_is)
    (case z_max => k_is)
    (case z_zip => k_is)
    (case z_min => k_is)
    (case z_set => k_is)
    (case z_sorted => k_is)
    (case z_sum => k_is)
    (case mH => k_is)
    (case mL => k_is)
    (case a_is_whole => k_is)
    (case l_is_whole => k_is)
    (case c_is_whole => k_is)
    (case k_is_whole => k_is)
    (case a_is_index => k_is)
    (case l_is_index => k_is)
    (case c_is_index => k_is)
    (case k_is_index => k_is)
    (case a_is_listing => k_is)
    (case l_is_listing => k_is)
    (case c_is_listing => k_is)
    (case k_is_listing => k_is)
    (case a_is_couple => k_is)
    (case l_is_couple => k_is)
    (case c_is_couple => k_is)
    (case k_is_couple => k_is)
    (case a_is_doing => k_is)
    (case l_is_doing => k_is)
    (case c_is_doing => k_is)
    (case k_is_doing => k_is)
    (case a_copied_rows => k_is)
    (case l_copied_rows => k_is)
    (case c_copied_rows => k_is)
    (case k_copied_rows => k_is)
    (case a_found_places => k_is)
    (case l_found_places => k_is)
    (case c_found_places => k_is)
    (case k_found_places => k_is)
    (case a_count_letters => k_is)
    (case l_count_letters => k_is)
    (case c_count_letters => k_is)
    (case k_count_letters => k_is)
    (case a_check_letters => k_is)
    (case l_check_letters => k_is)
    (case c_check_letters => k_is)
    (case k_check_letters => k_is)
    (case a_found_hands => k_is)
    (case l_found_hands => k_is)
    (case c_found_hands => k_is)
    (case k_found_hands => k_is)
    (case a_found_clocks => k_is)
    (case l_found_clocks => k_is)
    (case c_found_clocks => k_is)
    (case k_found_clocks => k_is)
    (case a_row_clocks => k_is)
    (case l_row_clocks => k_is)
    (case c_row_clocks => k_is)
    (case k_row_clocks => k_is)
    (case a_law_mixed => k_is)
    (case l_law_mixed => k_is)
    (case c_law_mixed => k_is)
    (case k_law_mixed => k_is)
    (case a_law_folded => k_is)
    (case l_law_folded => k_is)
    (case c_law_folded => k_is)
    (case k_law_folded => k_is)
    (case a_law_draw => k_is)
    (case l_law_draw => k_is)
    (case c_law_draw => k_is)
    (case k_law_draw => k_is)
    (case a_law_begun => k_is)
    (case l_law_begun => k_is)
    (case c_law_begun => k_is)
    (case k_law_begun => k_is)
    (case cn => k_is)
    (case ct => k_is)
    (case aT => k_is)
    (case pgT => k_is)
    (case hdT => k_is)
    (case poT => k_is)
    (case saT => k_is)
    (case msT => k_is)
    (case kcT => k_is)
    (case caT => k_is)
    (case cmT => k_is)
    (case neT => k_is)
    (case icT => k_is)
    (case tyT => k_is)
    (case sfT => k_is)
    (case a1T => k_is)
    (case i1T => k_is)
    (case a2T => k_is)
    (case i2T => k_is)
    (case n_rows => k_is)
    (case n_places => k_is)
    (case n_many => k_is)
    (case n_senders => k_is)
    (case n_getters => k_is)
    (case n_clocks => k_is)
    (case lTI => k_is)
    (case cTI => k_is)
    (case kTI => k_is)
    (case lTE => k_is)
    (case cTE => k_is)
    (case kTE => k_is)
    (case a_check_doing => k_is)
    (case l_check_doing => k_is)
    (case c_check_doing => k_is)
    (case k_check_doing => k_is)
    (case a_is_ahead => k_is)
    (case l_is_ahead => k_is)
    (case c_is_ahead => k_is)
    (case k_is_ahead => k_is)
    (case a_clock => k_is)
    (case l_clock => k_is)
    (case c_clock => k_is)
    (case k_clock => k_is)
    (case a_row_steps => k_is)
    (case l_row_steps => k_is)
    (case c_row_steps => k_is)
    (case k_row_steps => k_is)
    (case a_risen_moments => k_is)
    (case l_risen_moments => k_is)
    (case c_risen_moments => k_is)
    (case k_risen_moments => k_is)
    (case a_moments => k_is)
    (case l_moments => k_is)
    (case c_moments => k_is)
    (case k_moments => k_is)
    (case a_is_upright => k_is)
    (case l_is_upright => k_is)
    (case c_is_upright => k_is)
    (case k_is_upright => k_is)
    (case a_is_crown_step => k_is)
    (case l_is_crown_step => k_is)
    (case c_is_crown_step => k_is)
    (case k_is_crown_step => k_is)
    (case a_crown_nexts => k_is)
    (case l_crown_nexts => k_is)
    (case c_crown_nexts => k_is)
    (case k_crown_nexts => k_is)
    (case a_is_break => k_is)
    (case l_is_break => k_is)
    (case c_is_break => k_is)
    (case k_is_break => k_is)
    (case a_breaks => k_is)
    (case l_breaks => k_is)
    (case c_breaks => k_is)
    (case k_breaks => k_is)
    (case a_first_of => k_is)
    (case l_first_of => k_is)
    (case c_first_of => k_is)
    (case k_first_of => k_is)
    (case a_causal_break => k_is)
    (case l_causal_break => k_is)
    (case c_causal_break => k_is)
    (case k_causal_break => k_is)
    (case a_single_break => k_is)
    (case l_single_break => k_is)
    (case c_single_break => k_is)
    (case k_single_break => k_is)
    (case a_is_causal => k_is)
    (case l_is_causal => k_is)
    (case c_is_causal => k_is)
    (case k_is_causal => k_is)
    (case a_is_single => k_is)
    (case l_is_single => k_is)
    (case c_is_single => k_is)
    (case k_is_single => k_is)
    (case a_kind => k_is)
    (case l_kind => k_is)
    (case c_kind => k_is)
    (case k_kind => k_is)
    (case a_ring_from => k_is)
    (case l_ring_from => k_is)
    (case c_ring_from => k_is)
    (case k_ring_from => k_is)
    (case a_crown => k_is)
    (case l_crown => k_is)
    (case c_crown => k_is)
    (case k_crown => k_is)
    (case a_paper => k_is)
    (case l_paper => k_is)
    (case c_paper => k_is)
    (case k_paper => k_is)
    (case a_are_moments => k_is)
    (case l_are_moments => k_is)
    (case c_are_moments => k_is)
    (case k_are_moments => k_is)
    (case a_is_hand_pair => k_is)
    (case l_is_hand_pair => k_is)
    (case c_is_hand_pair => k_is)
    (case k_is_hand_pair => k_is)
    (case a_is_crown => k_is)
    (case l_is_crown => k_is)
    (case c_is_crown => k_is)
    (case k_is_crown => k_is)
    (case a_is_paper => k_is)
    (case l_is_paper => k_is)
    (case c_is_paper => k_is)
    (case k_is_paper => k_is)
    (case a_law_doings => k_is)
    (case l_law_doings => k_is)
    (case c_law_doings => k_is)
    (case k_law_doings => k_is)
    (case a_law_many => k_is)
    (case l_law_many => k_is)
    (case c_law_many => k_is)
    (case k_law_many => k_is)
    (case a_law_ring => k_is)
    (case l_law_ring => k_is)
    (case c_law_ring => k_is)
    (case k_law_ring => k_is)
    (case a_drawn => k_is)
    (case l_drawn => k_is)
    (case c_drawn => k_is)
    (case k_drawn => k_is)
    (case a_law_order => k_is)
    (case l_law_order => k_is)
    (case c_law_order => k_is)
    (case k_law_order => k_is)
    (case a_law_named => k_is)
    (case l_law_named => k_is)
    (case c_law_named => k_is)
    (case k_law_named => k_is)
    (case a_law => k_is)
    (case l_law => k_is)
    (case c_law => k_is)
    (case k_law => k_is)
#print axioms PySem.Challenge.cw_uprightletters_k20_talks_by_hand_holds
